/-
  The landed aes: double, Times, inverse, a byte rotated.
-/
import Derived.Test.YtlkjngbelckgkaaAesT
namespace Go.Proofs.Ytlkjngbelckgkaa
open Go.RowKit

namespace Aes
theorem dbl_all : ∀ a, a < 256 → (a * 2 % 256) ^^^ (a / 128 * 27) = tm 2 a := by decide +kernel
/-- Doubled so often. -/
def dn (a : Nat) : Nat → Nat
  | 0 => a
  | i + 1 => tm 2 (dn a i)
theorem dn_lt (a i : Nat) (ha : a < 256) : dn a i < 256 := by
  cases i with
  | zero => exact ha
  | succ i => exact tm_lt _ _
theorem dn_xor (a b i : Nat) : dn (a ^^^ b) i = dn a i ^^^ dn b i := by
  induction i with
  | zero => rfl
  | succ i ih => simp only [dn, ih, tm_xor]
/-- The landed product, behind so many bits of b. -/
def ts (a b : Nat) : Nat → Nat
  | 0 => 0
  | i + 1 => if b / 2 ^ i % 2 = 1 then ts a b i ^^^ dn a i else ts a b i
theorem ts_lt (a b i : Nat) (ha : a < 256) : ts a b i < 256 := by
  induction i with
  | zero => exact (by decide : (0 : Nat) < 256)
  | succ i ih =>
    unfold ts
    split
    · exact Nat.xor_lt_two_pow (n := 8) ih (dn_lt a i ha)
    · exact ih
theorem ts_xor (a b c i : Nat) : ts a (b ^^^ c) i = ts a b i ^^^ ts a c i := by
  induction i with
  | zero => simp [ts]
  | succ i ih =>
    simp only [ts, ih]
    have := xor_bit b c i
    by_cases h1 : b / 2 ^ i % 2 = 1 <;> by_cases h2 : c / 2 ^ i % 2 = 1 <;> simp only [h1, h2, if_true, if_false] <;> simp only [h1, h2] at this <;> simp only [this]
    · simp only [not_true_eq_false, if_false]
      rw [show ts a b i ^^^ dn a i ^^^ (ts a c i ^^^ dn a i) = ts a b i ^^^ ts a c i ^^^ (dn a i ^^^ dn a i) by ac_rfl, Nat.xor_self, Nat.xor_zero]
    · simp; ac_rfl
    · simp; ac_rfl
    · simp
theorem ts_xor' (a b c i : Nat) : ts (a ^^^ b) c i = ts a c i ^^^ ts b c i := by
  induction i with
  | zero => simp [ts]
  | succ i ih =>
    simp only [ts, ih, dn_xor]
    by_cases h1 : c / 2 ^ i % 2 = 1
    · simp only [h1, if_true]; ac_rfl
    · simp only [h1, if_false]
theorem ts_bits : ∀ i, i < 8 → ∀ j, j < 8 → ts (2 ^ i) (2 ^ j) 8 = tm (2 ^ i) (2 ^ j) := by decide +kernel
theorem ts_all (a b : Nat) (ha : a < 256) (hb : b < 256) : ts a b 8 = tm a b := by
  refine lin_ext (fun x => ts x b 8) (fun x => tm x b) (fun x y => ts_xor' x y b 8) (fun x y => tm_xor' x y b) 8 (fun i hi => ?_) a ha
  exact lin_ext (fun y => ts (2 ^ i) y 8) (fun y => tm (2 ^ i) y) (fun x y => ts_xor _ x y 8) (fun x y => tm_xor _ x y) 8 (fun j hj => ts_bits i hi j hj) b hb
/-- Squared so often. -/
def sq (a : Nat) : Nat → Nat
  | 0 => a
  | i + 1 => tm (sq a i) (sq a i)
def pw (a : Nat) : Nat → Nat
  | 0 => 1
  | i + 1 => tm (pw a i) (sq a (i + 1))
theorem pw_all : ∀ a, a < 256 → pw a 7 = invT.getD a 0 := by decide +kernel
theorem pw_inv (a : Nat) (ha : a < 256) : pw a 7 = iv a 255 := (pw_all a ha).trans (iv_all a ha).symm
theorem sq_lt (a i : Nat) (ha : a < 256) : sq a i < 256 := by
  cases i with
  | zero => exact ha
  | succ i => exact tm_lt _ _
theorem pw_lt (a i : Nat) : pw a i < 256 := by
  cases i with
  | zero => exact (by decide : (1 : Nat) < 256)
  | succ i => exact tm_lt _ _
end Aes

set_option maxHeartbeats 1000000 in
theorem double_any (x : Nat) (w : World) (hx : x < 256) :
    Calls Try.prog 42 #[.int .u8 x] w fun e w' => e = .returned (.int .u8 (Aes.tm 2 x : Nat)) ∧ w' = w := by
  go_enter Try.func42, Try.ntmps42
  go_wp2_with fail
  go_ret
  refine ⟨ret_u8 ?_, rfl⟩
  have h := u8_xor_nat (x * 2 % 256) (x / 128 * 27) (by omega) (by omega)
  rw [Aes.dbl_all x hx] at h
  exact h

theorem rol_any (n k : Nat) (kI : Int) (hkI : kI = (k : Int)) (w : World) (hn : n < 256) (hk : k = 1 ∨ k = 2 ∨ k = 3 ∨ k = 4) :
    Calls Try.prog 41 #[.int .u8 n, .int .i64 kI] w fun e w' => e = .returned (.int .u8 (Aes.rol n k : Nat)) ∧ w' = w := by
  subst hkI
  have hb : bits .and .u64 (k : Int) 7 = ((k : Nat) : Int) := by
    rcases hk with rfl | rfl | rfl | rfl <;> decide
  rcases hk with rfl | rfl | rfl | rfl <;>
  · simp only [Int.cast_ofNat_Int] at hb
    go_enter Try.func41, Try.ntmps41
    go_wp2
    go_ret
    refine ⟨ret_u8 ?_, rfl⟩
    unfold Aes.rol
    rw [← u8_or_nat _ _ (Nat.mod_lt _ (by decide)) (Nat.lt_of_le_of_lt (Nat.div_le_self _ _) hn)]
    rfl

set_option maxHeartbeats 8000000 in
theorem atimes_any (x y : Nat) (w : World) (hx : x < 256) (hy : y < 256) :
    Calls Try.prog 25 #[.int .u8 x, .int .u8 y] w fun e w' => e = .returned (.int .u8 (Aes.tm x y : Nat)) ∧ w' = w := by
  go_enter Try.func25, Try.ntmps25
  go_wp2_with fail
  go_loopw [0, 5, 7] (fun s0 s5 s7 wr => ∃ i : Nat, i ≤ 8 ∧ s7 = .int .i64 i ∧ s5 = .int .u8 (Aes.ts x y i : Nat) ∧ s0 = .int .u8 (Aes.dn x i : Nat) ∧ wr = w) (fun _ _ s7 _ => 8 - (intOf s7).toNat)
  case atStart => exact ⟨0, by omega, rfl, rfl, rfl, rfl⟩
  case round =>
    obtain ⟨i, hi, rfl, rfl, rfl, rfl⟩ := hrel
    by_cases hlt : i < 8
    · have hc := Aes.ts_lt x y i hx
      have hd := Aes.dn_lt x i hx
      have hs : Aes.ts x y (i + 1) = if y / 2 ^ i % 2 = 1 then Aes.ts x y i ^^^ Aes.dn x i else Aes.ts x y i := rfl
      have hn : Aes.dn x (i + 1) = Aes.tm 2 (Aes.dn x i) := rfl
      generalize Aes.ts x y i = n at *
      generalize Aes.dn x i = d at *
      have DB := fun w => Lib.hid (double_any d w hd)
      rcases (show i = 0 ∨ i = 1 ∨ i = 2 ∨ i = 3 ∨ i = 4 ∨ i = 5 ∨ i = 6 ∨ i = 7 by omega) with rfl | rfl | rfl | rfl | rfl | rfl | rfl | rfl
      · have e := u8_bit0 y hy
        by_cases hb : y / 2 ^ 0 % 2 = 1
        · have hb' : y % 2 = 1 := by omega
          have hw : (bits .and .u8 ((y : Int)) 1 == 1) = true := by
            have := e
            rw [hb'] at this
            exact beq_iff_eq.2 this
          go_wp2_with (go_at_call 42; with_reducible refine (DB _).out.mono ?_; rintro e w1 ⟨rfl, rfl⟩)
          exact ⟨⟨1, by decide, rfl, by rw [hs, if_pos hb, ← u8_xor_nat n d hc hd], by rw [hn], trivial⟩, by simp [intOf]⟩
        · have hb' : y % 2 = 0 := by omega
          have hw : (bits .and .u8 ((y : Int)) 1 == 1) = false := by
            have := e
            rw [hb'] at this
            exact beq_eq_false_iff_ne.2 (fun h3 => absurd (this.symm.trans h3) (by decide))
          go_wp2_with (go_at_call 42; with_reducible refine (DB _).out.mono ?_; rintro e w1 ⟨rfl, rfl⟩)
          exact ⟨⟨1, by decide, rfl, by rw [hs, if_neg hb], by rw [hn], trivial⟩, by simp [intOf]⟩
      · have e := u8_bit y 2 hy
        by_cases hb : y / 2 ^ 1 % 2 = 1
        · have hb' : y / 2 % 2 = 1 := by omega
          have hw : (bits .and .u8 (((y : Int) / 2)) 1 == 1) = true := by
            have := e
            rw [hb'] at this
            exact beq_iff_eq.2 this
          go_wp2_with (go_at_call 42; with_reducible refine (DB _).out.mono ?_; rintro e w1 ⟨rfl, rfl⟩)
          exact ⟨⟨2, by decide, rfl, by rw [hs, if_pos hb, ← u8_xor_nat n d hc hd], by rw [hn], trivial⟩, by simp [intOf]⟩
        · have hb' : y / 2 % 2 = 0 := by omega
          have hw : (bits .and .u8 (((y : Int) / 2)) 1 == 1) = false := by
            have := e
            rw [hb'] at this
            exact beq_eq_false_iff_ne.2 (fun h3 => absurd (this.symm.trans h3) (by decide))
          go_wp2_with (go_at_call 42; with_reducible refine (DB _).out.mono ?_; rintro e w1 ⟨rfl, rfl⟩)
          exact ⟨⟨2, by decide, rfl, by rw [hs, if_neg hb], by rw [hn], trivial⟩, by simp [intOf]⟩
      · have e := u8_bit y 4 hy
        by_cases hb : y / 2 ^ 2 % 2 = 1
        · have hb' : y / 4 % 2 = 1 := by omega
          have hw : (bits .and .u8 (((y : Int) / 4)) 1 == 1) = true := by
            have := e
            rw [hb'] at this
            exact beq_iff_eq.2 this
          go_wp2_with (go_at_call 42; with_reducible refine (DB _).out.mono ?_; rintro e w1 ⟨rfl, rfl⟩)
          exact ⟨⟨3, by decide, rfl, by rw [hs, if_pos hb, ← u8_xor_nat n d hc hd], by rw [hn], trivial⟩, by simp [intOf]⟩
        · have hb' : y / 4 % 2 = 0 := by omega
          have hw : (bits .and .u8 (((y : Int) / 4)) 1 == 1) = false := by
            have := e
            rw [hb'] at this
            exact beq_eq_false_iff_ne.2 (fun h3 => absurd (this.symm.trans h3) (by decide))
          go_wp2_with (go_at_call 42; with_reducible refine (DB _).out.mono ?_; rintro e w1 ⟨rfl, rfl⟩)
          exact ⟨⟨3, by decide, rfl, by rw [hs, if_neg hb], by rw [hn], trivial⟩, by simp [intOf]⟩
      · have e := u8_bit y 8 hy
        by_cases hb : y / 2 ^ 3 % 2 = 1
        · have hb' : y / 8 % 2 = 1 := by omega
          have hw : (bits .and .u8 (((y : Int) / 8)) 1 == 1) = true := by
            have := e
            rw [hb'] at this
            exact beq_iff_eq.2 this
          go_wp2_with (go_at_call 42; with_reducible refine (DB _).out.mono ?_; rintro e w1 ⟨rfl, rfl⟩)
          exact ⟨⟨4, by decide, rfl, by rw [hs, if_pos hb, ← u8_xor_nat n d hc hd], by rw [hn], trivial⟩, by simp [intOf]⟩
        · have hb' : y / 8 % 2 = 0 := by omega
          have hw : (bits .and .u8 (((y : Int) / 8)) 1 == 1) = false := by
            have := e
            rw [hb'] at this
            exact beq_eq_false_iff_ne.2 (fun h3 => absurd (this.symm.trans h3) (by decide))
          go_wp2_with (go_at_call 42; with_reducible refine (DB _).out.mono ?_; rintro e w1 ⟨rfl, rfl⟩)
          exact ⟨⟨4, by decide, rfl, by rw [hs, if_neg hb], by rw [hn], trivial⟩, by simp [intOf]⟩
      · have e := u8_bit y 16 hy
        by_cases hb : y / 2 ^ 4 % 2 = 1
        · have hb' : y / 16 % 2 = 1 := by omega
          have hw : (bits .and .u8 (((y : Int) / 16)) 1 == 1) = true := by
            have := e
            rw [hb'] at this
            exact beq_iff_eq.2 this
          go_wp2_with (go_at_call 42; with_reducible refine (DB _).out.mono ?_; rintro e w1 ⟨rfl, rfl⟩)
          exact ⟨⟨5, by decide, rfl, by rw [hs, if_pos hb, ← u8_xor_nat n d hc hd], by rw [hn], trivial⟩, by simp [intOf]⟩
        · have hb' : y / 16 % 2 = 0 := by omega
          have hw : (bits .and .u8 (((y : Int) / 16)) 1 == 1) = false := by
            have := e
            rw [hb'] at this
            exact beq_eq_false_iff_ne.2 (fun h3 => absurd (this.symm.trans h3) (by decide))
          go_wp2_with (go_at_call 42; with_reducible refine (DB _).out.mono ?_; rintro e w1 ⟨rfl, rfl⟩)
          exact ⟨⟨5, by decide, rfl, by rw [hs, if_neg hb], by rw [hn], trivial⟩, by simp [intOf]⟩
      · have e := u8_bit y 32 hy
        by_cases hb : y / 2 ^ 5 % 2 = 1
        · have hb' : y / 32 % 2 = 1 := by omega
          have hw : (bits .and .u8 (((y : Int) / 32)) 1 == 1) = true := by
            have := e
            rw [hb'] at this
            exact beq_iff_eq.2 this
          go_wp2_with (go_at_call 42; with_reducible refine (DB _).out.mono ?_; rintro e w1 ⟨rfl, rfl⟩)
          exact ⟨⟨6, by decide, rfl, by rw [hs, if_pos hb, ← u8_xor_nat n d hc hd], by rw [hn], trivial⟩, by simp [intOf]⟩
        · have hb' : y / 32 % 2 = 0 := by omega
          have hw : (bits .and .u8 (((y : Int) / 32)) 1 == 1) = false := by
            have := e
            rw [hb'] at this
            exact beq_eq_false_iff_ne.2 (fun h3 => absurd (this.symm.trans h3) (by decide))
          go_wp2_with (go_at_call 42; with_reducible refine (DB _).out.mono ?_; rintro e w1 ⟨rfl, rfl⟩)
          exact ⟨⟨6, by decide, rfl, by rw [hs, if_neg hb], by rw [hn], trivial⟩, by simp [intOf]⟩
      · have e := u8_bit y 64 hy
        by_cases hb : y / 2 ^ 6 % 2 = 1
        · have hb' : y / 64 % 2 = 1 := by omega
          have hw : (bits .and .u8 (((y : Int) / 64)) 1 == 1) = true := by
            have := e
            rw [hb'] at this
            exact beq_iff_eq.2 this
          go_wp2_with (go_at_call 42; with_reducible refine (DB _).out.mono ?_; rintro e w1 ⟨rfl, rfl⟩)
          exact ⟨⟨7, by decide, rfl, by rw [hs, if_pos hb, ← u8_xor_nat n d hc hd], by rw [hn], trivial⟩, by simp [intOf]⟩
        · have hb' : y / 64 % 2 = 0 := by omega
          have hw : (bits .and .u8 (((y : Int) / 64)) 1 == 1) = false := by
            have := e
            rw [hb'] at this
            exact beq_eq_false_iff_ne.2 (fun h3 => absurd (this.symm.trans h3) (by decide))
          go_wp2_with (go_at_call 42; with_reducible refine (DB _).out.mono ?_; rintro e w1 ⟨rfl, rfl⟩)
          exact ⟨⟨7, by decide, rfl, by rw [hs, if_neg hb], by rw [hn], trivial⟩, by simp [intOf]⟩
      · have e := u8_bit y 128 hy
        by_cases hb : y / 2 ^ 7 % 2 = 1
        · have hb' : y / 128 % 2 = 1 := by omega
          have hw : (bits .and .u8 (((y : Int) / 128)) 1 == 1) = true := by
            have := e
            rw [hb'] at this
            exact beq_iff_eq.2 this
          go_wp2_with (go_at_call 42; with_reducible refine (DB _).out.mono ?_; rintro e w1 ⟨rfl, rfl⟩)
          exact ⟨⟨8, by decide, rfl, by rw [hs, if_pos hb, ← u8_xor_nat n d hc hd], by rw [hn], trivial⟩, by simp [intOf]⟩
        · have hb' : y / 128 % 2 = 0 := by omega
          have hw : (bits .and .u8 (((y : Int) / 128)) 1 == 1) = false := by
            have := e
            rw [hb'] at this
            exact beq_eq_false_iff_ne.2 (fun h3 => absurd (this.symm.trans h3) (by decide))
          go_wp2_with (go_at_call 42; with_reducible refine (DB _).out.mono ?_; rintro e w1 ⟨rfl, rfl⟩)
          exact ⟨⟨8, by decide, rfl, by rw [hs, if_neg hb], by rw [hn], trivial⟩, by simp [intOf]⟩
    · obtain rfl : i = 8 := by omega
      go_wp2_with fail
      go_ret
      exact ⟨by rw [Aes.ts_all x y hx hy]; rfl, rfl⟩

set_option maxHeartbeats 4000000 in
theorem inverse_any (x : Nat) (w : World) (hx : x < 256) :
    Calls Try.prog 40 #[.int .u8 x] w fun e w' => e = .returned (.int .u8 (Aes.iv x 255 : Nat)) ∧ w' = w := by
  go_enter Try.func40, Try.ntmps40
  go_wp2_with fail
  go_loopw [0, 3, 4] (fun s0 s3 s4 wr => ∃ i : Nat, i ≤ 7 ∧ s4 = .int .i64 i ∧ s3 = .int .u8 (Aes.pw x i : Nat) ∧ s0 = .int .u8 (Aes.sq x i : Nat) ∧ wr = w) (fun _ _ s4 _ => 7 - (intOf s4).toNat)
  case atStart => exact ⟨0, by omega, rfl, rfl, rfl, rfl⟩
  case round =>
    obtain ⟨i, hi, rfl, rfl, rfl, rfl⟩ := hrel
    by_cases hlt : i < 7
    · have h1 := Aes.sq_lt x i hx
      have h2 := Aes.pw_lt x i
      have h3 := Aes.sq_lt x (i + 1) hx
      obtain ⟨q, hq⟩ : ∃ q, q = Aes.sq x (i + 1) := ⟨_, rfl⟩
      obtain ⟨p, hp⟩ : ∃ p, p = Aes.pw x (i + 1) := ⟨_, rfl⟩
      have T1 := fun w => Lib.hid (atimes_any _ _ w h1 h1)
      have T2 := fun w => Lib.hid (atimes_any _ _ w h2 h3)
      rw [show Aes.tm (Aes.sq x i) (Aes.sq x i) = q from hq.symm] at T1
      rw [show Aes.tm (Aes.pw x i) (Aes.sq x (i + 1)) = p from hp.symm, ← hq] at T2
      have HQ := Lib.hid hq
      have HP := Lib.hid hp
      clear hq hp h1 h2 h3
      go_wp2_with (first
        | (go_at_call 25; with_reducible refine (T1 _).out.mono ?_; rintro e w1 ⟨rfl, rfl⟩)
        | (go_at_call 25; with_reducible refine (T2 _).out.mono ?_; rintro e w1 ⟨rfl, rfl⟩))
      exact ⟨⟨i + 1, by omega, by go_num, by rw [HP.out], by rw [HQ.out], trivial⟩, by simp [intOf]; omega⟩
    · obtain rfl : i = 7 := by omega
      go_wp2_with fail
      go_ret
      exact ⟨by rw [Aes.pw_inv x hx]; rfl, rfl⟩
end Go.Proofs.Ytlkjngbelckgkaa
