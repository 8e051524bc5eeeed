/-
  The document's answers to Times and Box.
-/
import Derived.Test.YtpjkicbfdknjcaaAesBox
namespace Go.Proofs.Ytpjkicbfdknjcaa
open Go.RowKit

theorem ret_u8 {a b : Int} (h : a = b) : Ending.returned (.int .u8 a) = .returned (.int .u8 b) := by rw [h]
def intOf : Value → Int
  | .int _ n => n
  | _ => 0
theorem clm_lt (a b i : Nat) (ha : a < 256) (hi : i ≤ 8) : Aes.clm a b i < 65536 := by
  induction i with
  | zero => exact (by decide : (0 : Nat) < 65536)
  | succ i ih =>
    unfold Aes.clm
    have h1 := ih (by omega)
    split
    · refine Nat.xor_lt_two_pow (n := 16) h1 ?_
      have : 2 ^ i ≤ 2 ^ 7 := Nat.pow_le_pow_right (by decide) (by omega)
      have := Nat.mul_le_mul (Nat.le_of_lt_succ ha) this
      omega
    · exact h1
theorem rd_lt (n j : Nat) (hn : n < 65536) : Aes.rd n j < 65536 := by
  induction j with
  | zero => exact hn
  | succ j ih =>
    unfold Aes.rd
    split
    · refine Nat.xor_lt_two_pow (n := 16) ih ?_
      have : 2 ^ (6 - j) ≤ 2 ^ 6 := Nat.pow_le_pow_right (by decide) (by omega)
      have := Nat.mul_le_mul (Nat.le_refl 283) this
      omega
    · exact ih
theorem ofInt64 (a : Nat) (ha : a < 65536) : (BitVec.ofInt 64 (a : Int)).toNat = a := by
  rw [BitVec.ofInt_natCast, BitVec.toNat_ofNat]; exact Nat.mod_eq_of_lt (by omega)
theorem i64_xor (a b : Nat) (ha : a < 65536) (hb : b < 65536) : bits .xor .i64 (a : Int) (b : Int) = ((a ^^^ b : Nat) : Int) := by
  have hx : a ^^^ b < 2 ^ 16 := Nat.xor_lt_two_pow (by omega) (by omega)
  show IntKind.i64.wrap ((BitVec.ofInt 64 (a : Int) ^^^ BitVec.ofInt 64 (b : Int)).toNat : Int) = _
  rw [BitVec.toNat_xor, ofInt64 a ha, ofInt64 b hb]
  exact IntWalk.i64_in _ ⟨by omega, by omega⟩
theorem i64_bit (n d : Nat) (hn : n < 65536) : bits .and .i64 ((n : Int) / (d : Int)) 1 = ((n / d % 2 : Nat) : Int) := by
  have hd : n / d < 65536 := Nat.lt_of_le_of_lt (Nat.div_le_self _ _) hn
  have h1 : ((n : Int) / (d : Int)) = ((n / d : Nat) : Int) := rfl
  rw [h1]
  show IntKind.i64.wrap ((BitVec.ofInt 64 ((n / d : Nat) : Int) &&& BitVec.ofInt 64 ((1 : Nat) : Int)).toNat : Int) = _
  rw [BitVec.toNat_and, ofInt64 _ hd, ofInt64 1 (by decide), Nat.and_one_is_mod]
  exact IntWalk.i64_in _ ⟨by omega, by omega⟩
theorem u8_bit0 (n : Nat) (hn : n < 256) : bits .and .u8 (n : Int) 1 = ((n % 2 : Nat) : Int) := by
  have h1 := u8_and_nat n 1 hn (by decide)
  rw [Nat.and_one_is_mod] at h1
  exact h1
theorem u8_bit (n d : Nat) (hn : n < 256) : bits .and .u8 ((n : Int) / (d : Int)) 1 = ((n / d % 2 : Nat) : Int) := by
  have hd : n / d < 256 := Nat.lt_of_le_of_lt (Nat.div_le_self _ _) hn
  have h1 := u8_and_nat (n / d) 1 hd (by decide)
  rw [Nat.and_one_is_mod] at h1
  exact h1

set_option maxHeartbeats 8000000 in
theorem rtimes_any (x y : Nat) (w : World) (hx : x < 256) (hy : y < 256) :
    Calls Try.prog 10 #[.int .u8 x, .int .u8 y] w fun e w' => e = .returned (.int .u8 (Aes.tm x y : Nat)) ∧ w' = w := by
  go_enter Try.func10, Try.ntmps10
  go_wp2_with fail
  go_loopw [5, 6] (fun s5 s6 wr => ∃ i : Nat, i ≤ 8 ∧ s6 = .int .i64 i ∧ s5 = .int .i64 (Aes.clm x y i : Nat) ∧ wr = w) (fun _ s6 _ => 8 - (intOf s6).toNat)
  case atStart => exact ⟨0, by omega, rfl, rfl, rfl⟩
  case round =>
    obtain ⟨i, hi, rfl, rfl, rfl⟩ := hrel
    by_cases hlt : i < 8
    · have hc := clm_lt x y i hx hi
      have hs : Aes.clm x y (i + 1) = if y / 2 ^ i % 2 = 1 then Aes.clm x y i ^^^ (x * 2 ^ i) else Aes.clm x y i := rfl
      generalize Aes.clm x y i = n at *
      rcases (show i = 0 ∨ i = 1 ∨ i = 2 ∨ i = 3 ∨ i = 4 ∨ i = 5 ∨ i = 6 ∨ i = 7 by omega) with rfl | rfl | rfl | rfl | rfl | rfl | rfl | rfl
      · have e := u8_bit0 y hy
        have hx8 : ((x * 2 ^ 0 : Nat) : Int) = (x : Int) := by omega
        by_cases hb : y / 2 ^ 0 % 2 = 1
        · have hb' : y % 2 = 1 := by omega
          have hw : (bits .and .u8 ((y : Int)) 1 == 1) = true := by
            have := e
            rw [hb'] at this
            exact beq_iff_eq.2 this
          go_wp2_with fail
          exact ⟨⟨1, by decide, rfl, by rw [hs, if_pos hb, ← i64_xor n (x * 2 ^ 0) hc (by omega), hx8], trivial⟩, by decide⟩
        · have hb' : y % 2 = 0 := by omega
          have hw : (bits .and .u8 ((y : Int)) 1 == 1) = false := by
            have := e
            rw [hb'] at this
            exact beq_eq_false_iff_ne.2 (by
              intro h3
              have h4 := this.symm.trans h3
              exact absurd h4 (by decide))
          go_wp2_with fail
          exact ⟨⟨1, by decide, rfl, by rw [hs, if_neg hb], trivial⟩, by decide⟩
      · have e := u8_bit y 2 hy
        have hx8 : ((x * 2 ^ 1 : Nat) : Int) = (x : Int) * 2 := by omega
        by_cases hb : y / 2 ^ 1 % 2 = 1
        · have hb' : y / 2 % 2 = 1 := by omega
          have hw : (bits .and .u8 ((y : Int) / 2) 1 == 1) = true := by
            have := e
            rw [hb'] at this
            exact beq_iff_eq.2 this
          go_wp2_with fail
          exact ⟨⟨2, by decide, rfl, by rw [hs, if_pos hb, ← i64_xor n (x * 2 ^ 1) hc (by omega), hx8], trivial⟩, by decide⟩
        · have hb' : y / 2 % 2 = 0 := by omega
          have hw : (bits .and .u8 ((y : Int) / 2) 1 == 1) = false := by
            have := e
            rw [hb'] at this
            exact beq_eq_false_iff_ne.2 (by
              intro h3
              have h4 := this.symm.trans h3
              exact absurd h4 (by decide))
          go_wp2_with fail
          exact ⟨⟨2, by decide, rfl, by rw [hs, if_neg hb], trivial⟩, by decide⟩
      · have e := u8_bit y 4 hy
        have hx8 : ((x * 2 ^ 2 : Nat) : Int) = (x : Int) * 4 := by omega
        by_cases hb : y / 2 ^ 2 % 2 = 1
        · have hb' : y / 4 % 2 = 1 := by omega
          have hw : (bits .and .u8 ((y : Int) / 4) 1 == 1) = true := by
            have := e
            rw [hb'] at this
            exact beq_iff_eq.2 this
          go_wp2_with fail
          exact ⟨⟨3, by decide, rfl, by rw [hs, if_pos hb, ← i64_xor n (x * 2 ^ 2) hc (by omega), hx8], trivial⟩, by decide⟩
        · have hb' : y / 4 % 2 = 0 := by omega
          have hw : (bits .and .u8 ((y : Int) / 4) 1 == 1) = false := by
            have := e
            rw [hb'] at this
            exact beq_eq_false_iff_ne.2 (by
              intro h3
              have h4 := this.symm.trans h3
              exact absurd h4 (by decide))
          go_wp2_with fail
          exact ⟨⟨3, by decide, rfl, by rw [hs, if_neg hb], trivial⟩, by decide⟩
      · have e := u8_bit y 8 hy
        have hx8 : ((x * 2 ^ 3 : Nat) : Int) = (x : Int) * 8 := by omega
        by_cases hb : y / 2 ^ 3 % 2 = 1
        · have hb' : y / 8 % 2 = 1 := by omega
          have hw : (bits .and .u8 ((y : Int) / 8) 1 == 1) = true := by
            have := e
            rw [hb'] at this
            exact beq_iff_eq.2 this
          go_wp2_with fail
          exact ⟨⟨4, by decide, rfl, by rw [hs, if_pos hb, ← i64_xor n (x * 2 ^ 3) hc (by omega), hx8], trivial⟩, by decide⟩
        · have hb' : y / 8 % 2 = 0 := by omega
          have hw : (bits .and .u8 ((y : Int) / 8) 1 == 1) = false := by
            have := e
            rw [hb'] at this
            exact beq_eq_false_iff_ne.2 (by
              intro h3
              have h4 := this.symm.trans h3
              exact absurd h4 (by decide))
          go_wp2_with fail
          exact ⟨⟨4, by decide, rfl, by rw [hs, if_neg hb], trivial⟩, by decide⟩
      · have e := u8_bit y 16 hy
        have hx8 : ((x * 2 ^ 4 : Nat) : Int) = (x : Int) * 16 := by omega
        by_cases hb : y / 2 ^ 4 % 2 = 1
        · have hb' : y / 16 % 2 = 1 := by omega
          have hw : (bits .and .u8 ((y : Int) / 16) 1 == 1) = true := by
            have := e
            rw [hb'] at this
            exact beq_iff_eq.2 this
          go_wp2_with fail
          exact ⟨⟨5, by decide, rfl, by rw [hs, if_pos hb, ← i64_xor n (x * 2 ^ 4) hc (by omega), hx8], trivial⟩, by decide⟩
        · have hb' : y / 16 % 2 = 0 := by omega
          have hw : (bits .and .u8 ((y : Int) / 16) 1 == 1) = false := by
            have := e
            rw [hb'] at this
            exact beq_eq_false_iff_ne.2 (by
              intro h3
              have h4 := this.symm.trans h3
              exact absurd h4 (by decide))
          go_wp2_with fail
          exact ⟨⟨5, by decide, rfl, by rw [hs, if_neg hb], trivial⟩, by decide⟩
      · have e := u8_bit y 32 hy
        have hx8 : ((x * 2 ^ 5 : Nat) : Int) = (x : Int) * 32 := by omega
        by_cases hb : y / 2 ^ 5 % 2 = 1
        · have hb' : y / 32 % 2 = 1 := by omega
          have hw : (bits .and .u8 ((y : Int) / 32) 1 == 1) = true := by
            have := e
            rw [hb'] at this
            exact beq_iff_eq.2 this
          go_wp2_with fail
          exact ⟨⟨6, by decide, rfl, by rw [hs, if_pos hb, ← i64_xor n (x * 2 ^ 5) hc (by omega), hx8], trivial⟩, by decide⟩
        · have hb' : y / 32 % 2 = 0 := by omega
          have hw : (bits .and .u8 ((y : Int) / 32) 1 == 1) = false := by
            have := e
            rw [hb'] at this
            exact beq_eq_false_iff_ne.2 (by
              intro h3
              have h4 := this.symm.trans h3
              exact absurd h4 (by decide))
          go_wp2_with fail
          exact ⟨⟨6, by decide, rfl, by rw [hs, if_neg hb], trivial⟩, by decide⟩
      · have e := u8_bit y 64 hy
        have hx8 : ((x * 2 ^ 6 : Nat) : Int) = (x : Int) * 64 := by omega
        by_cases hb : y / 2 ^ 6 % 2 = 1
        · have hb' : y / 64 % 2 = 1 := by omega
          have hw : (bits .and .u8 ((y : Int) / 64) 1 == 1) = true := by
            have := e
            rw [hb'] at this
            exact beq_iff_eq.2 this
          go_wp2_with fail
          exact ⟨⟨7, by decide, rfl, by rw [hs, if_pos hb, ← i64_xor n (x * 2 ^ 6) hc (by omega), hx8], trivial⟩, by decide⟩
        · have hb' : y / 64 % 2 = 0 := by omega
          have hw : (bits .and .u8 ((y : Int) / 64) 1 == 1) = false := by
            have := e
            rw [hb'] at this
            exact beq_eq_false_iff_ne.2 (by
              intro h3
              have h4 := this.symm.trans h3
              exact absurd h4 (by decide))
          go_wp2_with fail
          exact ⟨⟨7, by decide, rfl, by rw [hs, if_neg hb], trivial⟩, by decide⟩
      · have e := u8_bit y 128 hy
        have hx8 : ((x * 2 ^ 7 : Nat) : Int) = (x : Int) * 128 := by omega
        by_cases hb : y / 2 ^ 7 % 2 = 1
        · have hb' : y / 128 % 2 = 1 := by omega
          have hw : (bits .and .u8 ((y : Int) / 128) 1 == 1) = true := by
            have := e
            rw [hb'] at this
            exact beq_iff_eq.2 this
          go_wp2_with fail
          exact ⟨⟨8, by decide, rfl, by rw [hs, if_pos hb, ← i64_xor n (x * 2 ^ 7) hc (by omega), hx8], trivial⟩, by decide⟩
        · have hb' : y / 128 % 2 = 0 := by omega
          have hw : (bits .and .u8 ((y : Int) / 128) 1 == 1) = false := by
            have := e
            rw [hb'] at this
            exact beq_eq_false_iff_ne.2 (by
              intro h3
              have h4 := this.symm.trans h3
              exact absurd h4 (by decide))
          go_wp2_with fail
          exact ⟨⟨8, by decide, rfl, by rw [hs, if_neg hb], trivial⟩, by decide⟩
    · obtain rfl : i = 8 := by omega
      have hc8 := clm_lt x y 8 hx (by decide)
      have HT := Lib.hid (show Aes.tm x y = Aes.rd (Aes.clm x y 8) 7 % 256 from rfl)
      generalize Aes.clm x y 8 = c8 at *
      go_upto_block 2 with fail
      go_wp2_with fail
      go_loopw [5, 7] (fun s5 s7 wq => ∃ j : Nat, j ≤ 7 ∧ s7 = .int .i64 (14 - (j : Int)) ∧ s5 = .int .i64 (Aes.rd c8 j : Nat) ∧ wq = wr) (fun _ s7 _ => (intOf s7).toNat)
      case atStart => exact ⟨0, by omega, rfl, rfl, rfl⟩
      case round =>
        obtain ⟨j, hj, rfl, rfl, rfl⟩ := hrel
        by_cases hlt2 : j < 7
        · have hc := rd_lt c8 j hc8
          have hs : Aes.rd c8 (j + 1) = if Aes.rd c8 j / 2 ^ (14 - j) % 2 = 1 then Aes.rd c8 j ^^^ (283 * 2 ^ (6 - j)) else Aes.rd c8 j := rfl
          generalize Aes.rd c8 j = n at *
          rcases (show j = 0 ∨ j = 1 ∨ j = 2 ∨ j = 3 ∨ j = 4 ∨ j = 5 ∨ j = 6 by omega) with rfl | rfl | rfl | rfl | rfl | rfl | rfl
          · have e := i64_bit n 16384 hc
            by_cases hb : n / 2 ^ (14 - 0) % 2 = 1
            · have hb' : n / 16384 % 2 = 1 := by omega
              have hw : (bits .and .i64 ((n : Int) / 16384) 1 == 1) = true := by
                have := e
                rw [hb'] at this
                exact beq_iff_eq.2 this
              go_wp2_with fail
              exact ⟨⟨1, by decide, rfl, by rw [hs, if_pos hb, ← i64_xor n (283 * 2 ^ (6 - 0)) hc (by decide)]; rfl, trivial⟩, by decide⟩
            · have hb' : n / 16384 % 2 = 0 := by
                omega
              have hw : (bits .and .i64 ((n : Int) / 16384) 1 == 1) = false := by
                have := e
                rw [hb'] at this
                exact beq_eq_false_iff_ne.2 (by
                  intro h3
                  have h4 := this.symm.trans h3
                  exact absurd h4 (by decide))
              go_wp2_with fail
              exact ⟨⟨1, by decide, rfl, by rw [hs, if_neg hb], trivial⟩, by decide⟩
          · have e := i64_bit n 8192 hc
            by_cases hb : n / 2 ^ (14 - 1) % 2 = 1
            · have hb' : n / 8192 % 2 = 1 := by omega
              have hw : (bits .and .i64 ((n : Int) / 8192) 1 == 1) = true := by
                have := e
                rw [hb'] at this
                exact beq_iff_eq.2 this
              go_wp2_with fail
              exact ⟨⟨2, by decide, rfl, by rw [hs, if_pos hb, ← i64_xor n (283 * 2 ^ (6 - 1)) hc (by decide)]; rfl, trivial⟩, by decide⟩
            · have hb' : n / 8192 % 2 = 0 := by
                omega
              have hw : (bits .and .i64 ((n : Int) / 8192) 1 == 1) = false := by
                have := e
                rw [hb'] at this
                exact beq_eq_false_iff_ne.2 (by
                  intro h3
                  have h4 := this.symm.trans h3
                  exact absurd h4 (by decide))
              go_wp2_with fail
              exact ⟨⟨2, by decide, rfl, by rw [hs, if_neg hb], trivial⟩, by decide⟩
          · have e := i64_bit n 4096 hc
            by_cases hb : n / 2 ^ (14 - 2) % 2 = 1
            · have hb' : n / 4096 % 2 = 1 := by omega
              have hw : (bits .and .i64 ((n : Int) / 4096) 1 == 1) = true := by
                have := e
                rw [hb'] at this
                exact beq_iff_eq.2 this
              go_wp2_with fail
              exact ⟨⟨3, by decide, rfl, by rw [hs, if_pos hb, ← i64_xor n (283 * 2 ^ (6 - 2)) hc (by decide)]; rfl, trivial⟩, by decide⟩
            · have hb' : n / 4096 % 2 = 0 := by
                omega
              have hw : (bits .and .i64 ((n : Int) / 4096) 1 == 1) = false := by
                have := e
                rw [hb'] at this
                exact beq_eq_false_iff_ne.2 (by
                  intro h3
                  have h4 := this.symm.trans h3
                  exact absurd h4 (by decide))
              go_wp2_with fail
              exact ⟨⟨3, by decide, rfl, by rw [hs, if_neg hb], trivial⟩, by decide⟩
          · have e := i64_bit n 2048 hc
            by_cases hb : n / 2 ^ (14 - 3) % 2 = 1
            · have hb' : n / 2048 % 2 = 1 := by omega
              have hw : (bits .and .i64 ((n : Int) / 2048) 1 == 1) = true := by
                have := e
                rw [hb'] at this
                exact beq_iff_eq.2 this
              go_wp2_with fail
              exact ⟨⟨4, by decide, rfl, by rw [hs, if_pos hb, ← i64_xor n (283 * 2 ^ (6 - 3)) hc (by decide)]; rfl, trivial⟩, by decide⟩
            · have hb' : n / 2048 % 2 = 0 := by
                omega
              have hw : (bits .and .i64 ((n : Int) / 2048) 1 == 1) = false := by
                have := e
                rw [hb'] at this
                exact beq_eq_false_iff_ne.2 (by
                  intro h3
                  have h4 := this.symm.trans h3
                  exact absurd h4 (by decide))
              go_wp2_with fail
              exact ⟨⟨4, by decide, rfl, by rw [hs, if_neg hb], trivial⟩, by decide⟩
          · have e := i64_bit n 1024 hc
            by_cases hb : n / 2 ^ (14 - 4) % 2 = 1
            · have hb' : n / 1024 % 2 = 1 := by omega
              have hw : (bits .and .i64 ((n : Int) / 1024) 1 == 1) = true := by
                have := e
                rw [hb'] at this
                exact beq_iff_eq.2 this
              go_wp2_with fail
              exact ⟨⟨5, by decide, rfl, by rw [hs, if_pos hb, ← i64_xor n (283 * 2 ^ (6 - 4)) hc (by decide)]; rfl, trivial⟩, by decide⟩
            · have hb' : n / 1024 % 2 = 0 := by
                omega
              have hw : (bits .and .i64 ((n : Int) / 1024) 1 == 1) = false := by
                have := e
                rw [hb'] at this
                exact beq_eq_false_iff_ne.2 (by
                  intro h3
                  have h4 := this.symm.trans h3
                  exact absurd h4 (by decide))
              go_wp2_with fail
              exact ⟨⟨5, by decide, rfl, by rw [hs, if_neg hb], trivial⟩, by decide⟩
          · have e := i64_bit n 512 hc
            by_cases hb : n / 2 ^ (14 - 5) % 2 = 1
            · have hb' : n / 512 % 2 = 1 := by omega
              have hw : (bits .and .i64 ((n : Int) / 512) 1 == 1) = true := by
                have := e
                rw [hb'] at this
                exact beq_iff_eq.2 this
              go_wp2_with fail
              exact ⟨⟨6, by decide, rfl, by rw [hs, if_pos hb, ← i64_xor n (283 * 2 ^ (6 - 5)) hc (by decide)]; rfl, trivial⟩, by decide⟩
            · have hb' : n / 512 % 2 = 0 := by
                omega
              have hw : (bits .and .i64 ((n : Int) / 512) 1 == 1) = false := by
                have := e
                rw [hb'] at this
                exact beq_eq_false_iff_ne.2 (by
                  intro h3
                  have h4 := this.symm.trans h3
                  exact absurd h4 (by decide))
              go_wp2_with fail
              exact ⟨⟨6, by decide, rfl, by rw [hs, if_neg hb], trivial⟩, by decide⟩
          · have e := i64_bit n 256 hc
            by_cases hb : n / 2 ^ (14 - 6) % 2 = 1
            · have hb' : n / 256 % 2 = 1 := by omega
              have hw : (bits .and .i64 ((n : Int) / 256) 1 == 1) = true := by
                have := e
                rw [hb'] at this
                exact beq_iff_eq.2 this
              go_wp2_with fail
              exact ⟨⟨7, by decide, rfl, by rw [hs, if_pos hb, ← i64_xor n (283 * 2 ^ (6 - 6)) hc (by decide)]; rfl, trivial⟩, by decide⟩
            · have hb' : n / 256 % 2 = 0 := by
                omega
              have hw : (bits .and .i64 ((n : Int) / 256) 1 == 1) = false := by
                have := e
                rw [hb'] at this
                exact beq_eq_false_iff_ne.2 (by
                  intro h3
                  have h4 := this.symm.trans h3
                  exact absurd h4 (by decide))
              go_wp2_with fail
              exact ⟨⟨7, by decide, rfl, by rw [hs, if_neg hb], trivial⟩, by decide⟩
        · obtain rfl : j = 7 := by omega
          have hc := rd_lt c8 7 hc8
          generalize Aes.rd c8 7 = n at *
          go_wp2_with fail
          go_ret
          exact ⟨ret_u8 (by rw [HT.out]; omega), rfl⟩
end Go.Proofs.Ytpjkicbfdknjcaa
