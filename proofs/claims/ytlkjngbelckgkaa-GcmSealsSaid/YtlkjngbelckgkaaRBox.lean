/-
  The document's answers to Times and Box.
  The document's answer to Box, and to Boxes.
-/
import Derived.Test.YtlkjngbelckgkaaAesBox
import Derived.Test.YtlkjngbelckgkaaNum
namespace Go.Proofs.Ytlkjngbelckgkaa
open Go.RowKit

theorem clm_lt (a b i : Nat) (ha : a < 256) (hi : i ≤ 8) : Aes.clm a b i < 65536 := by
  induction i with
  | zero => exact (by decide : (0 : Nat) < 65536)
  | succ i ih =>
    unfold Aes.clm
    have h1 := ih (by omega)
    split
    · refine Nat.xor_lt_two_pow (n := 16) h1 ?_
      have : 2 ^ i ≤ 2 ^ 7 := Nat.pow_le_pow_right (by decide) (by omega)
      have := Nat.mul_le_mul (Nat.le_of_lt_succ ha) this
      omega
    · exact h1
theorem rd_lt (n j : Nat) (hn : n < 65536) : Aes.rd n j < 65536 := by
  induction j with
  | zero => exact hn
  | succ j ih =>
    unfold Aes.rd
    split
    · refine Nat.xor_lt_two_pow (n := 16) ih ?_
      have : 2 ^ (6 - j) ≤ 2 ^ 6 := Nat.pow_le_pow_right (by decide) (by omega)
      have := Nat.mul_le_mul (Nat.le_refl 283) this
      omega
    · exact ih
set_option maxHeartbeats 8000000 in
theorem rtimes_any (x y : Nat) (w : World) (hx : x < 256) (hy : y < 256) :
    Calls Try.prog 37 #[.int .u8 x, .int .u8 y] w fun e w' => e = .returned (.int .u8 (Aes.tm x y : Nat)) ∧ w' = w := by
  go_enter Try.func37, Try.ntmps37
  go_wp2_with fail
  go_loopw [5, 6] (fun s5 s6 wr => ∃ i : Nat, i ≤ 8 ∧ s6 = .int .i64 i ∧ s5 = .int .i64 (Aes.clm x y i : Nat) ∧ wr = w) (fun _ s6 _ => 8 - (intOf s6).toNat)
  case atStart => exact ⟨0, by omega, rfl, rfl, rfl⟩
  case round =>
    obtain ⟨i, hi, rfl, rfl, rfl⟩ := hrel
    by_cases hlt : i < 8
    · have hc := clm_lt x y i hx hi
      have hs : Aes.clm x y (i + 1) = if y / 2 ^ i % 2 = 1 then Aes.clm x y i ^^^ (x * 2 ^ i) else Aes.clm x y i := rfl
      generalize Aes.clm x y i = n at *
      rcases (show i = 0 ∨ i = 1 ∨ i = 2 ∨ i = 3 ∨ i = 4 ∨ i = 5 ∨ i = 6 ∨ i = 7 by omega) with rfl | rfl | rfl | rfl | rfl | rfl | rfl | rfl
      · have e := u8_bit0 y hy
        have hx8 : ((x * 2 ^ 0 : Nat) : Int) = (x : Int) := by omega
        by_cases hb : y / 2 ^ 0 % 2 = 1
        · have hb' : y % 2 = 1 := by omega
          have hw : (bits .and .u8 ((y : Int)) 1 == 1) = true := by
            have := e
            rw [hb'] at this
            exact beq_iff_eq.2 this
          go_wp2_with fail
          exact ⟨⟨1, by decide, rfl, by rw [hs, if_pos hb, ← i64_xor n (x * 2 ^ 0) hc (by omega), hx8], trivial⟩, by decide⟩
        · have hb' : y % 2 = 0 := by omega
          have hw : (bits .and .u8 ((y : Int)) 1 == 1) = false := by
            have := e
            rw [hb'] at this
            exact beq_eq_false_iff_ne.2 (by
              intro h3
              have h4 := this.symm.trans h3
              exact absurd h4 (by decide))
          go_wp2_with fail
          exact ⟨⟨1, by decide, rfl, by rw [hs, if_neg hb], trivial⟩, by decide⟩
      · have e := u8_bit y 2 hy
        have hx8 : ((x * 2 ^ 1 : Nat) : Int) = (x : Int) * 2 := by omega
        by_cases hb : y / 2 ^ 1 % 2 = 1
        · have hb' : y / 2 % 2 = 1 := by omega
          have hw : (bits .and .u8 ((y : Int) / 2) 1 == 1) = true := by
            have := e
            rw [hb'] at this
            exact beq_iff_eq.2 this
          go_wp2_with fail
          exact ⟨⟨2, by decide, rfl, by rw [hs, if_pos hb, ← i64_xor n (x * 2 ^ 1) hc (by omega), hx8], trivial⟩, by decide⟩
        · have hb' : y / 2 % 2 = 0 := by omega
          have hw : (bits .and .u8 ((y : Int) / 2) 1 == 1) = false := by
            have := e
            rw [hb'] at this
            exact beq_eq_false_iff_ne.2 (by
              intro h3
              have h4 := this.symm.trans h3
              exact absurd h4 (by decide))
          go_wp2_with fail
          exact ⟨⟨2, by decide, rfl, by rw [hs, if_neg hb], trivial⟩, by decide⟩
      · have e := u8_bit y 4 hy
        have hx8 : ((x * 2 ^ 2 : Nat) : Int) = (x : Int) * 4 := by omega
        by_cases hb : y / 2 ^ 2 % 2 = 1
        · have hb' : y / 4 % 2 = 1 := by omega
          have hw : (bits .and .u8 ((y : Int) / 4) 1 == 1) = true := by
            have := e
            rw [hb'] at this
            exact beq_iff_eq.2 this
          go_wp2_with fail
          exact ⟨⟨3, by decide, rfl, by rw [hs, if_pos hb, ← i64_xor n (x * 2 ^ 2) hc (by omega), hx8], trivial⟩, by decide⟩
        · have hb' : y / 4 % 2 = 0 := by omega
          have hw : (bits .and .u8 ((y : Int) / 4) 1 == 1) = false := by
            have := e
            rw [hb'] at this
            exact beq_eq_false_iff_ne.2 (by
              intro h3
              have h4 := this.symm.trans h3
              exact absurd h4 (by decide))
          go_wp2_with fail
          exact ⟨⟨3, by decide, rfl, by rw [hs, if_neg hb], trivial⟩, by decide⟩
      · have e := u8_bit y 8 hy
        have hx8 : ((x * 2 ^ 3 : Nat) : Int) = (x : Int) * 8 := by omega
        by_cases hb : y / 2 ^ 3 % 2 = 1
        · have hb' : y / 8 % 2 = 1 := by omega
          have hw : (bits .and .u8 ((y : Int) / 8) 1 == 1) = true := by
            have := e
            rw [hb'] at this
            exact beq_iff_eq.2 this
          go_wp2_with fail
          exact ⟨⟨4, by decide, rfl, by rw [hs, if_pos hb, ← i64_xor n (x * 2 ^ 3) hc (by omega), hx8], trivial⟩, by decide⟩
        · have hb' : y / 8 % 2 = 0 := by omega
          have hw : (bits .and .u8 ((y : Int) / 8) 1 == 1) = false := by
            have := e
            rw [hb'] at this
            exact beq_eq_false_iff_ne.2 (by
              intro h3
              have h4 := this.symm.trans h3
              exact absurd h4 (by decide))
          go_wp2_with fail
          exact ⟨⟨4, by decide, rfl, by rw [hs, if_neg hb], trivial⟩, by decide⟩
      · have e := u8_bit y 16 hy
        have hx8 : ((x * 2 ^ 4 : Nat) : Int) = (x : Int) * 16 := by omega
        by_cases hb : y / 2 ^ 4 % 2 = 1
        · have hb' : y / 16 % 2 = 1 := by omega
          have hw : (bits .and .u8 ((y : Int) / 16) 1 == 1) = true := by
            have := e
            rw [hb'] at this
            exact beq_iff_eq.2 this
          go_wp2_with fail
          exact ⟨⟨5, by decide, rfl, by rw [hs, if_pos hb, ← i64_xor n (x * 2 ^ 4) hc (by omega), hx8], trivial⟩, by decide⟩
        · have hb' : y / 16 % 2 = 0 := by omega
          have hw : (bits .and .u8 ((y : Int) / 16) 1 == 1) = false := by
            have := e
            rw [hb'] at this
            exact beq_eq_false_iff_ne.2 (by
              intro h3
              have h4 := this.symm.trans h3
              exact absurd h4 (by decide))
          go_wp2_with fail
          exact ⟨⟨5, by decide, rfl, by rw [hs, if_neg hb], trivial⟩, by decide⟩
      · have e := u8_bit y 32 hy
        have hx8 : ((x * 2 ^ 5 : Nat) : Int) = (x : Int) * 32 := by omega
        by_cases hb : y / 2 ^ 5 % 2 = 1
        · have hb' : y / 32 % 2 = 1 := by omega
          have hw : (bits .and .u8 ((y : Int) / 32) 1 == 1) = true := by
            have := e
            rw [hb'] at this
            exact beq_iff_eq.2 this
          go_wp2_with fail
          exact ⟨⟨6, by decide, rfl, by rw [hs, if_pos hb, ← i64_xor n (x * 2 ^ 5) hc (by omega), hx8], trivial⟩, by decide⟩
        · have hb' : y / 32 % 2 = 0 := by omega
          have hw : (bits .and .u8 ((y : Int) / 32) 1 == 1) = false := by
            have := e
            rw [hb'] at this
            exact beq_eq_false_iff_ne.2 (by
              intro h3
              have h4 := this.symm.trans h3
              exact absurd h4 (by decide))
          go_wp2_with fail
          exact ⟨⟨6, by decide, rfl, by rw [hs, if_neg hb], trivial⟩, by decide⟩
      · have e := u8_bit y 64 hy
        have hx8 : ((x * 2 ^ 6 : Nat) : Int) = (x : Int) * 64 := by omega
        by_cases hb : y / 2 ^ 6 % 2 = 1
        · have hb' : y / 64 % 2 = 1 := by omega
          have hw : (bits .and .u8 ((y : Int) / 64) 1 == 1) = true := by
            have := e
            rw [hb'] at this
            exact beq_iff_eq.2 this
          go_wp2_with fail
          exact ⟨⟨7, by decide, rfl, by rw [hs, if_pos hb, ← i64_xor n (x * 2 ^ 6) hc (by omega), hx8], trivial⟩, by decide⟩
        · have hb' : y / 64 % 2 = 0 := by omega
          have hw : (bits .and .u8 ((y : Int) / 64) 1 == 1) = false := by
            have := e
            rw [hb'] at this
            exact beq_eq_false_iff_ne.2 (by
              intro h3
              have h4 := this.symm.trans h3
              exact absurd h4 (by decide))
          go_wp2_with fail
          exact ⟨⟨7, by decide, rfl, by rw [hs, if_neg hb], trivial⟩, by decide⟩
      · have e := u8_bit y 128 hy
        have hx8 : ((x * 2 ^ 7 : Nat) : Int) = (x : Int) * 128 := by omega
        by_cases hb : y / 2 ^ 7 % 2 = 1
        · have hb' : y / 128 % 2 = 1 := by omega
          have hw : (bits .and .u8 ((y : Int) / 128) 1 == 1) = true := by
            have := e
            rw [hb'] at this
            exact beq_iff_eq.2 this
          go_wp2_with fail
          exact ⟨⟨8, by decide, rfl, by rw [hs, if_pos hb, ← i64_xor n (x * 2 ^ 7) hc (by omega), hx8], trivial⟩, by decide⟩
        · have hb' : y / 128 % 2 = 0 := by omega
          have hw : (bits .and .u8 ((y : Int) / 128) 1 == 1) = false := by
            have := e
            rw [hb'] at this
            exact beq_eq_false_iff_ne.2 (by
              intro h3
              have h4 := this.symm.trans h3
              exact absurd h4 (by decide))
          go_wp2_with fail
          exact ⟨⟨8, by decide, rfl, by rw [hs, if_neg hb], trivial⟩, by decide⟩
    · obtain rfl : i = 8 := by omega
      have hc8 := clm_lt x y 8 hx (by decide)
      have HT := Lib.hid (show Aes.tm x y = Aes.rd (Aes.clm x y 8) 7 % 256 from rfl)
      generalize Aes.clm x y 8 = c8 at *
      go_upto_block 2 with fail
      go_wp2_with fail
      go_loopw [5, 7] (fun s5 s7 wq => ∃ j : Nat, j ≤ 7 ∧ s7 = .int .i64 (14 - (j : Int)) ∧ s5 = .int .i64 (Aes.rd c8 j : Nat) ∧ wq = wr) (fun _ s7 _ => (intOf s7).toNat)
      case atStart => exact ⟨0, by omega, rfl, rfl, rfl⟩
      case round =>
        obtain ⟨j, hj, rfl, rfl, rfl⟩ := hrel
        by_cases hlt2 : j < 7
        · have hc := rd_lt c8 j hc8
          have hs : Aes.rd c8 (j + 1) = if Aes.rd c8 j / 2 ^ (14 - j) % 2 = 1 then Aes.rd c8 j ^^^ (283 * 2 ^ (6 - j)) else Aes.rd c8 j := rfl
          generalize Aes.rd c8 j = n at *
          rcases (show j = 0 ∨ j = 1 ∨ j = 2 ∨ j = 3 ∨ j = 4 ∨ j = 5 ∨ j = 6 by omega) with rfl | rfl | rfl | rfl | rfl | rfl | rfl
          · have e := i64_bit n 16384 hc
            by_cases hb : n / 2 ^ (14 - 0) % 2 = 1
            · have hb' : n / 16384 % 2 = 1 := by omega
              have hw : (bits .and .i64 ((n : Int) / 16384) 1 == 1) = true := by
                have := e
                rw [hb'] at this
                exact beq_iff_eq.2 this
              go_wp2_with fail
              exact ⟨⟨1, by decide, rfl, by rw [hs, if_pos hb, ← i64_xor n (283 * 2 ^ (6 - 0)) hc (by decide)]; rfl, trivial⟩, by decide⟩
            · have hb' : n / 16384 % 2 = 0 := by
                omega
              have hw : (bits .and .i64 ((n : Int) / 16384) 1 == 1) = false := by
                have := e
                rw [hb'] at this
                exact beq_eq_false_iff_ne.2 (by
                  intro h3
                  have h4 := this.symm.trans h3
                  exact absurd h4 (by decide))
              go_wp2_with fail
              exact ⟨⟨1, by decide, rfl, by rw [hs, if_neg hb], trivial⟩, by decide⟩
          · have e := i64_bit n 8192 hc
            by_cases hb : n / 2 ^ (14 - 1) % 2 = 1
            · have hb' : n / 8192 % 2 = 1 := by omega
              have hw : (bits .and .i64 ((n : Int) / 8192) 1 == 1) = true := by
                have := e
                rw [hb'] at this
                exact beq_iff_eq.2 this
              go_wp2_with fail
              exact ⟨⟨2, by decide, rfl, by rw [hs, if_pos hb, ← i64_xor n (283 * 2 ^ (6 - 1)) hc (by decide)]; rfl, trivial⟩, by decide⟩
            · have hb' : n / 8192 % 2 = 0 := by
                omega
              have hw : (bits .and .i64 ((n : Int) / 8192) 1 == 1) = false := by
                have := e
                rw [hb'] at this
                exact beq_eq_false_iff_ne.2 (by
                  intro h3
                  have h4 := this.symm.trans h3
                  exact absurd h4 (by decide))
              go_wp2_with fail
              exact ⟨⟨2, by decide, rfl, by rw [hs, if_neg hb], trivial⟩, by decide⟩
          · have e := i64_bit n 4096 hc
            by_cases hb : n / 2 ^ (14 - 2) % 2 = 1
            · have hb' : n / 4096 % 2 = 1 := by omega
              have hw : (bits .and .i64 ((n : Int) / 4096) 1 == 1) = true := by
                have := e
                rw [hb'] at this
                exact beq_iff_eq.2 this
              go_wp2_with fail
              exact ⟨⟨3, by decide, rfl, by rw [hs, if_pos hb, ← i64_xor n (283 * 2 ^ (6 - 2)) hc (by decide)]; rfl, trivial⟩, by decide⟩
            · have hb' : n / 4096 % 2 = 0 := by
                omega
              have hw : (bits .and .i64 ((n : Int) / 4096) 1 == 1) = false := by
                have := e
                rw [hb'] at this
                exact beq_eq_false_iff_ne.2 (by
                  intro h3
                  have h4 := this.symm.trans h3
                  exact absurd h4 (by decide))
              go_wp2_with fail
              exact ⟨⟨3, by decide, rfl, by rw [hs, if_neg hb], trivial⟩, by decide⟩
          · have e := i64_bit n 2048 hc
            by_cases hb : n / 2 ^ (14 - 3) % 2 = 1
            · have hb' : n / 2048 % 2 = 1 := by omega
              have hw : (bits .and .i64 ((n : Int) / 2048) 1 == 1) = true := by
                have := e
                rw [hb'] at this
                exact beq_iff_eq.2 this
              go_wp2_with fail
              exact ⟨⟨4, by decide, rfl, by rw [hs, if_pos hb, ← i64_xor n (283 * 2 ^ (6 - 3)) hc (by decide)]; rfl, trivial⟩, by decide⟩
            · have hb' : n / 2048 % 2 = 0 := by
                omega
              have hw : (bits .and .i64 ((n : Int) / 2048) 1 == 1) = false := by
                have := e
                rw [hb'] at this
                exact beq_eq_false_iff_ne.2 (by
                  intro h3
                  have h4 := this.symm.trans h3
                  exact absurd h4 (by decide))
              go_wp2_with fail
              exact ⟨⟨4, by decide, rfl, by rw [hs, if_neg hb], trivial⟩, by decide⟩
          · have e := i64_bit n 1024 hc
            by_cases hb : n / 2 ^ (14 - 4) % 2 = 1
            · have hb' : n / 1024 % 2 = 1 := by omega
              have hw : (bits .and .i64 ((n : Int) / 1024) 1 == 1) = true := by
                have := e
                rw [hb'] at this
                exact beq_iff_eq.2 this
              go_wp2_with fail
              exact ⟨⟨5, by decide, rfl, by rw [hs, if_pos hb, ← i64_xor n (283 * 2 ^ (6 - 4)) hc (by decide)]; rfl, trivial⟩, by decide⟩
            · have hb' : n / 1024 % 2 = 0 := by
                omega
              have hw : (bits .and .i64 ((n : Int) / 1024) 1 == 1) = false := by
                have := e
                rw [hb'] at this
                exact beq_eq_false_iff_ne.2 (by
                  intro h3
                  have h4 := this.symm.trans h3
                  exact absurd h4 (by decide))
              go_wp2_with fail
              exact ⟨⟨5, by decide, rfl, by rw [hs, if_neg hb], trivial⟩, by decide⟩
          · have e := i64_bit n 512 hc
            by_cases hb : n / 2 ^ (14 - 5) % 2 = 1
            · have hb' : n / 512 % 2 = 1 := by omega
              have hw : (bits .and .i64 ((n : Int) / 512) 1 == 1) = true := by
                have := e
                rw [hb'] at this
                exact beq_iff_eq.2 this
              go_wp2_with fail
              exact ⟨⟨6, by decide, rfl, by rw [hs, if_pos hb, ← i64_xor n (283 * 2 ^ (6 - 5)) hc (by decide)]; rfl, trivial⟩, by decide⟩
            · have hb' : n / 512 % 2 = 0 := by
                omega
              have hw : (bits .and .i64 ((n : Int) / 512) 1 == 1) = false := by
                have := e
                rw [hb'] at this
                exact beq_eq_false_iff_ne.2 (by
                  intro h3
                  have h4 := this.symm.trans h3
                  exact absurd h4 (by decide))
              go_wp2_with fail
              exact ⟨⟨6, by decide, rfl, by rw [hs, if_neg hb], trivial⟩, by decide⟩
          · have e := i64_bit n 256 hc
            by_cases hb : n / 2 ^ (14 - 6) % 2 = 1
            · have hb' : n / 256 % 2 = 1 := by omega
              have hw : (bits .and .i64 ((n : Int) / 256) 1 == 1) = true := by
                have := e
                rw [hb'] at this
                exact beq_iff_eq.2 this
              go_wp2_with fail
              exact ⟨⟨7, by decide, rfl, by rw [hs, if_pos hb, ← i64_xor n (283 * 2 ^ (6 - 6)) hc (by decide)]; rfl, trivial⟩, by decide⟩
            · have hb' : n / 256 % 2 = 0 := by
                omega
              have hw : (bits .and .i64 ((n : Int) / 256) 1 == 1) = false := by
                have := e
                rw [hb'] at this
                exact beq_eq_false_iff_ne.2 (by
                  intro h3
                  have h4 := this.symm.trans h3
                  exact absurd h4 (by decide))
              go_wp2_with fail
              exact ⟨⟨7, by decide, rfl, by rw [hs, if_neg hb], trivial⟩, by decide⟩
        · obtain rfl : j = 7 := by omega
          have hc := rd_lt c8 7 hc8
          generalize Aes.rd c8 7 = n at *
          go_wp2_with fail
          go_ret
          exact ⟨ret_u8 (by rw [HT.out]; omega), rfl⟩

theorem rol_u8 (c n j : Nat) (A B : Int) (hc : c < 256) (hn : n < 256) (hA : A = ((n * 2 ^ j % 256 : Nat) : Int)) (hB : B = ((n / 2 ^ (8 - j) : Nat) : Int)) : bits .xor .u8 (c : Int) (bits .or .u8 A B) = ((c ^^^ Aes.rol n j : Nat) : Int) := by
  rw [hA, hB, u8_or_nat _ _ (Nat.mod_lt _ (by decide)) (Nat.lt_of_le_of_lt (Nat.div_le_self _ _) hn)]
  exact u8_xor_nat _ _ hc (Aes.rol_lt n j hn)

set_option maxRecDepth 100000 in
set_option maxHeartbeats 8000000 in
theorem rbox_any (x : Nat) (w : World) (hx : x < 256) :
    Calls Try.prog 20 #[.int .u8 x] w fun e w' => e = .returned (.int .u8 (Aes.box x : Nat)) ∧ ∃ m, w' = w.drewN m := by
  have TM := fun (k : Nat) w hk => Lib.hid (rtimes_any x k w hx hk)
  go_enter Try.func20, Try.ntmps20
  go_wp2_with fail
  go_loopw [3, 4] (fun s3 s4 wr => ∃ k : Nat, k ≤ 255 ∧ s4 = .int .i64 ((k + 1 : Nat) : Int) ∧ s3 = .int .u8 (Aes.iv x k : Nat) ∧ wr = w) (fun _ s4 _ => 256 - (intOf s4).toNat)
  case atStart => exact ⟨0, by omega, rfl, rfl, rfl⟩
  case round =>
    obtain ⟨k, hk, rfl, rfl, rfl⟩ := hrel
    have hiv := Aes.iv_le x k
    by_cases hlt : k < 255
    · have hs : Aes.iv x (k + 1) = if Aes.tm x (k + 1) = 1 then k + 1 else Aes.iv x k := rfl
      have hk2 : ((k + 1 : Nat) : Int) % 256 = ((k + 1 : Nat) : Int) := by omega
      generalize Aes.iv x k = n at *
      obtain ⟨q, hq⟩ : ∃ q, q = k + 1 := ⟨_, rfl⟩
      have HQ := Lib.hid hq
      rw [← hq] at hs hk2 ⊢
      have hq1 : q ≤ 255 := by omega
      have T1 := TM q wr (by omega)
      have HS := Lib.hid hs
      clear hq hs
      by_cases ht : Aes.tm x q = 1
      · rw [ht] at T1
        go_wp2_with (go_at_call 37; with_reducible refine T1.out.mono ?_; rintro e w1 ⟨rfl, rfl⟩)
        exact ⟨⟨q, hq1, rfl, by rw [HQ.out, ← HQ.out, HS.out, if_pos ht], trivial⟩, by simp only [intOf]; omega⟩
      · have hne : (((Aes.tm x q : Nat) : Int) == 1) = false := beq_eq_false_iff_ne.2 (by omega)
        go_wp2_with (go_at_call 37; with_reducible refine T1.out.mono ?_; rintro e w1 ⟨rfl, rfl⟩)
        exact ⟨⟨q, hq1, rfl, by rw [HQ.out, ← HQ.out, HS.out, if_neg ht], trivial⟩, by simp only [intOf]; omega⟩
    · obtain rfl : k = 255 := by omega
      have HT := Lib.hid (show Aes.box x = Aes.bx (Aes.iv x 255) 5 from rfl)
      generalize Aes.iv x 255 = n at *
      clear TM
      go_upto_block 2 with fail
      go_wp2_with fail
      go_loopw [5, 6] (fun s5 s6 wq => ∃ j m : Nat, j ≤ 5 ∧ s6 = .int .i64 j ∧ s5 = .int .u8 (Aes.bx n j : Nat) ∧ wq = wr.drewN m) (fun _ s6 _ => 5 - (intOf s6).toNat)
      case atStart => exact ⟨0, 0, by omega, rfl, rfl, rfl⟩
      case round =>
        obtain ⟨j, m, hj, rfl, rfl, rfl⟩ := hrel
        by_cases hlt2 : j < 5
        · have hc := Aes.bx_lt n j (by omega)
          have hs : Aes.bx n (j + 1) = Aes.bx n j ^^^ Aes.rol n j := rfl
          have hr := Aes.rol_lt n j (by omega)
          generalize Aes.bx n j = c at *
          have HS := Lib.hid hs
          clear hs
          rcases (show j = 0 ∨ j = 1 ∨ j = 2 ∨ j = 3 ∨ j = 4 by omega) with rfl | rfl | rfl | rfl | rfl
          all_goals go_upto_region 11 with fail
          all_goals go_quiet (fail)
          all_goals go_wp2_with fail
          · exact ⟨⟨1, m + nq, by decide, rfl, by rw [HS.out]; exact congrArg (Value.int .u8) (rol_u8 c n 0 _ _ hc (by omega) (by omega) (by omega)), rfl⟩, by decide⟩
          · exact ⟨⟨2, m + nq, by decide, rfl, by rw [HS.out]; exact congrArg (Value.int .u8) (rol_u8 c n 1 _ _ hc (by omega) (by omega) (by omega)), rfl⟩, by decide⟩
          · exact ⟨⟨3, m + nq, by decide, rfl, by rw [HS.out]; exact congrArg (Value.int .u8) (rol_u8 c n 2 _ _ hc (by omega) (by omega) (by omega)), rfl⟩, by decide⟩
          · exact ⟨⟨4, m + nq, by decide, rfl, by rw [HS.out]; exact congrArg (Value.int .u8) (rol_u8 c n 3 _ _ hc (by omega) (by omega) (by omega)), rfl⟩, by decide⟩
          · exact ⟨⟨5, m + nq, by decide, rfl, by rw [HS.out]; exact congrArg (Value.int .u8) (rol_u8 c n 4 _ _ hc (by omega) (by omega) (by omega)), rfl⟩, by decide⟩
        · obtain rfl : j = 5 := by omega
          go_wp2_with fail
          go_ret
          exact ⟨ret_u8 (by rw [HT.out]), m, rfl⟩

/-- What the first n bytes are exchanged for. -/
def boxL (n : Nat) : List Int := (List.range n).map fun i => ((Aes.box i : Nat) : Int)
theorem boxL_succ (n : Nat) : boxL (n + 1) = boxL n ++ [((Aes.box n : Nat) : Int)] := by simp [boxL, List.range_succ]
theorem boxL_length (n : Nat) : (boxL n).length = n := by simp [boxL]
theorem boxL_wf (n : Nat) : ∀ x ∈ boxL n, (Lit.int .u8 x).wf = true := by
  intro x hx
  simp only [boxL, List.mem_map] at hx
  obtain ⟨i, _, rfl⟩ := hx
  have := Aes.box_lt i
  exact u8_wf (by omega) (by omega)

set_option maxRecDepth 100000 in
set_option maxHeartbeats 8000000 in
theorem rboxes_any (w : World) :
    Calls Try.prog 10 #[] w fun e w' => ∃ v', e = .returned v' ∧ w'.ownsRow w.heap.size 5 1 v' 256 ((boxL 256).map (Value.int .u8)) ∧ Keep [] w w' := by
  have BX := fun (k : Nat) w hk => Lib.hid (rbox_any k w hk)
  go_enter Try.func10, Try.ntmps10
  go_wp2_with fail
  go_loopw [1, 2] (fun s1 s2 wr => ∃ k : Nat, k ≤ 256 ∧ s2 = .int .i64 k ∧ wr.ownsRow w.heap.size 5 1 s1 k ((boxL k).map (Value.int .u8)) ∧ Keep [] w wr) (fun _ s2 _ => 256 - (intOf s2).toNat)
  case atStart => exact ⟨0, by omega, rfl, World.ownsRow_nil _ _ _ _, Keep.refl _ _⟩
  case round =>
    obtain ⟨k, hk, rfl, hO, hK⟩ := hrel
    have HO := Lib.hid hO
    have HK := Lib.hid hK
    obtain ⟨oA, oc, rfl⟩ := own_slice hO
    clear hO hK
    by_cases hlt : k < 256
    · have B1 := BX k wr hlt
      have HB := Lib.hid (boxL_succ k)
      have hx := Aes.box_lt k
      generalize Aes.box k = x at *
      have hkm : (k : Int) % 256 = k := by omega
      go_wp2_with (first
        | (go_at_call 20; with_reducible refine B1.out.mono ?_; rintro e w1 ⟨rfl, m, rfl⟩)
        | (at_builtin
           refine wl_append _ rfl _ _ _ rfl w.heap.size 5 (.int .u8 0) 1 1 Try.underlying26 u8infB rfl (by decide) (.slice oA k oc) k ((boxL k).map (Value.int .u8)) rfl ((own_keep0 HO.out ((Keep.refl [] wr).drewN m)).alloc _) (some ⟨wr.heap.size, 0, Option.none⟩) 1 1 [.int .u8 (x : Int)] rfl rfl (Rd.one _ _ _) (by simp [Value.oneCell']) (by simp only [maxLen]; omega) (by omega) (by have := HK.out.size; simp; omega) ?_
           intro x1 w2 ho1 hk1 hat1
           have HX1 := Lib.hid ho1
           have HK1 := Lib.hid hk1
           clear ho1 hk1 hat1))
      exact ⟨⟨k + 1, by omega, rfl, by rw [HB.out, List.map_append]; exact HX1.out, keep_own ((own_keep0 HO.out ((Keep.refl [] wr).drewN m)).alloc _) (Nat.le_refl _) ((HK.out.drewN m).alloc _) HK1.out⟩, by simp only [intOf]; omega⟩
    · obtain rfl : k = 256 := by omega
      go_wp2_with fail
      go_ret
      exact ⟨_, rfl, HO.out, HK.out⟩
end Go.Proofs.Ytlkjngbelckgkaa
