/-
  The law PnumBack.
-/
import Derived.Test.YtfjhdlgcjbgnfaaAwk2
namespace Go.Proofs.Ytfjhdlgcjbgnfaa
open Go.RowKit

theorem whl_back (a m r : Int) (k : Nat) (ha : -1 ≤ a) (ha1 : a ≤ 2305843009213693952) (hm0 : 0 ≤ m) (hm1 : m ≤ 1073741823) (hr0 : 0 ≤ r) (hr1 : r ≤ m) (hk : (k : Int) = sz (m + 1)) :
    whl (bb (a + 1 + m) k) (a + r) = a + 1 + m := by
  have hE : expd (a + r) = a + r + 1 := by unfold expd; split <;> omega
  unfold whl
  rw [bb_length, hE, be_bb]
  unfold nst
  rcases sz_cases (m + 1) with ⟨h, h1⟩ | ⟨h, h1, h2⟩ | ⟨h, h1, h2⟩ | ⟨h, h1⟩ <;> rw [h] at hk
  · obtain rfl : k = 1 := by omega
    simp only [show (256 : Int) ^ 1 = 256 by rfl]
    split
    · omega
    · split <;> omega
  · obtain rfl : k = 2 := by omega
    simp only [show (256 : Int) ^ 2 = 65536 by rfl]
    split
    · omega
    · split <;> omega
  · obtain rfl : k = 3 := by omega
    simp only [show (256 : Int) ^ 3 = 16777216 by rfl]
    split
    · omega
    · split <;> omega
  · obtain rfl : k = 4 := by omega
    simp only [show (256 : Int) ^ 4 = 4294967296 by rfl]
    split
    · omega
    · split <;> omega

set_option maxHeartbeats 1000000 in
theorem pnumBack_walk (a x y : Int) (w : World) (ha : (Lit.int .i64 a).wf = true) (hx : (Lit.int .u32 x).wf = true) (hy : (Lit.int .u32 y).wf = true) :
    Calls Try.prog 4 #[.int .i64 a, .int .u32 x, .int .u32 y] w fun e w' => e = .returned (.bool true) ∧ Keep [] w w' := by
  have ha := wf_i64 ha
  obtain ⟨hx0, hx1⟩ := wf_u32 hx
  obtain ⟨hy0, hy1⟩ := wf_u32 hy
  have A := Lib.hid (awake2_any w)
  clear hx hy
  obtain ⟨ha0, ha1⟩ := ha
  by_cases h1 : a < -1
  · go_enter Try.func4, Try.ntmps4
    go_wp2_with (go_at_call 6; with_reducible refine A.out.mono ?_; rintro e w' ⟨rfl, hk⟩)
    go_ret
    exact ⟨rfl, hk⟩
  by_cases h2 : 2305843009213693952 < a
  · go_enter Try.func4, Try.ntmps4
    go_wp2_with (go_at_call 6; with_reducible refine A.out.mono ?_; rintro e w' ⟨rfl, hk⟩)
    go_ret
    exact ⟨rfl, hk⟩
  obtain ⟨m, hm⟩ : ∃ m, m = x / 4 := ⟨_, rfl⟩
  have hm0 : 0 ≤ m := by omega
  have hm1 : m ≤ 1073741823 := by omega
  obtain ⟨k, hk⟩ : ∃ k : Nat, (k : Int) = sz (m + 1) := ⟨(sz (m + 1)).toNat, by have := sz_range (m + 1); omega⟩
  have hkr := sz_range (m + 1)
  have S := fun W => Lib.hid (size_any (a + 1 + m) a W (by omega) (by omega) ha0 ha1)
  rw [dist_ahead a m (by omega) (by omega) (by omega), ← hk] at S
  have C := fun W => Lib.hid (cut_any (a + 1 + m) k W (by omega) (by omega) (by omega) (by omega))
  obtain ⟨r, hr⟩ : ∃ r, r = y % (m + 1) := ⟨_, rfl⟩
  have hr0 : 0 ≤ r := by rw [hr]; exact Int.emod_nonneg _ (by omega)
  have hr1 : r < m + 1 := by rw [hr]; exact Int.emod_lt_of_pos _ (by omega)
  have H := fun v W (hs : Sl .u8 W v (bb (a + 1 + m) k)) => Lib.hid (whole_ok v _ (a + r) W hs (by rw [bb_length]; omega) (by rw [bb_length]; omega) (by omega) (by omega))
  rw [whl_back a m r k (by omega) (by omega) hm0 hm1 hr0 (by omega) hk] at H
  have HW := Lib.hid (show wrap64 (a + wrap64 (y % (a + 1 + m - (a + 1) + 1))) = a + r by
    rw [show a + 1 + m - (a + 1) + 1 = m + 1 by omega, ← hr]
    have e1 : wrap64 r = r := IntWalk.wrap64_in r ⟨by omega, by omega⟩
    rw [e1]
    exact IntWalk.wrap64_in _ ⟨by omega, by omega⟩)
  clear hk hkr hr
  subst hm
  go_enter Try.func4, Try.ntmps4
  go_wp2_with (first
    | (go_at_call 6; with_reducible refine A.out.mono ?_; rintro e w' ⟨rfl, hk⟩)
    | (go_at_call 9; with_reducible refine (S _).out.mono ?_; rintro e w' ⟨rfl, rfl⟩)
    | (go_at_call 10; with_reducible refine (C _).out.mono ?_; rintro e w2 ⟨v, rfl, hs, hk2⟩)
    | (go_at_call 7; rw [HW.out]; with_reducible refine (H _ _ hs).out.mono ?_; rintro e w' ⟨rfl, rfl⟩))
  go_ret
  exact ⟨rfl, hk.trans0 hk2⟩
end Go.Proofs.Ytfjhdlgcjbgnfaa
