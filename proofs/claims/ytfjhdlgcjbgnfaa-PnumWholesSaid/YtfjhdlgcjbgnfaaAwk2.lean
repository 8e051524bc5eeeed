/-
  The contract of Awake (layer 2), and of the law PnumSizes.
-/
import Derived.Test.YtfjhdlgcjbgnfaaWhole
namespace Go.Proofs.Ytfjhdlgcjbgnfaa
open Go.RowKit

theorem awake2_any (w : World) :
    Calls Try.prog 6 #[] w fun e w' => e = .returned (.bool true) ∧ Keep [] w w' := by
  obtain ⟨W, hW⟩ : ∃ W, W = w.alloc (.cells #[.int .u8 155, .int .u8 50] 5) := ⟨_, rfl⟩
  have hs : Sl .u8 W (.slice (some ⟨w.heap.size, 0, none⟩) 2 2) [155, 50] := by
    refine ⟨_, 2, rfl, by decide, by decide, ?_, by decide⟩
    rw [hW]
    have := Rd.of_blk (Blk.new w 5 #[.int .u8 155, .int .u8 50])
    simpa using this
  have H := Lib.hid (whole_ok _ [155, 50] 2821665002 W hs (by decide) (by decide) (by omega) (by omega))
  rw [show whl [155, 50] 2821665002 = 2821692210 by decide] at H
  clear hs
  go_enter Try.func6, Try.ntmps6
  go_wp2_with (go_at_call 7; rw [← hW]; with_reducible refine H.out.mono ?_; rintro e w' ⟨rfl, rfl⟩)
  go_ret
  exact ⟨rfl, (Keep.refl _ _).alloc _⟩

theorem dist_ahead (a m : Int) (ha : -1 ≤ a) (h0 : 0 ≤ m) (h1 : m ≤ 4294967295) : dist (a + 1 + m) a = m + 1 := by
  unfold dist; split <;> (try split) <;> omega
theorem sz_mono {a b : Int} (h : a ≤ b) : sz a ≤ sz b := by
  unfold sz; repeat' split
  all_goals omega
theorem sz_range (a : Int) : 1 ≤ sz a ∧ sz a ≤ 4 := by
  unfold sz; repeat' split
  all_goals omega
theorem sz_cases (x : Int) : (sz x = 1 ∧ x < 128) ∨ (sz x = 2 ∧ 128 ≤ x ∧ x < 32768) ∨ (sz x = 3 ∧ 32768 ≤ x ∧ x < 8388608) ∨ (sz x = 4 ∧ 8388608 ≤ x) := by
  unfold sz; repeat' split
  all_goals omega
theorem wf_u32 {x : Int} (h : (Lit.int .u32 x).wf = true) : 0 ≤ x ∧ x ≤ 4294967295 := by
  simpa [Lit.wf, IntKind.min, IntKind.max, IntKind.signed, IntKind.bits] using h

set_option maxHeartbeats 1000000 in
theorem pnumSizes_walk (a x y : Int) (w : World) (ha : (Lit.int .i64 a).wf = true) (hx : (Lit.int .u32 x).wf = true) (hy : (Lit.int .u32 y).wf = true) :
    Calls Try.prog 5 #[.int .i64 a, .int .u32 x, .int .u32 y] w fun e w' => e = .returned (.bool true) ∧ Keep [] w w' := by
  have ha := wf_i64 ha
  obtain ⟨hx0, hx1⟩ := wf_u32 hx
  obtain ⟨hy0, hy1⟩ := wf_u32 hy
  have A := Lib.hid (awake2_any w)
  clear hx hy
  obtain ⟨ha0, ha1⟩ := ha
  by_cases h1 : a < -1
  · go_enter Try.func5, Try.ntmps5
    go_wp2_with (go_at_call 6; with_reducible refine A.out.mono ?_; rintro e w' ⟨rfl, hk⟩)
    go_ret
    exact ⟨rfl, hk⟩
  by_cases h2 : 2305843009213693952 < a
  · go_enter Try.func5, Try.ntmps5
    go_wp2_with (go_at_call 6; with_reducible refine A.out.mono ?_; rintro e w' ⟨rfl, hk⟩)
    go_ret
    exact ⟨rfl, hk⟩
  rcases Int.lt_trichotomy x y with hxy | hxy | hxy
  · have SX := fun W => Lib.hid (size_any (a + 1 + x) a W (by omega) (by omega) ha0 ha1)
    have SY := fun W => Lib.hid (size_any (a + 1 + y) a W (by omega) (by omega) ha0 ha1)
    rw [dist_ahead a x (by omega) (by omega) (by omega)] at SX
    rw [dist_ahead a y (by omega) (by omega) (by omega)] at SY
    have hm : sz (x + 1) ≤ sz (y + 1) := sz_mono (by omega)
    have hy4 := (sz_range (y + 1)).2
    have hp := sz_cases (x + 1)
    generalize sz (y + 1) = q at *
    generalize sz (x + 1) = p at *
    rcases hp with ⟨rfl, hp⟩ | ⟨rfl, hp, hp'⟩ | ⟨rfl, hp, hp'⟩ | ⟨rfl, hp⟩ <;>
    · go_enter Try.func5, Try.ntmps5
      go_wp2_with (first
        | (go_at_call 6; with_reducible refine A.out.mono ?_; rintro e w' ⟨rfl, hk⟩)
        | (go_at_call 9; with_reducible refine (SX _).out.mono ?_; rintro e w' ⟨rfl, rfl⟩)
        | (go_at_call 9; with_reducible refine (SY _).out.mono ?_; rintro e w' ⟨rfl, rfl⟩))
      go_ret
      exact ⟨rfl, hk⟩
  · subst hxy
    have SX := fun W => Lib.hid (size_any (a + 1 + x) a W (by omega) (by omega) ha0 ha1)
    rw [dist_ahead a x (by omega) (by omega) (by omega)] at SX
    have hp := sz_cases (x + 1)
    generalize sz (x + 1) = p at *
    rcases hp with ⟨rfl, hp⟩ | ⟨rfl, hp, hp'⟩ | ⟨rfl, hp, hp'⟩ | ⟨rfl, hp⟩ <;>
    · go_enter Try.func5, Try.ntmps5
      go_wp2_with (first
        | (go_at_call 6; with_reducible refine A.out.mono ?_; rintro e w' ⟨rfl, hk⟩)
        | (go_at_call 9; with_reducible refine (SX _).out.mono ?_; rintro e w' ⟨rfl, rfl⟩))
      go_ret
      exact ⟨rfl, hk⟩
  · have SX := fun W => Lib.hid (size_any (a + 1 + y) a W (by omega) (by omega) ha0 ha1)
    have SY := fun W => Lib.hid (size_any (a + 1 + x) a W (by omega) (by omega) ha0 ha1)
    rw [dist_ahead a y (by omega) (by omega) (by omega)] at SX
    rw [dist_ahead a x (by omega) (by omega) (by omega)] at SY
    have hm : sz (y + 1) ≤ sz (x + 1) := sz_mono (by omega)
    have hy4 := (sz_range (x + 1)).2
    have hp := sz_cases (y + 1)
    generalize sz (x + 1) = q at *
    generalize sz (y + 1) = p at *
    rcases hp with ⟨rfl, hp⟩ | ⟨rfl, hp, hp'⟩ | ⟨rfl, hp, hp'⟩ | ⟨rfl, hp⟩ <;>
    · go_enter Try.func5, Try.ntmps5
      go_wp2_with (first
        | (go_at_call 6; with_reducible refine A.out.mono ?_; rintro e w' ⟨rfl, hk⟩)
        | (go_at_call 9; with_reducible refine (SX _).out.mono ?_; rintro e w' ⟨rfl, rfl⟩)
        | (go_at_call 9; with_reducible refine (SY _).out.mono ?_; rintro e w' ⟨rfl, rfl⟩))
      go_ret
      exact ⟨rfl, hk⟩

end Go.Proofs.Ytfjhdlgcjbgnfaa
