/-
  The contract of Awake, and of the law VintTakes.
-/
import Derived.Test.YtaifocfnkhgpoaaDoorWide
import Derived.Test.YtaifocfnkhgpoaaDoorRTake
namespace Go.Proofs.YtaifocfnkhgpoaaDoor
open Go.RowKit

set_option maxHeartbeats 400000 in
theorem awake_any (w : World) (ht : Tabs w) :
    Calls Tryd.prog 8 #[] w fun e w' => e = .returned (.bool true) ∧ Keep [] w w' := by
  have hP := put_yes (.slice none 0 0) 300 [] w ht (by decide) (by decide) (Sl.nil _ _) (by simp)
  have he : ([] ++ enc 300 (vlen 300).toNat) = [65, 44] := by decide
  rw [he] at hP
  have W := Lib.hid hP
  clear hP he
  go_enter Tryd.func8, Tryd.ntmps8
  go_wp2_with (go_at_call 11; with_reducible refine W.out.mono ?_; rintro e w1 ⟨v', rfl, ho, hk⟩)
  have hcv : (convert 23 9 v').run Tryd.prog w1 = .ok (.string ⟨#[65, 44]⟩) w1 := run_bytes_str (Sl.of_own ho (by decide)) Tryd.underlying23 Tryd.underlying5 Tryd.underlying9
  clear ho
  go_wp2
  simp only [hcv]
  go_wp2
  go_ret
  exact ⟨rfl, hk⟩

set_option maxHeartbeats 400000 in
theorem vintTakes_walk (v : Value) (l : List Int) (w : World) (ht : Tabs w) (hv : Sl .u8 w v l) :
    Calls Tryd.prog 4 #[v] w fun e w' => e = .returned (.bool true) ∧ Keep [] w w' := by
  have A := Lib.hid (awake_any w ht)
  go_enter Tryd.func4, Tryd.ntmps4
  go_wp2_with fail
  refine A.out.mono ?_
  rintro e w1 ⟨rfl, hk⟩
  have T := Lib.hid (take_any v l w1 (hv.keep0 hk))
  have R := Lib.hid (rtake_any v l w1 (hv.keep0 hk))
  clear A hv ht
  obtain ⟨s, hs⟩ : ∃ s, s = tkS l := ⟨_, rfl⟩
  by_cases h0 : s = 0
  · have hE : tkE l = 3 := by unfold tkE; rw [← hs, if_pos h0]
    rw [← hs, h0, hE] at T
    rw [← hs, h0] at R
    generalize tkN l = N at *
    clear hE hs h0
    go_wp2_with (first
      | (go_at_call 15; with_reducible refine T.out.mono ?_; rintro e w' ⟨rfl, rfl⟩)
      | (go_at_call 16; with_reducible refine R.out.mono ?_; rintro e w' ⟨rfl, rfl⟩))
    go_ret
    exact ⟨rfl, hk⟩
  · have hE : tkE l = 0 := by unfold tkE; rw [← hs, if_neg h0]
    rw [← hs, hE] at T
    rw [← hs] at R
    generalize tkN l = N at *
    have hd : 0 < s := by omega
    clear hE hs h0
    go_wp2_with (first
      | (go_at_call 15; with_reducible refine T.out.mono ?_; rintro e w' ⟨rfl, rfl⟩)
      | (go_at_call 16; with_reducible refine R.out.mono ?_; rintro e w' ⟨rfl, rfl⟩))
    go_ret
    exact ⟨rfl, hk⟩

end Go.Proofs.YtaifocfnkhgpoaaDoor
