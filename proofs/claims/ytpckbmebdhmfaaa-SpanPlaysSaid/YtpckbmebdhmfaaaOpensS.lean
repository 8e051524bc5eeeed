/-
  Frames of the landed functions' sizes, opened.
-/
import Derived.Test.YtpckbmebdhmfaaaGen
namespace Go.Proofs.Ytpckbmebdhmfaaa
open Go.RowKit

set_option maxRecDepth 100000 in
theorem letters27 (f : Nat → Value) : (List.range 27).map f = [f 0, f 1, f 2, f 3, f 4, f 5, f 6, f 7, f 8, f 9, f 10, f 11, f 12, f 13, f 14, f 15, f 16, f 17, f 18, f 19, f 20, f 21, f 22, f 23, f 24, f 25, f 26] := by kernel_rfl
set_option maxRecDepth 100000 in
theorem Fr.open27 {l : List (Nat × Value)} {a : Act} (h : Fr 27 l a) : ∃ f : Nat → Value, Holds f l ∧ a = ⟨#[f 0, f 1, f 2, f 3, f 4, f 5, f 6, f 7, f 8, f 9, f 10, f 11, f 12, f 13, f 14, f 15, f 16, f 17, f 18, f 19, f 20, f 21, f 22, f 23, f 24, f 25, f 26], []⟩ := by
  refine ⟨fun k => a.tmps.getD k undef, h.slot, ?_⟩
  obtain ⟨t, d⟩ := a
  obtain ⟨h1, h2, _⟩ := h
  simp only at h1 h2
  subst h1
  have e := arr_letters t 27 h2
  rw [letters27 (fun k => t.getD k undef)] at e
  exact congrArg (fun t => Act.mk t []) e

end Go.Proofs.Ytpckbmebdhmfaaa
