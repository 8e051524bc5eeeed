/-
  Frames of the landed functions' sizes, opened.
-/
import Derived.Test.YtlkjngbelckgkaaGen
namespace Go.Proofs.Ytlkjngbelckgkaa
open Go.RowKit

set_option maxRecDepth 100000 in
theorem letters58 (f : Nat → Value) : (List.range 58).map f = [f 0, f 1, f 2, f 3, f 4, f 5, f 6, f 7, f 8, f 9, f 10, f 11, f 12, f 13, f 14, f 15, f 16, f 17, f 18, f 19, f 20, f 21, f 22, f 23, f 24, f 25, f 26, f 27, f 28, f 29, f 30, f 31, f 32, f 33, f 34, f 35, f 36, f 37, f 38, f 39, f 40, f 41, f 42, f 43, f 44, f 45, f 46, f 47, f 48, f 49, f 50, f 51, f 52, f 53, f 54, f 55, f 56, f 57] := by kernel_rfl
set_option maxRecDepth 100000 in
theorem Fr.open58 {l : List (Nat × Value)} {a : Act} (h : Fr 58 l a) : ∃ f : Nat → Value, Holds f l ∧ a = ⟨#[f 0, f 1, f 2, f 3, f 4, f 5, f 6, f 7, f 8, f 9, f 10, f 11, f 12, f 13, f 14, f 15, f 16, f 17, f 18, f 19, f 20, f 21, f 22, f 23, f 24, f 25, f 26, f 27, f 28, f 29, f 30, f 31, f 32, f 33, f 34, f 35, f 36, f 37, f 38, f 39, f 40, f 41, f 42, f 43, f 44, f 45, f 46, f 47, f 48, f 49, f 50, f 51, f 52, f 53, f 54, f 55, f 56, f 57], []⟩ := by
  refine ⟨fun k => a.tmps.getD k undef, h.slot, ?_⟩
  obtain ⟨t, d⟩ := a
  obtain ⟨h1, h2, _⟩ := h
  simp only at h1 h2
  subst h1
  have e := arr_letters t 58 h2
  rw [letters58 (fun k => t.getD k undef)] at e
  exact congrArg (fun t => Act.mk t []) e

set_option maxRecDepth 100000 in
theorem letters92 (f : Nat → Value) : (List.range 92).map f = [f 0, f 1, f 2, f 3, f 4, f 5, f 6, f 7, f 8, f 9, f 10, f 11, f 12, f 13, f 14, f 15, f 16, f 17, f 18, f 19, f 20, f 21, f 22, f 23, f 24, f 25, f 26, f 27, f 28, f 29, f 30, f 31, f 32, f 33, f 34, f 35, f 36, f 37, f 38, f 39, f 40, f 41, f 42, f 43, f 44, f 45, f 46, f 47, f 48, f 49, f 50, f 51, f 52, f 53, f 54, f 55, f 56, f 57, f 58, f 59, f 60, f 61, f 62, f 63, f 64, f 65, f 66, f 67, f 68, f 69, f 70, f 71, f 72, f 73, f 74, f 75, f 76, f 77, f 78, f 79, f 80, f 81, f 82, f 83, f 84, f 85, f 86, f 87, f 88, f 89, f 90, f 91] := by kernel_rfl
set_option maxRecDepth 100000 in
theorem Fr.open92 {l : List (Nat × Value)} {a : Act} (h : Fr 92 l a) : ∃ f : Nat → Value, Holds f l ∧ a = ⟨#[f 0, f 1, f 2, f 3, f 4, f 5, f 6, f 7, f 8, f 9, f 10, f 11, f 12, f 13, f 14, f 15, f 16, f 17, f 18, f 19, f 20, f 21, f 22, f 23, f 24, f 25, f 26, f 27, f 28, f 29, f 30, f 31, f 32, f 33, f 34, f 35, f 36, f 37, f 38, f 39, f 40, f 41, f 42, f 43, f 44, f 45, f 46, f 47, f 48, f 49, f 50, f 51, f 52, f 53, f 54, f 55, f 56, f 57, f 58, f 59, f 60, f 61, f 62, f 63, f 64, f 65, f 66, f 67, f 68, f 69, f 70, f 71, f 72, f 73, f 74, f 75, f 76, f 77, f 78, f 79, f 80, f 81, f 82, f 83, f 84, f 85, f 86, f 87, f 88, f 89, f 90, f 91], []⟩ := by
  refine ⟨fun k => a.tmps.getD k undef, h.slot, ?_⟩
  obtain ⟨t, d⟩ := a
  obtain ⟨h1, h2, _⟩ := h
  simp only at h1 h2
  subst h1
  have e := arr_letters t 92 h2
  rw [letters92 (fun k => t.getD k undef)] at e
  exact congrArg (fun t => Act.mk t []) e

end Go.Proofs.Ytlkjngbelckgkaa
