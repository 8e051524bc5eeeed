/-
  Sets of numbers as ranges: pure functions, and what holds of them; nothing of the program.
-/
import Derived.Test.YtpckbmebdhmfaaaGen
namespace Go.Proofs.Ytpckbmebdhmfaaa

namespace Span
abbrev R := Nat × Nat
/-- Is a number in one of them? -/
def Mem (l : List R) (n : Nat) : Prop := ∃ x ∈ l, x.1 ≤ n ∧ n < x.2
/-- None is empty; rising; none touches another. -/
def Nrm : List R → Prop
  | [] => True
  | x :: l => x.1 < x.2 ∧ (∀ y ∈ l, x.2 < y.1) ∧ Nrm l
/-- All end below. -/
def Bd (B : Nat) (l : List R) : Prop := ∀ x ∈ l, x.1 < B ∧ x.2 < B
/-- Added already: what touches is swallowed. -/
def addD : List R → R → List R
  | [], _ => []
  | x :: l, r => if r.1 ≤ x.2 ∧ x.1 ≤ r.2 then addD l (min x.1 r.1, max x.2 r.2) else x :: addD l r
def addL : List R → R → List R
  | [], r => [r]
  | x :: l, r => if r.1 ≤ x.2 ∧ x.1 ≤ r.2 then addL l (min x.1 r.1, max x.2 r.2) else if r.2 < x.1 then r :: x :: addD l r else x :: addL l r
/-- A set with a range more. -/
def add (l : List R) (r : R) : List R := if r.1 < r.2 then addL l r else l
def cutL : List R → R → List R
  | [], _ => []
  | x :: l, r => if x.2 ≤ r.1 ∨ r.2 ≤ x.1 then x :: cutL l r else (if x.1 < r.1 then [(x.1, r.1)] else []) ++ (if r.2 < x.2 then [(r.2, x.2)] else []) ++ cutL l r
/-- A set without a range. -/
def cut (l : List R) (r : R) : List R := if r.1 < r.2 then cutL l r else l

theorem mem_nil (n : Nat) : ¬ Mem [] n := by rintro ⟨x, h, _⟩; cases h
theorem mem_cons (x : R) (l : List R) (n : Nat) : Mem (x :: l) n ↔ (x.1 ≤ n ∧ n < x.2) ∨ Mem l n := by
  unfold Mem
  simp
theorem mem_append (l m : List R) (n : Nat) : Mem (l ++ m) n ↔ Mem l n ∨ Mem m n := by
  unfold Mem
  simp only [List.mem_append]
  constructor
  · rintro ⟨x, h | h, hx⟩
    · exact .inl ⟨x, h, hx⟩
    · exact .inr ⟨x, h, hx⟩
  · rintro (⟨x, h, hx⟩ | ⟨x, h, hx⟩)
    · exact ⟨x, .inl h, hx⟩
    · exact ⟨x, .inr h, hx⟩
theorem Nrm.above {x : R} {l : List R} (h : Nrm (x :: l)) {n : Nat} (hn : Mem l n) : x.2 < n := by
  obtain ⟨y, hy, h1, h2⟩ := hn
  have := h.2.1 y hy
  omega
theorem Nrm.pos {l : List R} (h : Nrm l) : ∀ x ∈ l, x.1 < x.2 := by
  induction l with
  | nil => intro x hx; cases hx
  | cons y l ih =>
    intro x hx
    rcases List.mem_cons.1 hx with rfl | hx
    · exact h.1
    · exact ih h.2.2 x hx
/-- One set is one list. -/
theorem Nrm.uniq {l m : List R} (hl : Nrm l) (hm : Nrm m) (h : ∀ n, Mem l n ↔ Mem m n) : l = m := by
  induction l generalizing m with
  | nil =>
    cases m with
    | nil => rfl
    | cons y m =>
      have := (h y.1).2 ((mem_cons _ _ _).2 (.inl ⟨Nat.le_refl _, hm.1⟩))
      exact absurd this (mem_nil _)
  | cons x l ih =>
    cases m with
    | nil =>
      have := (h x.1).1 ((mem_cons _ _ _).2 (.inl ⟨Nat.le_refl _, hl.1⟩))
      exact absurd this (mem_nil _)
    | cons y m =>
      have hx := hl.1
      have hy := hm.1
      have a1 : y.1 ≤ x.1 := by
        rcases (mem_cons _ _ _).1 ((h x.1).1 ((mem_cons _ _ _).2 (.inl ⟨Nat.le_refl _, hx⟩))) with h1 | h1
        · exact h1.1
        · have := hm.above h1; omega
      have a2 : x.1 ≤ y.1 := by
        rcases (mem_cons _ _ _).1 ((h y.1).2 ((mem_cons _ _ _).2 (.inl ⟨Nat.le_refl _, hy⟩))) with h1 | h1
        · exact h1.1
        · have := hl.above h1; omega
      have b1 : ¬ x.2 < y.2 := fun hh => by
        rcases (mem_cons _ _ _).1 ((h x.2).2 ((mem_cons _ _ _).2 (.inl ⟨by omega, hh⟩))) with h1 | h1
        · omega
        · have := hl.above h1; omega
      have b2 : ¬ y.2 < x.2 := fun hh => by
        rcases (mem_cons _ _ _).1 ((h y.2).1 ((mem_cons _ _ _).2 (.inl ⟨by omega, hh⟩))) with h1 | h1
        · omega
        · have := hm.above h1; omega
      have e : x = y := Prod.ext (by omega) (by omega)
      subst e
      congr 1
      refine ih hl.2.2 hm.2.2 fun n => ?_
      constructor
      · intro hn
        rcases (mem_cons _ _ _).1 ((h n).1 ((mem_cons _ _ _).2 (.inr hn))) with h1 | h1
        · have := hl.above hn; omega
        · exact h1
      · intro hn
        rcases (mem_cons _ _ _).1 ((h n).2 ((mem_cons _ _ _).2 (.inr hn))) with h1 | h1
        · have := hm.above hn; omega
        · exact h1
theorem addD_far {l : List R} {r : R} (h : ∀ y ∈ l, r.2 < y.1) : addD l r = l := by
  induction l with
  | nil => rfl
  | cons x l ih =>
    have := h x (by simp)
    rw [addD, if_neg (by omega), ih (fun y hy => h y (by simp [hy]))]
theorem addL_mem {l : List R} (hl : Nrm l) (r : R) (hr : r.1 < r.2) (n : Nat) : Mem (addL l r) n ↔ Mem l n ∨ (r.1 ≤ n ∧ n < r.2) := by
  induction l generalizing r with
  | nil => rw [addL, mem_cons]; simp [mem_nil]
  | cons x l ih =>
    rw [addL]
    have hx := hl.1
    split
    · next h =>
      rw [ih hl.2.2 _ (by simp only; omega), mem_cons]
      simp only
      constructor
      · rintro (h1 | h1)
        · exact .inl (.inr h1)
        · by_cases h2 : x.1 ≤ n ∧ n < x.2
          · exact .inl (.inl h2)
          · exact .inr (by omega)
      · rintro ((h1 | h1) | h1)
        · exact .inr (by omega)
        · exact .inl h1
        · exact .inr (by omega)
    · split
      · next h1 h2 =>
        rw [addD_far (fun y hy => by have := hl.2.1 y hy; omega), mem_cons]
        constructor
        · rintro (h3 | h3)
          · exact .inr h3
          · exact .inl h3
        · rintro (h3 | h3)
          · exact .inr h3
          · exact .inl h3
      · rw [mem_cons, ih hl.2.2 r hr, mem_cons]
        constructor
        · rintro (h3 | h3 | h3)
          · exact .inl (.inl h3)
          · exact .inl (.inr h3)
          · exact .inr h3
        · rintro ((h3 | h3) | h3)
          · exact .inl h3
          · exact .inr (.inl h3)
          · exact .inr (.inr h3)
/-- What is at the head of it begins at or behind. -/
theorem addL_low {l : List R} (r : R) (b : Nat) (hl : Nrm l) (h : ∀ y ∈ l, b < y.1) (hr : b < r.1) : ∀ y ∈ addL l r, b < y.1 := by
  induction l generalizing r with
  | nil => intro y hy; rw [addL, List.mem_singleton] at hy; rw [hy]; exact hr
  | cons x l ih =>
    have hx := h x (by simp)
    intro y hy
    rw [addL] at hy
    split at hy
    · exact ih _ hl.2.2 (fun y hy => h y (by simp [hy])) (by simp only; omega) y hy
    · split at hy
      · next h1 h2 =>
        rw [addD_far (fun y hy => by have := hl.2.1 y hy; have := hl.1; omega)] at hy
        rcases List.mem_cons.1 hy with rfl | hy
        · exact hr
        · exact h y hy
      · rcases List.mem_cons.1 hy with rfl | hy
        · exact hx
        · exact ih r hl.2.2 (fun y hy => h y (by simp [hy])) hr y hy
theorem addL_nrm {l : List R} (hl : Nrm l) (r : R) (hr : r.1 < r.2) : Nrm (addL l r) := by
  induction l generalizing r with
  | nil => exact ⟨hr, (fun y hy => by cases hy), trivial⟩
  | cons x l ih =>
    have hx := hl.1
    rw [addL]
    split
    · exact ih hl.2.2 _ (by simp only; omega)
    · split
      · next h1 h2 =>
        rw [addD_far (fun y hy => by have := hl.2.1 y hy; omega)]
        refine ⟨hr, fun y hy => ?_, hl⟩
        rcases List.mem_cons.1 hy with rfl | hy
        · exact h2
        · have := hl.2.1 y hy; omega
      · next h1 h2 => exact ⟨hx, addL_low r x.2 hl.2.2 hl.2.1 (by omega), ih hl.2.2 r hr⟩
theorem add_nrm {l : List R} (hl : Nrm l) (r : R) : Nrm (add l r) := by
  unfold add
  split
  · next h => exact addL_nrm hl r h
  · exact hl
theorem add_mem {l : List R} (hl : Nrm l) (r : R) (n : Nat) : Mem (add l r) n ↔ Mem l n ∨ (r.1 ≤ n ∧ n < r.2) := by
  unfold add
  split
  · next h => exact addL_mem hl r h n
  · constructor
    · exact .inl
    · rintro (h | h)
      · exact h
      · omega
theorem cutL_mem {l : List R} (hl : ∀ x ∈ l, x.1 < x.2) (r : R) (hr : r.1 < r.2) (n : Nat) : Mem (cutL l r) n ↔ Mem l n ∧ ¬ (r.1 ≤ n ∧ n < r.2) := by
  induction l with
  | nil => simp [cutL, mem_nil]
  | cons x l ih =>
    have ih := ih (fun y hy => hl y (by simp [hy]))
    have hx := hl x (by simp)
    rw [cutL]
    split
    · rw [mem_cons, ih, mem_cons]
      constructor
      · rintro (h | h)
        · exact ⟨.inl h, by omega⟩
        · exact ⟨.inr h.1, h.2⟩
      · rintro ⟨h | h, h2⟩
        · exact .inl h
        · exact .inr ⟨h, h2⟩
    · rw [mem_append, mem_append, ih, mem_cons]
      have e1 : Mem (if x.1 < r.1 then [(x.1, r.1)] else []) n ↔ x.1 ≤ n ∧ n < r.1 := by
        split
        · simp [mem_cons, mem_nil]
        · exact ⟨fun h => absurd h (mem_nil _), fun h => by omega⟩
      have e2 : Mem (if r.2 < x.2 then [(r.2, x.2)] else []) n ↔ r.2 ≤ n ∧ n < x.2 := by
        split
        · simp [mem_cons, mem_nil]
        · exact ⟨fun h => absurd h (mem_nil _), fun h => by omega⟩
      rw [e1, e2]
      constructor
      · rintro ((h | h) | h)
        · exact ⟨.inl (by omega), by omega⟩
        · exact ⟨.inl (by omega), by omega⟩
        · exact ⟨.inr h.1, h.2⟩
      · rintro ⟨h | h, h2⟩
        · by_cases h3 : n < r.1
          · exact .inl (.inl (by omega))
          · exact .inl (.inr (by omega))
        · exact .inr ⟨h, h2⟩
theorem cutL_low {l : List R} (r : R) (b : Nat) (h : ∀ y ∈ l, b < y.1) (hr : r.1 < r.2) : ∀ y ∈ cutL l r, b < y.1 := by
  induction l with
  | nil => intro y hy; cases hy
  | cons x l ih =>
    have hx := h x (by simp)
    have ih := ih (fun y hy => h y (by simp [hy]))
    intro y hy
    rw [cutL] at hy
    split at hy
    · rcases List.mem_cons.1 hy with rfl | hy
      · exact hx
      · exact ih y hy
    · rw [List.mem_append, List.mem_append] at hy
      rcases hy with (hy | hy) | hy
      · split at hy
        · rw [List.mem_singleton.1 hy]; exact hx
        · cases hy
      · split at hy
        · rw [List.mem_singleton.1 hy]; simp only; omega
        · cases hy
      · exact ih y hy
theorem cutL_nrm {l : List R} (hl : Nrm l) (r : R) (hr : r.1 < r.2) : Nrm (cutL l r) := by
  induction l with
  | nil => exact trivial
  | cons x l ih =>
    have hx := hl.1
    have ih := ih hl.2.2
    have hlow := cutL_low r x.2 hl.2.1 hr
    rw [cutL]
    split
    · exact ⟨hx, hlow, ih⟩
    · next h =>
      have n2 : Nrm ((if r.2 < x.2 then [(r.2, x.2)] else []) ++ cutL l r) := by
        split
        · next h2 => exact ⟨h2, hlow, ih⟩
        · exact ih
      rw [List.append_assoc]
      by_cases h1 : x.1 < r.1
      · rw [if_pos h1, List.singleton_append]
        refine ⟨h1, fun y hy => ?_, n2⟩
        rcases List.mem_append.1 hy with hy | hy
        · split at hy
          · rw [List.mem_singleton.1 hy]; exact hr
          · cases hy
        · have := hlow y hy; simp only; omega
      · rw [if_neg h1]
        exact n2
theorem cut_nrm {l : List R} (hl : Nrm l) (r : R) : Nrm (cut l r) := by
  unfold cut
  split
  · next h => exact cutL_nrm hl r h
  · exact hl
theorem cut_mem {l : List R} (hl : Nrm l) (r : R) (n : Nat) : Mem (cut l r) n ↔ Mem l n ∧ ¬ (r.1 ≤ n ∧ n < r.2) := by
  unfold cut
  split
  · next h => exact cutL_mem hl.pos r h n
  · exact ⟨fun h => ⟨h, by omega⟩, fun h => h.1⟩
/-- Cut again what was added where none of it was: as ahead. -/
theorem cut_add {l : List R} (hl : Nrm l) (r : R) (h : ∀ n, r.1 ≤ n → n < r.2 → ¬ Mem l n) : cut (add l r) r = l := by
  refine Nrm.uniq (cut_nrm (add_nrm hl r) r) hl fun n => ?_
  rw [cut_mem (add_nrm hl r), add_mem hl]
  constructor
  · rintro ⟨h1 | h1, h2⟩
    · exact h1
    · exact absurd h1 h2
  · intro h1
    exact ⟨.inl h1, fun h2 => h n h2.1 h2.2 h1⟩
/-- How many numbers. -/
def cnt : List R → Nat
  | [] => 0
  | x :: l => (x.2 - x.1) + cnt l
theorem cnt_addL {l : List R} (hl : Nrm l) (r : R) (hr : r.1 < r.2) (acc : Nat) (hacc : acc ≤ r.2 - r.1) (h : ∀ y ∈ l, r.1 + acc ≤ y.1 ∨ acc = 0) : cnt l + acc ≤ cnt (addL l r) := by
  induction l generalizing r acc with
  | nil => simp only [addL, cnt]; omega
  | cons x l ih =>
    have hx := hl.1
    have h0 := h x (by simp)
    rw [addL]
    split
    · next ht =>
      have := ih hl.2.2 (min x.1 r.1, max x.2 r.2) (by simp only; omega) (acc + (x.2 - x.1)) (by simp only; omega) (fun y hy => by
        have := hl.2.1 y hy
        simp only
        left
        omega)
      simp only [cnt] at this ⊢
      omega
    · split
      · next h1 h2 =>
        rw [addD_far (fun y hy => by have := hl.2.1 y hy; omega)]
        simp only [cnt]
        omega
      · have := ih hl.2.2 r hr acc hacc (fun y hy => h y (by simp [hy]))
        simp only [cnt] at this ⊢
        omega
theorem cnt_add {l : List R} (hl : Nrm l) (r : R) : cnt l ≤ cnt (add l r) := by
  unfold add
  split
  · next h => exact cnt_addL hl r h 0 (by omega) (fun y hy => .inr rfl)
  · exact Nat.le_refl _
theorem cnt_low {l : List R} (hl : Nrm l) (b B : Nat) (h : ∀ y ∈ l, b ≤ y.1) (hB : ∀ y ∈ l, y.2 ≤ B) (hbB : b ≤ B) : cnt l ≤ B - b := by
  induction l generalizing b with
  | nil => simp [cnt]
  | cons x l ih =>
    have h1 := h x (by simp)
    have h2 := hB x (by simp)
    have := ih hl.2.2 x.2 (fun y hy => by have := hl.2.1 y hy; omega) (fun y hy => hB y (by simp [hy])) h2
    have := hl.1
    simp only [cnt]
    omega
end Span
end Go.Proofs.Ytpckbmebdhmfaaa
