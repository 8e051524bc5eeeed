/-
  Sets of numbers as ranges, as the landed span finds its way in them: by the first of the ranges for which something holds; pure, nothing of the program.
-/
import Derived.Test.YtpckbmebdhmfaaaSpanLaw
import Derived.Test.YtpckbmebdhmfaaaSpanQ
namespace Go.Proofs.Ytpckbmebdhmfaaa

namespace Span
/-- The place of the first for which p holds; their number if there is none. -/
def fi (p : R → Bool) : List R → Nat
  | [] => 0
  | x :: l => if p x = true then 0 else fi p l + 1
theorem fi_le (p : R → Bool) (l : List R) : fi p l ≤ l.length := by
  induction l with
  | nil => exact Nat.le_refl _
  | cons x l ih => rw [fi]; split <;> simp <;> omega
theorem fi_hit (p : R → Bool) (l : List R) (h : fi p l < l.length) : p (l.getD (fi p l) (0, 0)) = true := by
  induction l with
  | nil => cases h
  | cons x l ih =>
    rw [fi] at h ⊢
    split
    · next hx => exact hx
    · next hx =>
      rw [if_neg hx] at h
      have := ih (by simpa using h)
      simpa using this
theorem fi_miss (p : R → Bool) (l : List R) (i : Nat) (h : i < fi p l) : p (l.getD i (0, 0)) = false := by
  induction l generalizing i with
  | nil => cases h
  | cons x l ih =>
    rw [fi] at h
    split at h
    · cases h
    · next hx =>
      cases i with
      | zero => simpa using hx
      | succ i => have := ih i (by omega); simpa using this
/-- It is the one place from which on it holds. -/
theorem fi_uniq (p : R → Bool) (l : List R) (k : Nat) (hk : k ≤ l.length) (h1 : ∀ i, i < k → p (l.getD i (0, 0)) = false) (h2 : k < l.length → p (l.getD k (0, 0)) = true) : fi p l = k := by
  rcases Nat.lt_trichotomy (fi p l) k with h | h | h
  · have := h1 _ h
    rw [fi_hit p l (by omega)] at this
    cases this
  · exact h
  · have := fi_miss p l k h
    rw [h2 (by have := fi_le p l; omega)] at this
    cases this
theorem fi_none (p : R → Bool) (l : List R) (h : ∀ x ∈ l, p x = false) : fi p l = l.length := by
  induction l with
  | nil => rfl
  | cons x l ih => rw [fi, h x (by simp), ih (fun y hy => h y (by simp [hy]))]; simp
theorem fi_zero (p : R → Bool) (l : List R) (h : ∀ x ∈ l, p x = true) : fi p l = 0 := by
  cases l with
  | nil => rfl
  | cons x l => rw [fi, h x (by simp)]; simp
theorem Nrm.mono {l : List R} (hl : Nrm l) (i j : Nat) (hij : i < j) (h : j < l.length) : (l.getD i (0, 0)).2 < (l.getD j (0, 0)).1 := by
  induction l generalizing i j with
  | nil => cases h
  | cons x l ih =>
    cases j with
    | zero => cases hij
    | succ j =>
      cases i with
      | zero =>
        simp only [List.getD_cons_zero, List.getD_cons_succ]
        refine hl.2.1 _ ?_
        rw [List.getD_eq_getElem?_getD, List.getElem?_eq_getElem (by simpa using h)]
        exact List.getElem_mem _
      | succ i =>
        have := ih hl.2.2 i j (by omega) (by simpa using h)
        simpa using this
/-- In a set, what holds of one that ends behind n holds of all behind it. -/
theorem Nrm.rise {l : List R} (hl : Nrm l) (p : R → Bool) (hp : ∀ x y : R, x.1 < x.2 → x.2 < y.1 → y.1 < y.2 → p x = true → p y = true) (i j : Nat) (hij : i ≤ j) (h : j < l.length) (hi : p (l.getD i (0, 0)) = true) : p (l.getD j (0, 0)) = true := by
  rcases Nat.lt_or_eq_of_le hij with h1 | rfl
  · exact hp _ _ (hl.posD i (by omega)) (hl.mono i j h1 h) (hl.posD j h) hi
  · exact hi

theorem fi_first {l : List R} (hl : Nrm l) (n : Nat) : first l n = if fi (fun x => decide (n < x.2)) l < l.length then some (max (l.getD (fi (fun x => decide (n < x.2)) l) (0, 0)).1 n, (l.getD (fi (fun x => decide (n < x.2)) l) (0, 0)).2) else none := by
  induction l with
  | nil => rfl
  | cons x l ih =>
    rw [first, fi]
    by_cases h : n < x.2
    · simp [h]
    · rw [if_neg h, ih hl.2.2]
      simp [h]

/-- Added where all begin at or behind: what touches it is swallowed. -/
theorem addL_fi0 {l : List R} (hl : Nrm l) (r : R) (h : ∀ y ∈ l, r.1 ≤ y.1) :
    addL l r = (r.1, if fi (fun x => decide (r.2 < x.1)) l = 0 then r.2 else max r.2 (l.getD (fi (fun x => decide (r.2 < x.1)) l - 1) (0, 0)).2) :: l.drop (fi (fun x => decide (r.2 < x.1)) l) := by
  induction l generalizing r with
  | nil => rfl
  | cons x l ih =>
    have hx := hl.1
    have h0 := h x (by simp)
    rw [addL, fi]
    by_cases h1 : r.2 < x.1
    · rw [if_neg (by omega), if_pos h1, addD_far (fun y hy => by have := hl.2.1 y hy; omega)]
      simp [h1]
    · rw [if_pos (by omega), ih hl.2.2 _ (fun y hy => by have := hl.2.1 y hy; simp only; omega)]
      have e : fi (fun y => decide (max x.2 r.2 < y.1)) l = fi (fun y => decide (r.2 < y.1)) l := by
        clear ih
        have hb := hl.2.1
        clear hl h
        induction l with
        | nil => rfl
        | cons y l ih2 =>
          have hy := hb y (by simp)
          rw [fi, fi, ih2 (fun z hz => hb z (by simp [hz]))]
          by_cases h2 : r.2 < y.1
          · rw [if_pos (by simp; omega), if_pos (by simp [h2])]
          · rw [if_neg (by simp; omega), if_neg (by simp; omega)]
      simp only [e]
      rw [if_neg (show ¬ (decide (r.2 < x.1) = true) by simpa using h1)]
      obtain ⟨k, hk⟩ : ∃ k, k = fi (fun y => decide (r.2 < y.1)) l := ⟨_, rfl⟩
      rw [← hk]
      rw [if_neg (Nat.succ_ne_zero k), Nat.add_sub_cancel, List.drop_succ_cons]
      congr 1
      refine Prod.ext (by simp only; omega) ?_
      cases k with
      | zero => simp [Nat.max_comm]
      | succ k =>
        simp only [Nat.succ_ne_zero, if_false, Nat.add_sub_cancel, List.getD_cons_succ]
        have hkl : k < l.length := by have := fi_le (fun y => decide (r.2 < y.1)) l; omega
        have m1 : x.2 < (l.getD k (0, 0)).1 := by
          refine hl.2.1 _ ?_
          rw [List.getD_eq_getElem?_getD, List.getElem?_eq_getElem hkl]
          exact List.getElem_mem _
        have m2 := hl.2.2.posD k hkl
        rw [show max (max x.2 r.2) (l.getD k (0, 0)).2 = max r.2 (l.getD k (0, 0)).2 by omega]

/-- What a range grows to, put between those from place i on and from place j on. -/
def whole (l : List R) (r : R) (i j : Nat) : R := if i < j then (min r.1 (l.getD i (0, 0)).1, max r.2 (l.getD (j - 1) (0, 0)).2) else r
theorem addL_fi {l : List R} (hl : Nrm l) (r : R) (hr : r.1 < r.2) :
    addL l r = l.take (fi (fun x => decide (r.1 ≤ x.2)) l) ++ whole l r (fi (fun x => decide (r.1 ≤ x.2)) l) (fi (fun x => decide (r.2 < x.1)) l) :: l.drop (fi (fun x => decide (r.2 < x.1)) l) := by
  induction l with
  | nil => rfl
  | cons x l ih =>
    have hx := hl.1
    by_cases h1 : r.1 ≤ x.2
    · rw [fi, if_pos (show decide (r.1 ≤ x.2) = true by simpa using h1), List.take_zero, List.nil_append]
      rw [addL, fi]
      by_cases h2 : r.2 < x.1
      · rw [if_neg (by omega), if_pos h2, if_pos (show decide (r.2 < x.1) = true by simpa using h2), addD_far (fun y hy => by have := hl.2.1 y hy; omega)]
        rfl
      · rw [if_pos (by omega), if_neg (show ¬ decide (r.2 < x.1) = true by simpa using h2)]
        rw [addL_fi0 hl.2.2 _ (fun y hy => by have := hl.2.1 y hy; simp only; omega)]
        have e : fi (fun y => decide (max x.2 r.2 < y.1)) l = fi (fun y => decide (r.2 < y.1)) l := by
          clear ih
          have hb := hl.2.1
          clear hl
          induction l with
          | nil => rfl
          | cons y l ih2 =>
            have hy := hb y (by simp)
            rw [fi, fi, ih2 (fun z hz => hb z (by simp [hz]))]
            by_cases h3 : r.2 < y.1
            · rw [if_pos (by simp; omega), if_pos (by simp [h3])]
            · rw [if_neg (by simp; omega), if_neg (by simp; omega)]
        simp only [e]
        obtain ⟨k, hk⟩ : ∃ k, k = fi (fun y => decide (r.2 < y.1)) l := ⟨_, rfl⟩
        rw [← hk, whole, if_pos (Nat.succ_pos k), List.drop_succ_cons, Nat.add_sub_cancel]
        congr 1
        refine Prod.ext (by simp only [List.getD_cons_zero]; omega) ?_
        cases k with
        | zero => simp [Nat.max_comm]
        | succ k =>
          simp only [Nat.succ_ne_zero, if_false, Nat.add_sub_cancel, List.getD_cons_succ]
          have hkl : k < l.length := by have := fi_le (fun y => decide (r.2 < y.1)) l; omega
          have m1 : x.2 < (l.getD k (0, 0)).1 := by
            refine hl.2.1 _ ?_
            rw [List.getD_eq_getElem?_getD, List.getElem?_eq_getElem hkl]
            exact List.getElem_mem _
          have m2 := hl.2.2.posD k hkl
          rw [show max (max x.2 r.2) (l.getD k (0, 0)).2 = max r.2 (l.getD k (0, 0)).2 by omega]
    · rw [addL, if_neg (by omega), if_neg (by omega), ih hl.2.2]
      rw [fi, if_neg (by simpa using h1), fi, if_neg (by simp; omega)]
      simp only [List.take_succ_cons, List.drop_succ_cons, List.cons_append]
      congr 3
      unfold whole
      by_cases h2 : fi (fun x => decide (r.1 ≤ x.2)) l < fi (fun x => decide (r.2 < x.1)) l
      · rw [if_pos h2, if_pos (by omega)]
        obtain ⟨k, hk⟩ : ∃ k, fi (fun x => decide (r.2 < x.1)) l = k + 1 := ⟨_, (Nat.succ_pred_eq_of_pos (by omega)).symm⟩
        rw [hk]
        simp
      · rw [if_neg h2, if_neg (by omega)]
theorem fi_add_le {l : List R} (hl : Nrm l) (r : R) (hr : r.1 < r.2) : fi (fun x => decide (r.1 ≤ x.2)) l ≤ fi (fun x => decide (r.2 < x.1)) l := by
  induction l with
  | nil => exact Nat.le_refl _
  | cons x l ih =>
    have hx := hl.1
    rw [fi, fi]
    by_cases h1 : r.1 ≤ x.2
    · rw [if_pos (by simpa using h1)]; exact Nat.zero_le _
    · rw [if_neg (by simpa using h1), if_neg (by simp; omega)]
      have := ih hl.2.2
      omega

/-- What is left, of those from place i on and from place j on, beside a range. -/
def rest (l : List R) (r : R) (i j : Nat) : List R := [((l.getD i (0, 0)).1, r.1), (r.2, (l.getD (j - 1) (0, 0)).2)].filter fun x => decide (x.1 < x.2)
theorem cutL_fi0 {l : List R} (hl : Nrm l) (r : R) (hr : r.1 < r.2) (h : ∀ y ∈ l, r.1 ≤ y.1) :
    cutL l r = if fi (fun x => decide (r.2 ≤ x.1)) l = 0 then l else ([(r.2, (l.getD (fi (fun x => decide (r.2 ≤ x.1)) l - 1) (0, 0)).2)].filter fun x => decide (x.1 < x.2)) ++ l.drop (fi (fun x => decide (r.2 ≤ x.1)) l) := by
  induction l with
  | nil => rfl
  | cons x l ih =>
    have hx := hl.1
    have h0 := h x (by simp)
    rw [cutL, fi]
    by_cases h1 : r.2 ≤ x.1
    · rw [if_pos (.inr h1), cutL_far (fun y hy => by have := hl.2.1 y hy; omega)]
      simp [h1]
    · rw [if_neg (by omega), if_neg (show ¬ x.1 < r.1 by omega), List.nil_append, ih hl.2.2 (fun y hy => h y (by simp [hy]))]
      rw [if_neg (show ¬ decide (r.2 ≤ x.1) = true by simpa using h1), if_neg (Nat.succ_ne_zero _), Nat.add_sub_cancel, List.drop_succ_cons]
      obtain ⟨k, hk⟩ : ∃ k, k = fi (fun y => decide (r.2 ≤ y.1)) l := ⟨_, rfl⟩
      rw [← hk]
      cases k with
      | zero =>
        simp only [List.getD_cons_zero, if_true, List.drop_zero]
        congr 1
        by_cases h2 : r.2 < x.2
        · simp [h2]
        · simp [h2]
      | succ k =>
        simp only [Nat.succ_ne_zero, if_false, Nat.add_sub_cancel, List.getD_cons_succ]
        have hm := fi_miss (fun y => decide (r.2 ≤ y.1)) l k (by omega)
        have hkl : k < l.length := by have := fi_le (fun y => decide (r.2 ≤ y.1)) l; omega
        have hm2 : ¬ r.2 ≤ (l.getD k (0, 0)).1 := by simpa using hm
        have m1 : x.2 < (l.getD k (0, 0)).1 := by
          refine hl.2.1 _ ?_
          rw [List.getD_eq_getElem?_getD, List.getElem?_eq_getElem hkl]
          exact List.getElem_mem _
        rw [if_neg (show ¬ r.2 < x.2 by omega), List.nil_append]
theorem fi_cut_le {l : List R} (hl : Nrm l) (r : R) (hr : r.1 < r.2) : fi (fun x => decide (r.1 < x.2)) l ≤ fi (fun x => decide (r.2 ≤ x.1)) l := by
  rcases Nat.lt_or_ge (fi (fun x => decide (r.2 ≤ x.1)) l) (fi (fun x => decide (r.1 < x.2)) l) with h3 | h3
  · have h4 := fi_miss (fun x => decide (r.1 < x.2)) l _ h3
    have h5 := fi_hit (fun x => decide (r.2 ≤ x.1)) l (by have := fi_le (fun x => decide (r.1 < x.2)) l; omega)
    have h6 := hl.posD _ (show fi (fun x => decide (r.2 ≤ x.1)) l < l.length by have := fi_le (fun x => decide (r.1 < x.2)) l; omega)
    simp only [decide_eq_false_iff_not, decide_eq_true_eq] at h4 h5
    omega
  · exact h3
theorem cutL_fi {l : List R} (hl : Nrm l) (r : R) (hr : r.1 < r.2) :
    cutL l r = if fi (fun x => decide (r.1 < x.2)) l = fi (fun x => decide (r.2 ≤ x.1)) l then l else l.take (fi (fun x => decide (r.1 < x.2)) l) ++ rest l r (fi (fun x => decide (r.1 < x.2)) l) (fi (fun x => decide (r.2 ≤ x.1)) l) ++ l.drop (fi (fun x => decide (r.2 ≤ x.1)) l) := by
  induction l with
  | nil => rfl
  | cons x l ih =>
    have hx := hl.1
    rw [cutL, fi, fi]
    by_cases h1 : r.1 < x.2
    · rw [if_pos (show decide (r.1 < x.2) = true by simpa using h1), List.take_zero, List.nil_append]
      by_cases h2 : r.2 ≤ x.1
      · rw [if_pos (.inr h2), if_pos (show decide (r.2 ≤ x.1) = true by simpa using h2), if_pos rfl, cutL_far (fun y hy => by have := hl.2.1 y hy; omega)]
      · rw [if_neg (by omega), if_neg (show ¬ decide (r.2 ≤ x.1) = true by simpa using h2), if_neg (show ¬ (0 = fi (fun x => decide (r.2 ≤ x.1)) l + 1) by omega), cutL_fi0 hl.2.2 r hr (fun y hy => by have := hl.2.1 y hy; omega), List.drop_succ_cons]
        obtain ⟨k, hk⟩ : ∃ k, k = fi (fun y => decide (r.2 ≤ y.1)) l := ⟨_, rfl⟩
        rw [← hk, rest, Nat.add_sub_cancel, List.getD_cons_zero]
        have e0 : ∀ z : R, [(x.1, r.1), z].filter (fun x => decide (x.1 < x.2)) = (if x.1 < r.1 then [(x.1, r.1)] else []) ++ [z].filter (fun x => decide (x.1 < x.2)) := fun z => by
          by_cases h3 : x.1 < r.1 <;> simp [List.filter_cons, h3]
        rw [e0, List.append_assoc, List.append_assoc]
        congr 1
        cases k with
        | zero =>
          rw [if_pos rfl, List.getD_cons_zero, List.drop_zero]
          congr 1
          by_cases h3 : r.2 < x.2 <;> simp [h3]
        | succ k =>
          have hm := fi_miss (fun y => decide (r.2 ≤ y.1)) l k (by omega)
          have hkl : k < l.length := by have := fi_le (fun y => decide (r.2 ≤ y.1)) l; omega
          have hm2 : ¬ r.2 ≤ (l.getD k (0, 0)).1 := by simpa using hm
          have m1 : x.2 < (l.getD k (0, 0)).1 := by
            refine hl.2.1 _ ?_
            rw [List.getD_eq_getElem?_getD, List.getElem?_eq_getElem hkl]
            exact List.getElem_mem _
          rw [if_neg (Nat.succ_ne_zero _), if_neg (show ¬ r.2 < x.2 by omega), List.nil_append, List.getD_cons_succ, Nat.add_sub_cancel]
    · rw [if_pos (.inl (by omega)), ih hl.2.2, if_neg (show ¬ decide (r.1 < x.2) = true by simpa using h1), if_neg (show ¬ decide (r.2 ≤ x.1) = true by simp; omega)]
      by_cases h2 : fi (fun x => decide (r.1 < x.2)) l = fi (fun x => decide (r.2 ≤ x.1)) l
      · rw [if_pos h2, if_pos (by omega)]
      · rw [if_neg h2, if_neg (by omega), List.take_succ_cons, List.drop_succ_cons, List.cons_append, List.cons_append]
        have hle := fi_cut_le hl.2.2 r hr
        congr 1
        rw [show rest (x :: l) r (fi (fun x => decide (r.1 < x.2)) l + 1) (fi (fun x => decide (r.2 ≤ x.1)) l + 1) = rest l r (fi (fun x => decide (r.1 < x.2)) l) (fi (fun x => decide (r.2 ≤ x.1)) l) from ?_]
        unfold rest
        obtain ⟨k, hk⟩ : ∃ k, fi (fun x => decide (r.2 ≤ x.1)) l = k + 1 := ⟨_, (Nat.succ_pred_eq_of_pos (by omega)).symm⟩
        rw [hk]
        simp
theorem hasB_first {l : List R} (hl : Nrm l) (n : Nat) : hasB l n = (match first l n with | some x => decide (x.1 = n) | none => false) := by
  induction l with
  | nil => rfl
  | cons x l ih =>
    rw [first]
    unfold hasB
    rw [List.any_cons]
    by_cases h : n < x.2
    · rw [if_pos h]
      by_cases h2 : x.1 ≤ n
      · simp [h, h2]
      · have hf : l.any (fun x => decide (x.1 ≤ n ∧ n < x.2)) = false := by
          rw [List.any_eq_false]
          intro y hy
          have := hl.2.1 y hy
          simp
          omega
        rw [hf]
        simp [h2]
        omega
    · rw [if_neg h]
      rw [show decide (x.1 ≤ n ∧ n < x.2) = false from decide_eq_false (by omega), Bool.false_or]
      exact ih hl.2.2
theorem covB_first {l : List R} (hl : Nrm l) (r : R) (hr : r.1 < r.2) : covB l r = (match first l r.1 with | some x => decide (x.1 = r.1 ∧ r.2 ≤ x.2) | none => false) := by
  unfold covB
  rw [show decide (r.2 ≤ r.1) = false from decide_eq_false (by omega), Bool.false_or]
  induction l with
  | nil => rfl
  | cons x l ih =>
    rw [first, List.any_cons]
    by_cases h : r.1 < x.2
    · rw [if_pos h]
      have hf : l.any (fun x => decide (x.1 ≤ r.1 ∧ r.2 ≤ x.2)) = false := by
        rw [List.any_eq_false]
        intro y hy
        have := hl.2.1 y hy
        simp
        omega
      rw [hf, Bool.or_false]
      by_cases h2 : x.1 ≤ r.1
      · simp [h2]
      · simp [h2]
        intro h3
        omega
    · rw [if_neg h]
      rw [show decide (x.1 ≤ r.1 ∧ r.2 ≤ x.2) = false from decide_eq_false (by omega), Bool.false_or]
      exact ih hl.2.2
end Span
end Go.Proofs.Ytpckbmebdhmfaaa
