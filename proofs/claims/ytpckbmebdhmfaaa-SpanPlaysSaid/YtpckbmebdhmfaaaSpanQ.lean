/-
  Sets of numbers as ranges: lengths; what is covered; parted and put together; nothing of the program.
-/
import Derived.Test.YtpckbmebdhmfaaaSpanLaw
namespace Go.Proofs.Ytpckbmebdhmfaaa

namespace Span
theorem addD_len (l : List R) (r : R) : (addD l r).length ≤ l.length := by
  induction l generalizing r with
  | nil => simp [addD]
  | cons x l ih =>
    rw [addD]
    split
    · have := ih (min x.1 r.1, max x.2 r.2); rw [List.length_cons]; omega
    · have := ih r; rw [List.length_cons, List.length_cons]; omega
theorem addL_len (l : List R) (r : R) : (addL l r).length ≤ l.length + 1 := by
  induction l generalizing r with
  | nil => simp [addL]
  | cons x l ih =>
    rw [addL]
    split
    · have := ih (min x.1 r.1, max x.2 r.2); rw [List.length_cons]; omega
    · split
      · have := addD_len l r; simp only [List.length_cons]; omega
      · have := ih r; simp only [List.length_cons]; omega
theorem add_len (l : List R) (r : R) : (add l r).length ≤ l.length + 1 := by
  unfold add
  split
  · exact addL_len l r
  · omega
theorem cutL_far {l : List R} {r : R} (h : ∀ y ∈ l, r.2 ≤ y.1) : cutL l r = l := by
  induction l with
  | nil => rfl
  | cons x l ih =>
    have := h x (by simp)
    rw [cutL, if_pos (.inr this), ih (fun y hy => h y (by simp [hy]))]
theorem cutL_len {l : List R} (hl : Nrm l) (r : R) : (cutL l r).length ≤ l.length + 1 := by
  induction l with
  | nil => simp [cutL]
  | cons x l ih =>
    have := ih hl.2.2
    rw [cutL]
    split
    · simp only [List.length_cons]; omega
    · by_cases h2 : r.2 < x.2
      · rw [cutL_far (fun y hy => by have := hl.2.1 y hy; omega), if_pos h2]
        split <;> simp only [List.length_append, List.length_cons, List.length_nil] <;> omega
      · rw [if_neg h2]
        split <;> simp only [List.length_append, List.length_cons, List.length_nil] <;> omega
theorem cut_len {l : List R} (hl : Nrm l) (r : R) : (cut l r).length ≤ l.length + 1 := by
  unfold cut
  split
  · exact cutL_len hl r
  · omega
theorem has_iff (l : List R) (n : Nat) : hasB l n = true ↔ Mem l n := by
  unfold hasB Mem
  simp
theorem cov_of_mem {l : List R} (hl : Nrm l) (r : R) (hr : r.1 < r.2) (h : ∀ n, r.1 ≤ n → n < r.2 → Mem l n) : covB l r = true := by
  unfold covB
  rw [show decide (r.2 ≤ r.1) = false from decide_eq_false (by omega), Bool.false_or]
  induction l with
  | nil => exact absurd (h r.1 (Nat.le_refl _) hr) (mem_nil _)
  | cons x l ih =>
    rw [List.any_cons]
    rcases (mem_cons _ _ _).1 (h r.1 (Nat.le_refl _) hr) with h1 | h1
    · by_cases h2 : r.2 ≤ x.2
      · rw [decide_eq_true ⟨h1.1, h2⟩, Bool.true_or]
      · rcases (mem_cons _ _ _).1 (h x.2 (by omega) (by omega)) with h3 | h3
        · omega
        · have := hl.above h3; omega
    · have h4 := hl.above h1
      rw [ih hl.2.2 (fun n hn1 hn2 => by
        rcases (mem_cons _ _ _).1 (h n hn1 hn2) with h3 | h3
        · omega
        · exact h3), Bool.or_true]
/-- What was added is covered. -/
theorem cov_add {l : List R} (hl : Nrm l) (r : R) : covB (add l r) r = true := by
  by_cases hr : r.1 < r.2
  · exact cov_of_mem (add_nrm hl r) r hr (fun n h1 h2 => (add_mem hl r n).2 (.inr ⟨h1, h2⟩))
  · unfold covB
    rw [decide_eq_true (by omega), Bool.true_or]
/-- What was cut isn't there. -/
theorem has_cut {l : List R} (hl : Nrm l) (r : R) (n : Nat) (h1 : r.1 ≤ n) (h2 : n < r.2) : hasB (cut l r) n = false := by
  cases h : hasB (cut l r) n
  · rfl
  · exact absurd ⟨h1, h2⟩ ((cut_mem hl r n).1 ((has_iff _ _).1 h)).2
theorem bounded {l : List R} (h : ∀ x ∈ l, x.1 < 18446744073709551616 ∧ x.2 < 18446744073709551616) (hl : Nrm l) : cnt l < 18446744073709551616 := by
  have := cnt_low hl 0 18446744073709551615 (fun y _ => Nat.zero_le _) (fun y hy => by have := h y hy; omega) (by omega)
  omega
theorem sparse {l : List R} (r : R) (h : ∀ x ∈ l, x.2 ≤ r.1 ∨ r.2 ≤ x.1) : ∀ n, r.1 ≤ n → n < r.2 → ¬ Mem l n := by
  rintro n h1 h2 ⟨x, hx, h3, h4⟩
  have := h x hx
  omega
/-- Many ranges more. -/
def adds (m rs : List R) : List R := rs.foldl add m
theorem adds_nrm {m : List R} (hm : Nrm m) (rs : List R) : Nrm (adds m rs) := by
  unfold adds
  induction rs generalizing m with
  | nil => exact hm
  | cons r rs ih => exact ih (add_nrm hm r)
theorem adds_mem {m : List R} (hm : Nrm m) (rs : List R) (n : Nat) : Mem (adds m rs) n ↔ Mem m n ∨ Mem rs n := by
  unfold adds
  induction rs generalizing m with
  | nil => simp [mem_nil]
  | cons r rs ih =>
    rw [List.foldl_cons, ih (add_nrm hm r), add_mem hm, mem_cons]
    constructor
    · rintro ((h | h) | h)
      · exact .inl h
      · exact .inr (.inl h)
      · exact .inr (.inr h)
    · rintro (h | h | h)
      · exact .inl (.inl h)
      · exact .inl (.inr h)
      · exact .inr h
theorem adds_len (m rs : List R) : (adds m rs).length ≤ m.length + rs.length := by
  unfold adds
  induction rs generalizing m with
  | nil => simp
  | cons r rs ih =>
    have h1 := ih (add m r)
    have h2 := add_len m r
    rw [List.foldl_cons, List.length_cons]
    omega
theorem adds_take (m rs : List R) (j : Nat) (h : j < rs.length) : adds m (rs.take (j + 1)) = add (adds m (rs.take j)) (rs.getD j (0, 0)) := by
  unfold adds
  rw [List.take_add_one, List.foldl_append, List.getD_eq_getElem?_getD, List.getElem?_eq_getElem h]
  rfl
/-- Parted at a number and put together again. -/
theorem parts {l : List R} (hl : Nrm l) (hb : ∀ x ∈ l, x.1 < 18446744073709551616 ∧ x.2 < 18446744073709551616) (n : Nat) :
    adds (cut l (n, 18446744073709551615)) (cut l (0, n)) = l := by
  have h1 := cut_nrm hl (n, 18446744073709551615)
  refine Nrm.uniq (adds_nrm h1 _) hl fun k => ?_
  rw [adds_mem h1, cut_mem hl, cut_mem hl]
  simp only
  constructor
  · rintro (h | h)
    · exact h.1
    · exact h.1
  · intro h
    have hk : k < 18446744073709551615 := by
      obtain ⟨x, hx, h2, h3⟩ := h
      have := hb x hx
      omega
    by_cases hn : k < n
    · exact .inl ⟨h, by omega⟩
    · exact .inr ⟨h, by omega⟩
theorem high {l : List R} (hl : Nrm l) (n : Nat) (x : R) (hx : x ∈ cut l (0, n)) : n ≤ x.1 := by
  have h1 := (cut_nrm hl (0, n)).pos x hx
  have h2 := (cut_mem hl (0, n) x.1).1 ⟨x, hx, Nat.le_refl _, h1⟩
  have := h2.2
  simp only at this
  omega
/-- Rising, in pairs. -/
theorem Nrm.next {l : List R} (hl : Nrm l) (i : Nat) (h : i + 1 < l.length) : (l.getD i (0, 0)).2 < (l.getD (i + 1) (0, 0)).1 := by
  induction l generalizing i with
  | nil => cases h
  | cons x l ih =>
    cases i with
    | zero =>
      have hl1 : 0 < l.length := by simpa using h
      have := hl.2.1 l[0] (List.getElem_mem hl1)
      simp only [List.getD_cons_zero, List.getD_cons_succ]
      rw [List.getD_eq_getElem?_getD, List.getElem?_eq_getElem hl1]
      exact this
    | succ i =>
      have := ih hl.2.2 i (by simpa using h)
      simpa using this
theorem Nrm.posD {l : List R} (hl : Nrm l) (i : Nat) (h : i < l.length) : (l.getD i (0, 0)).1 < (l.getD i (0, 0)).2 := by
  rw [List.getD_eq_getElem?_getD, List.getElem?_eq_getElem h]
  exact hl.pos _ (List.getElem_mem h)
end Span
end Go.Proofs.Ytpckbmebdhmfaaa
