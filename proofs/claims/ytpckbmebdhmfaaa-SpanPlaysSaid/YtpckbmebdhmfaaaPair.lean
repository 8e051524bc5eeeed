/-
  Slices of pairs of numbers: what they read as; one entry; a pair by value.
-/
import Derived.Test.YtpckbmebdhmfaaaNum
import Derived.Test.YtpckbmebdhmfaaaSpanP
import Derived.Deep.MidRow
import Derived.Great.Walk
namespace Go.Proofs.Ytpckbmebdhmfaaa
open Go.RowKit

/-- A pair's cells. -/
def pc (x : Nat × Nat) : List Value := [.int .u64 (x.1 : Nat), .int .u64 (x.2 : Nat)]
def pcs (l : List (Nat × Nat)) : List Value := (l.map pc).flatten
/-- A pair by value. -/
def pv (x : Nat × Nat) : Value := .agg #[.int .u64 (x.1 : Nat), .int .u64 (x.2 : Nat)]
theorem pcs_nil : pcs [] = [] := rfl
theorem pcs_cons (x : Nat × Nat) (l : List (Nat × Nat)) : pcs (x :: l) = pc x ++ pcs l := rfl
theorem pcs_append (l m : List (Nat × Nat)) : pcs (l ++ m) = pcs l ++ pcs m := by simp [pcs]
theorem pcs_one (x : Nat × Nat) : pcs [x] = pc x := by simp [pcs]
theorem pcs_length (l : List (Nat × Nat)) : (pcs l).length = l.length * 2 := by
  induction l with
  | nil => rfl
  | cons x l ih => rw [pcs_cons, List.length_append, ih, List.length_cons]; show 2 + _ = _; omega
theorem pcs_get (l : List (Nat × Nat)) (i : Nat) (h : i < l.length) : (pcs l)[2 * i]? = some (.int .u64 ((l.getD i (0, 0)).1 : Nat)) ∧ (pcs l)[2 * i + 1]? = some (.int .u64 ((l.getD i (0, 0)).2 : Nat)) := by
  induction l generalizing i with
  | nil => cases h
  | cons x l ih =>
    cases i with
    | zero => exact ⟨rfl, rfl⟩
    | succ i =>
      have := ih i (by simpa using h)
      rw [pcs_cons, show 2 * (i + 1) = 2 * i + 1 + 1 by omega]
      exact this
theorem pcs_one_cell (l : List (Nat × Nat)) : ∀ u ∈ pcs l, u.oneCell' = true := by
  intro u hu
  simp only [pcs, List.mem_flatten, List.mem_map] at hu
  obtain ⟨_, ⟨x, _, rfl⟩, h⟩ := hu
  simp only [pc, List.mem_cons, List.not_mem_nil, or_false] at h
  rcases h with rfl | rfl <;> rfl
/-- Both of each are numbers of 64 bits. -/
def P64 (l : List (Nat × Nat)) : Prop := ∀ x ∈ l, x.1 < 18446744073709551616 ∧ x.2 < 18446744073709551616
theorem P64.getD {l : List (Nat × Nat)} (h : P64 l) (i : Nat) : (l.getD i (0, 0)).1 < 18446744073709551616 ∧ (l.getD i (0, 0)).2 < 18446744073709551616 := by
  rw [List.getD_eq_getElem?_getD]
  by_cases hi : i < l.length
  · rw [List.getElem?_eq_getElem hi]; exact h _ (List.getElem_mem hi)
  · rw [List.getElem?_eq_none (by omega)]; exact ⟨by decide, by decide⟩
theorem P64.append {l m : List (Nat × Nat)} (hl : P64 l) (hm : P64 m) : P64 (l ++ m) := fun x hx => by
  rcases List.mem_append.1 hx with h | h
  · exact hl x h
  · exact hm x h
theorem P64.nil : P64 [] := fun x hx => by cases hx
theorem P64.one {x : Nat × Nat} (h1 : x.1 < 18446744073709551616) (h2 : x.2 < 18446744073709551616) : P64 [x] := fun y hy => by rw [List.mem_singleton.1 hy]; exact ⟨h1, h2⟩
/-- The value is a slice that reads as these pairs. -/
def S2 (w : World) (v : Value) (l : List (Nat × Nat)) : Prop :=
  ∃ A c, v = .slice A l.length c ∧ l.length ≤ c ∧ c ≤ 9223372036854775807 ∧ Rd w A (pcs l) ∧ P64 l
namespace S2
variable {w w' : World} {v : Value} {l : List (Nat × Nat)} {S : List Nat}
theorem nil (w : World) : S2 w (.slice none 0 0) [] := ⟨none, 0, rfl, by simp, by simp, Rd.nil _ _, P64.nil⟩
theorem keep (h : S2 w v l) (hk : Keep S w w') (hv : 0 < l.length → ∀ g, v.ownBlock = some g → g ∉ S) : S2 w' v l := by
  obtain ⟨A, c, rfl, h1, h2, h3, h4⟩ := h
  exact ⟨A, c, rfl, h1, h2, fun hp => (h3.keep hk (fun a ha => hv (by rw [pcs_length] at hp; omega) _ (by subst ha; rfl))) hp, h4⟩
theorem keep0 (h : S2 w v l) (hk : Keep [] w w') : S2 w' v l := h.keep hk (by simp)
theorem p64 (h : S2 w v l) : P64 l := h.choose_spec.choose_spec.2.2.2.2
theorem lt (h : S2 w v l) (hl : 0 < l.length) : ∀ g, v.ownBlock = some g → g < w.heap.size := by
  obtain ⟨A, c, rfl, _, _, h3, _⟩ := h
  obtain ⟨b, off, rfl, hc⟩ := h3 (by rw [pcs_length]; omega)
  intro g hg
  have hg : b = g := by simpa [Value.ownBlock] using hg
  subst hg
  exact World.block_lt_of_cell? w _ (hc 0 _ (List.getElem?_eq_getElem (by rw [pcs_length]; omega)))
theorem cells (h : S2 w v l) (hl : 0 < l.length) : ∃ b off c, v = .slice (some ⟨b, off, none⟩) l.length c ∧ l.length ≤ c ∧ c ≤ 9223372036854775807 ∧ b < w.heap.size ∧
    ∀ j, j < l.length → w.cell? ⟨b, off + j * 2, none⟩ = some (.int .u64 ((l.getD j (0, 0)).1 : Nat)) ∧ w.cell? ⟨b, off + j * 2 + 1, none⟩ = some (.int .u64 ((l.getD j (0, 0)).2 : Nat)) := by
  have hlt := h.lt hl
  obtain ⟨A, c, rfl, h1, h2, h3, _⟩ := h
  obtain ⟨b, off, rfl, hc⟩ := h3 (by rw [pcs_length]; omega)
  refine ⟨b, off, c, rfl, h1, h2, hlt b rfl, fun j hj => ?_⟩
  obtain ⟨g1, g2⟩ := pcs_get l j hj
  exact ⟨by rw [Nat.mul_comm]; exact hc _ _ g1, by rw [Nat.mul_comm, Nat.add_assoc]; exact hc _ _ g2⟩
theorem of_own {base : Nat} {e : TypeId} {n : Nat} (h : w.ownsRow base e 2 v n (pcs l)) (hp : P64 l) : S2 w v l := by
  have hl : l.length = n := by have := h.1; rw [pcs_length] at this; omega
  subst hl
  have hv : ∃ A c, v = .slice A l.length c ∧ l.length ≤ c ∧ c ≤ 9223372036854775807 := by
    rcases h.2 with ⟨rfl, h0⟩ | ⟨g, cap, cur, rfl, _, _, h1, h2, _⟩
    · exact ⟨none, 0, by rw [h0], by omega, by omega⟩
    · exact ⟨_, _, rfl, h1, by simp only [maxLen] at h2; omega⟩
  obtain ⟨A, c, rfl, h1, h2⟩ := hv
  refine ⟨A, c, rfl, h1, h2, ?_, hp⟩
  intro hpos
  rcases h.2 with ⟨hv, hn⟩ | ⟨g, cap, cur, hv, _, hh, _, _, _, ht⟩
  · rw [pcs_length, hn] at hpos; omega
  · simp only [Value.slice.injEq] at hv
    obtain ⟨rfl, _, _⟩ := hv
    refine ⟨g, 0, rfl, fun j u hu => ?_⟩
    rw [Nat.zero_add, cell_of_row w g j cur e (0, 0) hh]
    rw [← ht, List.getElem?_take] at hu
    split at hu
    · simpa using hu
    · cases hu
end S2
theorem u64_lt {n : Nat} (h : n < 18446744073709551616) : (0 : Int) ≤ (n : Int) ∧ (n : Int) < 18446744073709551616 := ⟨by omega, by omega⟩
/-- A pair in a block of its own. -/
theorem Blk.pair {w : World} {g t : Nat} {x : Nat × Nat} (h : Blk w g t (pc x).toArray) : w.cell? ⟨g, 0, none⟩ = some (.int .u64 (x.1 : Nat)) ∧ w.cell? ⟨g, 1, none⟩ = some (.int .u64 (x.2 : Nat)) := ⟨by rw [h.cell]; rfl, by rw [h.cell]; rfl⟩
theorem Rd.pair {w : World} {g t : Nat} {x : Nat × Nat} (h : Blk w g t (pc x).toArray) : Rd w (some ⟨g, 0, none⟩) (pc x) := by
  have := Rd.of_blk h
  simpa using this
section
variable {P : Program}
/-- A pair out of a slice. -/
theorem wl_load_pair {ops : Array Oper} {rest : List Oper} {o : Oper} {a : Act} {w : World} {Q : Exit → Act → World → Prop} (hg : o.guard = none) (t : TypeId) (p : Operand) (ho : o.op = .load t p) (b off : Nat) (x : Nat × Nat) (hp : a.eval p = .pointer (some ⟨b, off, none⟩))
    (d : TypeDesc) (hu : P.underlying t = some d) (hd : d.isRow = true) (hi : (P.info? t).map (·.size) = some 2) (h0 : w.cell? ⟨b, off, none⟩ = some (.int .u64 (x.1 : Nat))) (h1 : w.cell? ⟨b, off + 1, none⟩ = some (.int .u64 (x.2 : Nat)))
    (h : wpList P ops Q rest (a.put o.dst (.agg (pc x).toArray)) w) : wpList P ops Q (o :: rest) a w := by
  refine wpList_load_mid hg t p ho b off hp (pc x) d ?_ hu hd hi h
  intro j v hv
  rcases j with _ | _ | j
  · rw [Nat.add_zero, h0]; exact hv
  · rw [Nat.zero_add, h1]; exact hv
  · cases hv
/-- A pair out of a block or a slice, in a region with guards; its value named. -/
theorem wl_load_pairG {ops : Array Oper} {rest : List Oper} {o : Oper} {a : Act} {w : World} {Q : Exit → Act → World → Prop} (hw : Region.wanted o (yielded ops a.tmps) = true) (t : TypeId) (p : Operand) (ho : o.op = .load t p) (b off : Nat) (x : Nat × Nat) (D : Array Value) (hD : D = (pc x).toArray) (hp : a.eval p = .pointer (some ⟨b, off, none⟩))
    (d : TypeDesc) (hu : P.underlying t = some d) (hd : d.isRow = true) (hi : (P.info? t).map (·.size) = some 2) (h0 : w.cell? ⟨b, off, none⟩ = some (.int .u64 (x.1 : Nat))) (h1 : w.cell? ⟨b, off + 1, none⟩ = some (.int .u64 (x.2 : Nat)))
    (h : wpList P ops Q rest (a.put o.dst (.agg D)) w) : wpList P ops Q (o :: rest) a w := by
  subst hD
  refine wpList_step fun K hK => ?_
  rw [if_pos hw]
  refine wp_load_mid t p ho b off hp (pc x) d ?_ hu hd hi (hK _ _ h)
  intro j v hv
  rcases j with _ | _ | j
  · rw [Nat.add_zero, h0]; exact hv
  · rw [Nat.zero_add, h1]; exact hv
  · cases hv
/-- A slice of one pair. -/
theorem wl_build_one {ops : Array Oper} {rest : List Oper} {o : Oper} {a : Act} {w : World} {Q : Exit → Act → World → Prop} (hg : o.guard = none) (t e : TypeId) (parts : Array (Nat × Operand)) (ho : o.op = .buildSlice t 1 parts) (hu : P.underlying t = some (.slice e))
    (x : Nat × Nat) (hl : (parts.map fun (i, x) => (i, a.eval x)).toList = [(0, .agg (pc x).toArray)]) (hf : P.builtSlice e 1 [(0, .agg (pc x).toArray)] = some (pc x).toArray)
    (h : ∀ m w', m = w.heap.size → Blk w' m e (pc x).toArray → Keep [] w w' → wpList P ops Q rest (a.put o.dst (.slice (some ⟨m, 0, none⟩) 1 1)) w') : wpList P ops Q (o :: rest) a w := by
  refine Great.wpList_buildSliceTo hg t e 1 parts ho _ rfl o.dst rfl hu (pc x).toArray (by rw [hl]; exact hf) ?_
  exact h _ _ rfl (Blk.new _ _ _) ((Keep.refl _ _).alloc _)
/-- A pair behind the others. -/
theorem wl_append_one {ops : Array Oper} {rest : List Oper} {o : Oper} {a : Act} {w : World} {Q : Exit → Act → World → Prop} (hgd : o.guard = none) (s x : Operand) (t : TypeId)
    (ho : o.op = .call { callee := .builtin .append, args := #[s, x], argTypes := #[t, t] })
    (base : Nat) (e : TypeId) (ht : P.underlying t = some (.slice e)) (hinfo : (P.info? e).map (fun i => (i.zero, i.size, i.bytes)) = some (some (.agg #[.int .u64 0, .int .u64 0]), 2, 16))
    (v : Value) (l : List (Nat × Nat)) (hs : a.eval s = v) (hown : w.ownsRow base e 2 v l.length (pcs l))
    (m : Nat) (y : Nat × Nat) (hx : a.eval x = .slice (some ⟨m, 0, none⟩) 1 1) (hB : Blk w m e (pc y).toArray) (hl : l.length ≤ 8000000) (hbase : base ≤ w.heap.size)
    (h : ∀ v' w', w'.ownsRow base e 2 v' (l ++ [y]).length (pcs (l ++ [y])) → Keep v.ownBlock.toList w w' → (v'.ownBlock = v.ownBlock ∨ v'.ownBlock = some w.heap.size) → wpList P ops Q rest (a.put o.dst v') w') :
    wpList P ops Q (o :: rest) a w := by
  refine wl_append w hgd s x t ho base e _ 2 16 ht hinfo rfl (by decide) v l.length (pcs l) hs hown _ 1 1 (pc y) hx rfl (Rd.pair hB) (fun u hu => pcs_one_cell [y] u (by rw [pcs_one]; exact hu)) (by simp only [maxLen]; omega) (by omega) hbase ?_
  intro v' w' h1 h2 h3
  refine h v' w' ?_ h2 h3
  rw [pcs_append, pcs_one, List.length_append]
  exact h1
end
end Go.Proofs.Ytpckbmebdhmfaaa
