/-
  Rows of pairs: slicing, copying, clearing, appending in the middle of one; two slices in two blocks don't overlap.
-/
import Derived.Test.YtpckbmebdhmfaaaPair
import Derived.Test.YtpckbmebdhmfaaaSpanLaw
import Derived.Lib.AppendZerosOnto
import Derived.Lib.Overlaps
import Derived.Deep.RegionLaw
namespace Go.Proofs.Ytpckbmebdhmfaaa
open Go.RowKit

/-- Where a cut begins: at its own place, or at the head if there is no room behind it. -/
def at2 (A : Option Addr) (c k : Nat) : Option Addr := if c = k then A else A.map fun a => a.add (k * 2)
theorem at2_some {b off c k : Nat} (h : k < c) : at2 (some ⟨b, off, none⟩) c k = some ⟨b, off + k * 2, none⟩ := by
  unfold at2
  rw [if_neg (by omega), Option.map_some, Addr.add_lit]
section
variable {P : Program} {t e : TypeId}
theorem run_fromP (ht : P.underlying t = some (.slice e)) (hi : (P.info? e).map (·.size) = some 2) (A : Option Addr) (n c k : Nat) (hk : k ≤ n) (W : World) :
    (Instr.sliceAt t (.slice A n c) (some (.int .i64 (k : Int))) none none).run P W = .ok (.slice (at2 A c k) (n - k) (c - k)) W := by
  obtain ⟨i, hi1, hi2⟩ := Option.map_eq_some_iff.1 hi
  have e2 : P.elem t = e := by simp [Program.elem, ht]
  have ht' : P.underlying t = some (.slice (P.elem t)) := by rw [e2]; exact ht
  rw [run_sliceAt_slice (h := ht'), run_slice_l (ht := ht') (h0 := by omega) (h1 := by omega), e2]
  simp [sizeOf, typeInfo, hi1, hi2, sliced, at2]
theorem run_mid2 (ht : P.underlying t = some (.slice e)) (hi : (P.info? e).map (·.size) = some 2) (A : Option Addr) (n c k j : Nat) (hk : k ≤ j) (hj : j ≤ c) (W : World) :
    (Instr.sliceAt t (.slice A n c) (some (.int .i64 (k : Int))) (some (.int .i64 (j : Int))) none).run P W = .ok (.slice (at2 A c k) (j - k) (c - k)) W := by
  obtain ⟨i, hi1, hi2⟩ := Option.map_eq_some_iff.1 hi
  have e2 : P.elem t = e := by simp [Program.elem, ht]
  have ht' : P.underlying t = some (.slice (P.elem t)) := by rw [e2]; exact ht
  rw [run_sliceAt_slice (h := ht'), run_slice_lh (ht := ht') (h0 := by omega) (h1 := by omega) (h2 := by omega), e2]
  simp [sizeOf, typeInfo, hi1, hi2, sliced, at2]
theorem run_three2 (ht : P.underlying t = some (.slice e)) (hi : (P.info? e).map (·.size) = some 2) (A : Option Addr) (n c k j m : Nat) (hk : k ≤ j) (hj : j ≤ m) (hm : m ≤ c) (W : World) :
    (Instr.sliceAt t (.slice A n c) (some (.int .i64 (k : Int))) (some (.int .i64 (j : Int))) (some (.int .i64 (m : Int)))).run P W = .ok (.slice (at2 A m k) (j - k) (m - k)) W := by
  obtain ⟨i, hi1, hi2⟩ := Option.map_eq_some_iff.1 hi
  have e2 : P.elem t = e := by simp [Program.elem, ht]
  have ht' : P.underlying t = some (.slice (P.elem t)) := by rw [e2]; exact ht
  rw [run_sliceAt_slice (h := ht'), run_slice_lhm (ht := ht') (h0 := by omega) (h1 := by omega) (h2 := by omega) (h3 := by omega), e2]
  simp [sizeOf, typeInfo, hi1, hi2, sliced, at2]
theorem run_upto2 (ht : P.underlying t = some (.slice e)) (hi : (P.info? e).map (·.size) = some 2) (A : Option Addr) (hA : ∀ a, A = some a → a.spot = none) (n c j : Nat) (hj : j ≤ c) (W : World) :
    (Instr.sliceAt t (.slice A n c) none (some (.int .i64 (j : Int))) none).run P W = .ok (.slice A j c) W := by
  obtain ⟨i, hi1, hi2⟩ := Option.map_eq_some_iff.1 hi
  have e2 : P.elem t = e := by simp [Program.elem, ht]
  have ht' : P.underlying t = some (.slice (P.elem t)) := by rw [e2]; exact ht
  rw [run_sliceAt_slice (h := ht'), run_slice_h (ht := ht') (h0 := by omega) (h2 := by omega), e2]
  cases A with
  | none => simp [sizeOf, typeInfo, hi1, hi2, sliced]
  | some a =>
    obtain ⟨b, off, sp⟩ := a
    obtain rfl : sp = none := hA _ rfl
    simp [sizeOf, typeInfo, hi1, hi2, sliced, Addr.add_lit]

/-- Cells that can be read are copied into a block. -/
theorem run_cp {dT sT : TypeId} (w : World) (hu : P.underlying dT = some (.slice e)) (hi : (P.info? e).map (·.size) = some 2) (g off dLen dCap : Nat) (Ad As : Option Addr) (sLen sCap : Nat) (C : List Value) (tt : TypeId) (hB : Blk w g tt C.toArray) (cs : List Value)
    (k : Nat) (hk : k ≤ sLen ∧ k ≤ dLen ∧ (k = sLen ∨ k = dLen)) (hn : cs.length = k * 2) (hA : 0 < cs.length → Ad = some ⟨g, off, none⟩) (hr : Rd w As cs) (hfit : off + cs.length ≤ C.length) (h1 : ∀ v ∈ cs, v.oneCell' = true) :
    ∃ w', (∀ ty, (Builtin.copy_ #[dT, sT] ty #[.slice Ad dLen dCap, .slice As sLen sCap]).run P w = .ok (goInt k) w') ∧ Blk w' g tt (splice C off cs).toArray ∧ Keep [g] w w' ∧ w'.heap.size = w.heap.size := by
  obtain ⟨i, hi1, hi2⟩ := Option.map_eq_some_iff.1 hi
  have hmin : Nat.min sLen dLen = k := by show min sLen dLen = k; omega
  rw [← hmin] at hn ⊢
  clear hk
  by_cases h0 : cs.length = 0
  · obtain rfl : cs = [] := List.eq_nil_of_length_eq_zero h0
    have hz : Nat.min sLen dLen = 0 := by rw [List.length_nil] at hn; omega
    have hl : ∀ (x : Addr), (loadCells x 0).run P w = .ok #[] w := fun x => by simpa using run_loadCells_list (P := P) w x [] (by simp)
    refine ⟨w, fun ty => ?_, by simpa [splice] using hB, Keep.refl _ _, rfl⟩
    cases Ad <;> cases As <;> simp [Builtin.copy_, run_underlying hu, Builtin.lenOf, Builtin.firstCells, sizeOf, typeInfo, hi1, hi2, hz, storeCells, hl]
  · obtain ⟨b, o', rfl, hc⟩ := hr (by omega)
    obtain rfl := hA (by omega)
    have hl := run_loadCells_list (P := P) w ⟨b, o', none⟩ cs (fun j v hv => by rw [Addr.add_lit]; exact hc j v hv)
    have hst := run_storeCells_at P g off tt cs 0 C.toArray w hB (by simpa using hfit) h1
    refine ⟨w.setRow g (C.toArray.toList.take off ++ cs ++ C.toArray.toList.drop (off + cs.length)).toArray, fun ty => ?_, ?_, ?_, by simp⟩
    · rw [hn] at hl
      simp only [Nat.add_zero] at hst
      simp [Builtin.copy_, run_underlying hu, Builtin.lenOf, Builtin.firstCells, sizeOf, typeInfo, hi1, hi2, hl, hst]
    · simpa [splice, Blk] using setRow_heap w g _ _ tt _ hB
    · exact ⟨rfl, rfl, rfl, by simp, fun k _ hk => setRow_other w g k _ (by simpa using hk)⟩
/-- Cleared behind a place. -/
theorem run_cl (w : World) (ht : P.underlying t = some (.slice e)) (hz : ∀ w, (zeroValue e).run P w = .ok (.agg #[.int .u64 0, .int .u64 0]) w) (g off n c : Nat) (A : Option Addr) (C : List Value) (tt : TypeId) (hB : Blk w g tt C.toArray) (hA : 0 < n → A = some ⟨g, off, none⟩) (hfit : off + n * 2 ≤ C.length) :
    ∃ w' Z, (∀ ty, (Builtin.clear_ #[t] ty #[.slice A n c]).run P w = .ok (.tuple #[]) w') ∧ Z.length = n * 2 ∧ Blk w' g tt (splice C off Z).toArray ∧ Keep [g] w w' ∧ w'.heap.size = w.heap.size := by
  cases n with
  | zero =>
    refine ⟨w, [], fun ty => ?_, rfl, by simpa [splice] using hB, Keep.refl _ _, rfl⟩
    cases A <;> simp [Builtin.clear_, run_underlying ht]
  | succ n =>
    obtain rfl := hA (Nat.succ_pos _)
    obtain ⟨Z, hZ⟩ : ∃ Z, Z = (Builtin.zeroCells #[.int .u64 0, .int .u64 0] (n + 1)).toList := ⟨_, rfl⟩
    have hZl : Z.length = (n + 1) * 2 := by rw [hZ]; simp [Builtin.zeroCells]
    have hZ1 : ∀ v ∈ Z, v.oneCell' = true := by
      intro v hv
      rw [hZ] at hv
      simp only [Builtin.zeroCells, Array.toList_map, List.mem_map, Array.mem_toList_iff, Array.mem_range, List.size_toArray, List.length_cons, List.length_nil] at hv
      obtain ⟨i, _, rfl⟩ := hv
      have : i % 2 = 0 ∨ i % 2 = 1 := by omega
      rcases this with h | h <;> simp [h] <;> rfl
    have hst := run_storeCells_at P g off tt Z 0 C.toArray w hB (by simp only [Nat.add_zero, List.size_toArray]; omega) hZ1
    refine ⟨w.setRow g (C.toArray.toList.take off ++ Z ++ C.toArray.toList.drop (off + Z.length)).toArray, Z, fun ty => ?_, hZl, ?_, ?_, by simp⟩
    · simp only [Nat.add_zero] at hst
      rw [hZ] at hst ⊢
      simp [Builtin.clear_, run_underlying ht, hz, hst, Value.cells]
    · simpa [splice, Blk] using setRow_heap w g _ _ tt _ hB
    · exact ⟨rfl, rfl, rfl, by simp, fun k _ hk => setRow_other w g k _ (by simpa using hk)⟩
/-- Appended zeros where there is no room: a new row. -/
theorem run_az {tn : TypeId} (w : World) (ht : P.underlying t = some (.slice e)) (htn : P.underlying tn = some (.int .i64)) (hinfo : (P.info? e).map (fun i => (i.zero, i.size, i.bytes)) = some (some (.agg #[.int .u64 0, .int .u64 0]), 2, 16))
    (A : Option Addr) (n c k : Nat) (olds : List Value) (hl : olds.length = n * 2) (hr : Rd w A olds) (h0 : 0 < k) (hg : c < n + k) (hnc : n ≤ c) (hb : n + k ≤ 8000000) :
    ∃ w' v' cap D, (∀ ty, (Builtin.append_ #[t, tn] ty #[.slice A n c, .int .i64 (k : Int)]).run P w = .ok v' w') ∧ v' = .slice (some ⟨w.heap.size, 0, none⟩) (n + k) cap ∧ n + k ≤ cap ∧ cap ≤ maxLen ∧ D.length = cap * 2 - n * 2 ∧ Blk w' w.heap.size e (olds ++ D).toArray ∧ Keep [] w w' := by
  obtain ⟨i, hi, hz, hs, hby⟩ := info_parts hinfo
  have hold : (Builtin.firstCells i.size n (.slice A n c)).run P w.drew = .ok olds.toArray w.drew := by
    rw [hs]
    rcases Nat.eq_zero_or_pos n with h | h
    · subst h
      obtain rfl : olds = [] := List.eq_nil_of_length_eq_zero (by simpa using hl)
      have hl0 : ∀ (x : Addr), (loadCells x 0).run P w.drew = .ok #[] w.drew := fun x => by simpa using run_loadCells_list (P := P) w.drew x [] (by simp)
      cases A <;> simp [Builtin.firstCells, hl0]
    · obtain ⟨b, off, rfl, hcc⟩ := hr (by omega)
      exact run_firstCells_some w.drew 2 n ⟨b, off, none⟩ n c olds (by omega) (fun j v hj => by rw [Addr.add_lit]; exact hcc j v hj)
  have hfit : Builtin.nextslicecap (n + k) c * i.bytes ≤ 281474976710656 := by
    rw [hby]
    exact growslice_fits (by omega) (by omega)
  have hrun := fun ty => Lib.run_append_grow_zeros (P := P) w t tn ty e i _ .i64 .i64 ht htn hi hz A n c olds hold k h0 (by omega) hg (by omega) (by rw [hby]; omega) hfit
  have hge := grownCap_ge w (n + k) c e
  have hle := grownCap_le_maxLen w (n + k) c e (by simp only [maxLen]; omega)
  refine ⟨_, _, grownCap w (n + k) c e, (Builtin.zeroCells (Value.agg #[.int .u64 0, .int .u64 0]).cells k ++ Builtin.zeroCells (Value.agg #[.int .u64 0, .int .u64 0]).cells (grownCap w (n + k) c e - (n + k))).toList, hrun, rfl, hge, hle, ?_, ?_, ⟨rfl, rfl, rfl, by simp, fun j hj _ => Below.heap_alloc w.drew _ j hj⟩⟩
  · simp [Builtin.zeroCells, Value.cells]
    omega
  · have := heap_alloc_new w.drew (.cells (olds.toArray ++ Builtin.zeroCells (Value.agg #[.int .u64 0, .int .u64 0]).cells k ++ Builtin.zeroCells (Value.agg #[.int .u64 0, .int .u64 0]).cells (grownCap w (n + k) c e - (n + k))) e)
    unfold Blk
    rw [show (olds ++ (Builtin.zeroCells (Value.agg #[.int .u64 0, .int .u64 0]).cells k ++ Builtin.zeroCells (Value.agg #[.int .u64 0, .int .u64 0]).cells (grownCap w (n + k) c e - (n + k))).toList).toArray = olds.toArray ++ Builtin.zeroCells (Value.agg #[.int .u64 0, .int .u64 0]).cells k ++ Builtin.zeroCells (Value.agg #[.int .u64 0, .int .u64 0]).cells (grownCap w (n + k) c e - (n + k)) by apply Array.toList_inj.1; simp]
    exact this
/-- Two blocks: no overlap. -/
theorem run_ov {tS tR : TypeId} (w : World) (ht : P.underlying tS = some (.slice e)) (hz : ∀ w, (Go.sizeOf e).run P w = .ok 2 w) (ga gb oa ob la ca lb cb : Nat) (hne : ga ≠ gb) (ta tb : TypeId) (CA CB : Array Value) (hA : Blk w ga ta CA) (hB : Blk w gb tb CB) (hp : CB.size ≠ 0) :
    (Extern.SlicesOverlaps.overlaps #[tS, tS] #[tR] #[.slice (some ⟨ga, oa, none⟩) la ca, .slice (some ⟨gb, ob, none⟩) lb cb]).run P w = .ok (.bool false) w := by
  refine Lib.run_overlaps_apart w tS tR e ht 2 hz ⟨ga, oa, none⟩ ⟨gb, ob, none⟩ la ca lb cb hne ta tb CA.size CB.size ?_ ?_ hp (hA.frozen _) (hA.frozen _)
  · unfold Blk at hA; simp [World.shape?, hA]
  · unfold Blk at hB; simp [World.shape?, hB]
end
section
variable {P : Program} {ops : Array Oper} {rest : List Oper} {o : Oper} {a : Act} {w : World} {Q : Exit → Act → World → Prop} {K : Act → World → Prop} {E : Prop}
theorem wp_cp (x y : Operand) (t1 t2 : TypeId) (ho : o.op = .call { callee := .builtin .copy, args := #[x, y], argTypes := #[t1, t2] }) (v u : Value) (hx : a.eval x = v) (hy : a.eval y = u) {v' : Value} {w' : World}
    (hr : (Builtin.copy_ #[t1, t2] o.type #[v, u]).run P w = .ok v' w') (h : K (a.put o.dst v') w') : o.wp P a w K Q := by
  unfold Oper.wp
  simp [execOp, ho, resolve, invoke, builtin, hx, hy, hr, Result.andThen]
  exact h
theorem wl_cp (hg : o.guard = none) (x y : Operand) (t1 t2 : TypeId) (ho : o.op = .call { callee := .builtin .copy, args := #[x, y], argTypes := #[t1, t2] }) (v u : Value) (hx : a.eval x = v) (hy : a.eval y = u) {v' : Value} {w' : World}
    (hr : (Builtin.copy_ #[t1, t2] o.type #[v, u]).run P w = .ok v' w') (h : wpList P ops Q rest (a.put o.dst v') w') : wpList P ops Q (o :: rest) a w :=
  wpList_plain hg fun _ hK => wp_cp x y t1 t2 ho v u hx hy hr (hK _ _ h)
theorem st_cp (hg : o.guard = none) (x y : Operand) (t1 t2 : TypeId) (ho : o.op = .call { callee := .builtin .copy, args := #[x, y], argTypes := #[t1, t2] }) (v u : Value) (hx : a.eval x = v) (hy : a.eval y = u) {v' : Value} {w' : World}
    (hr : (Builtin.copy_ #[t1, t2] o.type #[v, u]).run P w = .ok v' w') (h : K (a.put o.dst v') w') : if Region.wanted o (yielded ops a.tmps) = true then Oper.wp P o a w K Q else E := by
  rw [if_pos (show Region.wanted o (yielded ops a.tmps) = true by simp [Region.wanted, hg])]
  exact wp_cp x y t1 t2 ho v u hx hy hr h
theorem wp_ap (x y : Operand) (t1 t2 : TypeId) (ho : o.op = .call { callee := .builtin .append, args := #[x, y], argTypes := #[t1, t2] }) (v u : Value) (hx : a.eval x = v) (hy : a.eval y = u) {v' : Value} {w' : World}
    (hr : (Builtin.append_ #[t1, t2] o.type #[v, u]).run P w = .ok v' w') (h : K (a.put o.dst v') w') : o.wp P a w K Q := by
  unfold Oper.wp
  simp [execOp, ho, resolve, invoke, builtin, hx, hy, hr, Result.andThen]
  exact h
theorem wl_ap (hg : o.guard = none) (x y : Operand) (t1 t2 : TypeId) (ho : o.op = .call { callee := .builtin .append, args := #[x, y], argTypes := #[t1, t2] }) (v u : Value) (hx : a.eval x = v) (hy : a.eval y = u) {v' : Value} {w' : World}
    (hr : (Builtin.append_ #[t1, t2] o.type #[v, u]).run P w = .ok v' w') (h : wpList P ops Q rest (a.put o.dst v') w') : wpList P ops Q (o :: rest) a w :=
  wpList_plain hg fun _ hK => wp_ap x y t1 t2 ho v u hx hy hr (hK _ _ h)
theorem st_ap (hg : o.guard = none) (x y : Operand) (t1 t2 : TypeId) (ho : o.op = .call { callee := .builtin .append, args := #[x, y], argTypes := #[t1, t2] }) (v u : Value) (hx : a.eval x = v) (hy : a.eval y = u) {v' : Value} {w' : World}
    (hr : (Builtin.append_ #[t1, t2] o.type #[v, u]).run P w = .ok v' w') (h : K (a.put o.dst v') w') : if Region.wanted o (yielded ops a.tmps) = true then Oper.wp P o a w K Q else E := by
  rw [if_pos (show Region.wanted o (yielded ops a.tmps) = true by simp [Region.wanted, hg])]
  exact wp_ap x y t1 t2 ho v u hx hy hr h
theorem wl_cl (hg : o.guard = none) (x : Operand) (t1 : TypeId) (ho : o.op = .call { callee := .builtin .clear, args := #[x], argTypes := #[t1] }) (v : Value) (hx : a.eval x = v) {v' : Value} {w' : World}
    (hr : (Builtin.clear_ #[t1] o.type #[v]).run P w = .ok v' w') (h : wpList P ops Q rest (a.put o.dst v') w') : wpList P ops Q (o :: rest) a w := by
  refine wpList_plain hg fun _ hK => ?_
  unfold Oper.wp
  simp [execOp, ho, resolve, invoke, builtin, hx, hr, Result.andThen]
  exact hK _ _ h
end
theorem take_splice {C : List Value} {off n : Nat} {cs : List Value} (h : off + cs.length ≤ C.length) (hn : n ≤ off) : (splice C off cs).take n = C.take n := by
  unfold splice
  rw [List.take_append_of_le_length (by rw [List.length_take]; omega), List.take_take, Nat.min_eq_left hn]
theorem drop_splice {C : List Value} {off n : Nat} {cs : List Value} (h : off + cs.length ≤ C.length) (hn : off + cs.length ≤ n) : (splice C off cs).drop n = C.drop n := by
  unfold splice
  rw [← List.append_assoc, List.drop_append, List.drop_of_length_le (by simp; omega), List.nil_append, List.drop_drop]
  congr 1
  simp
  omega
theorem splice_len {C : List Value} {off : Nat} {cs : List Value} (h : off + cs.length ≤ C.length) : (splice C off cs).length = C.length := length_splice C off cs h
theorem splice_over {C : List Value} {off N : Nat} {cs : List Value} (h : off + cs.length = N) (hN : N ≤ C.length) : (splice C off cs).take N = C.take off ++ cs := by
  unfold splice
  rw [← List.append_assoc, List.take_append_of_le_length (by simp; omega), List.take_of_length_le (by simp; omega)]
/-- One piece, and another behind it, in whatever order. -/
theorem splice_ab {C a b : List Value} {oa ob N : Nat} (ha : oa + a.length = ob) (hb : ob + b.length = N) (hN : N ≤ C.length) : (splice (splice C oa a) ob b).take N = C.take oa ++ (a ++ b) := by
  rw [splice_over hb (by rw [splice_len (by omega)]; exact hN), splice_over ha (by omega), List.append_assoc]
theorem splice_ba {C a b : List Value} {oa ob N : Nat} (ha : oa + a.length = ob) (hb : ob + b.length = N) (hN : N ≤ C.length) : (splice (splice C ob b) oa a).take N = C.take oa ++ (a ++ b) := by
  have e : splice (splice C ob b) oa a = C.take oa ++ (a ++ (splice C ob b).drop ob) := by
    rw [show splice (splice C ob b) oa a = (splice C ob b).take oa ++ (a ++ (splice C ob b).drop (oa + a.length)) from rfl, take_splice (by omega) (by omega), ha]
  have e2 : (splice C ob b).drop ob = b ++ C.drop N := by
    unfold splice
    rw [List.drop_append, List.drop_of_length_le (by simp; omega), List.nil_append, show ob - (C.take ob).length = 0 by simp; omega, List.drop_zero, hb]
  rw [e, e2, ← List.append_assoc a, ← List.append_assoc (C.take oa), List.take_append_of_le_length (by simp; omega), List.take_of_length_le (by simp; omega)]
theorem pcs_take (l : List (Nat × Nat)) (n : Nat) : (pcs l).take (n * 2) = pcs (l.take n) := by
  induction l generalizing n with
  | nil => simp [pcs]
  | cons x l ih =>
    cases n with
    | zero => simp [pcs]
    | succ n => rw [List.take_succ_cons, pcs_cons, pcs_cons, ← ih, show (n + 1) * 2 = (pc x).length + n * 2 by simp [pc]; omega, List.take_length_add_append]
theorem pcs_dropP (l : List (Nat × Nat)) (n : Nat) : (pcs l).drop (n * 2) = pcs (l.drop n) := by
  induction l generalizing n with
  | nil => simp [pcs]
  | cons x l ih =>
    cases n with
    | zero => simp
    | succ n => rw [List.drop_succ_cons, pcs_cons, ← ih, show (n + 1) * 2 = (pc x).length + n * 2 by simp [pc]; omega, List.drop_length_add_append]
end Go.Proofs.Ytpckbmebdhmfaaa
