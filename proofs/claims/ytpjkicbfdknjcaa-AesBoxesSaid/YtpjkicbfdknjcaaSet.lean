/-
  A map from bytes to bools that the call makes: asked, stored into.
-/
import Derived.Test.YtpjkicbfdknjcaaGen
import Derived.MapKept
namespace Go.Proofs.Ytpjkicbfdknjcaa
open Go.RowKit

/-- The map in block M holds just these keys, true under each. -/
def SetIs (w : World) (M : Nat) (ks : List Int) : Prop := ∃ es clock, w.heap[M]? = some (.map es clock) ∧ es.toList.map (·.key) = ks.map (Value.int .u8) ∧ ∀ e ∈ es.toList, e.val = .bool true
theorem SetIs.keep {w w' : World} {M : Nat} {ks : List Int} {S : List Nat} (h : SetIs w M ks) (k : Keep S w w') (hM : M ∉ S) : SetIs w' M ks := by
  obtain ⟨es, clock, hb, h1⟩ := h
  exact ⟨es, clock, (k.block M (Array.getElem?_eq_some_iff.1 hb).1 hM).trans hb, h1⟩
theorem SetIs.lt {w : World} {M : Nat} {ks : List Int} (h : SetIs w M ks) : M < w.heap.size := by
  obtain ⟨es, clock, hb, _⟩ := h
  exact (Array.getElem?_eq_some_iff.1 hb).1
theorem find_set (k : Int) : ∀ (l : List MapEntry) (ks : List Int) (i : Nat), l.map (·.key) = ks.map (Value.int .u8) → k ∉ ks → Instr.findNow (.int .u8) (.int .u8 k) l i = some none
  | [], _, _, _, _ => rfl
  | e :: l, [], _, h, _ => by simp at h
  | e :: l, x :: ks, i, h, hk => by
    simp only [List.map_cons, List.cons.injEq] at h
    have hx : k ≠ x := fun hx => hk (by simp [hx])
    have hr := find_set k l ks (i + 1) h.2 (fun hm => hk (by simp [hm]))
    unfold Instr.findNow
    rw [h.1]
    have hb : (k == x) = false := beq_eq_false_iff_ne.2 hx
    simp [Instr.sameNow, hb, hr]
section
variable {P : Program} {t kt et : TypeId}
theorem run_lookup_set (ht : P.underlying t = some (.map kt et)) (hk : P.underlying kt = some (.int .u8)) (hz : ∀ w, (zeroValue et).run P w = .ok (.bool false) w) {w : World} {M : Nat} {ks : List Int} (h : SetIs w M ks) (k : Int) (hn : k ∉ ks) :
    (Instr.lookup t (.map (some M)) (.int .u8 k) false).run P w = .ok (.bool false) w := by
  obtain ⟨es, clock, hb, h1, h2⟩ := h
  have hf := find_set k es.toList ks 0 h1 hn
  simp [Instr.lookup, run_underlying ht, Go.MapKept.run_getObj_map hb, Go.MapKept.run_checkKey hk (show Go.MapKept.IsKey (.int .u8) (.int .u8 k) by simp [Go.MapKept.IsKey]), Go.MapKept.run_findKey hk hf, hz, Result.andThen]
theorem run_update_set (ht : P.underlying t = some (.map kt et)) (hk : P.underlying kt = some (.int .u8)) {w : World} {M : Nat} {ks : List Int} (h : SetIs w M ks) (k : Int) (hn : k ∉ ks) :
    ∃ w', (Instr.mapUpdate t (.map (some M)) (.int .u8 k) (.bool true)).run P w = .ok () w' ∧ SetIs w' M (ks ++ [k]) ∧ Keep [M] w w' := by
  obtain ⟨es, clock, hb, h1, h2⟩ := h
  have hf := find_set k es.toList ks 0 h1 hn
  refine ⟨{ w with heap := w.heap.setIfInBounds M (.map (es.push { key := .int .u8 k, val := .bool true, born := clock }) (clock + 1)) }, by simp [Instr.mapUpdate, run_underlying ht, Go.MapKept.run_getObj_map hb, Go.MapKept.run_checkKey hk (show Go.MapKept.IsKey (.int .u8) (.int .u8 k) by simp [Go.MapKept.IsKey]), Go.MapKept.run_findKey hk hf, Go.MapKept.run_setObj_map _ hb, Result.andThen], ⟨_, _, (Go.MapKept.heap_set hb).1, ?_, ?_⟩, ?_⟩
  · simp [h1]
  · intro e he
    simp only [Array.toList_push, List.mem_append, List.mem_singleton] at he
    rcases he with he | rfl
    · exact h2 e he
    · rfl
  · refine ⟨rfl, rfl, rfl, by simp, fun q _ hq => (Go.MapKept.heap_set hb).2 q (by simpa using hq)⟩
theorem wl_lookup {ops : Array Oper} {rest : List Oper} {o : Oper} {a : Act} {w : World} {Q : Exit → Act → World → Prop} (hw : Region.wanted o (yielded ops a.tmps) = true) (m x : Operand) (ho : o.op = .lookup t m x false)
    (ht : P.underlying t = some (.map kt et)) (hk : P.underlying kt = some (.int .u8)) (hz : ∀ w, (zeroValue et).run P w = .ok (.bool false) w) {M : Nat} {ks : List Int} (h : SetIs w M ks) (k : Int) (hn : k ∉ ks) (hm : a.eval m = .map (some M)) (hx : a.eval x = .int .u8 k)
    (hq : wpList P ops Q rest (a.put o.dst (.bool false)) w) : wpList P ops Q (o :: rest) a w := by
  refine wpList_step fun K hK => ?_
  rw [if_pos hw]
  unfold Oper.wp
  simp [execOp, ho, hm, hx, run_lookup_set ht hk hz h k hn, Result.andThen]
  exact hK _ _ hq
theorem wl_update {ops : Array Oper} {rest : List Oper} {o : Oper} {a : Act} {w : World} {Q : Exit → Act → World → Prop} (hg : o.guard = none) (m x v : Operand) (ho : o.op = .mapUpdate t m x v)
    (ht : P.underlying t = some (.map kt et)) (hk : P.underlying kt = some (.int .u8)) {M : Nat} {ks : List Int} (h : SetIs w M ks) (k : Int) (hn : k ∉ ks) (hm : a.eval m = .map (some M)) (hx : a.eval x = .int .u8 k) (hv : a.eval v = .bool true)
    (hq : ∀ w', SetIs w' M (ks ++ [k]) → Keep [M] w w' → wpList P ops Q rest (a.put o.dst undef) w') : wpList P ops Q (o :: rest) a w := by
  refine wpList_plain hg fun K hK => ?_
  obtain ⟨w', hr, h1, h2⟩ := run_update_set (P := P) ht hk h k hn
  unfold Oper.wp
  simp [execOp, ho, hm, hx, hv, hr, Result.andThen]
  exact hK _ _ (hq w' h1 h2)
theorem wl_makeMap {ops : Array Oper} {rest : List Oper} {o : Oper} {a : Act} {w : World} {Q : Exit → Act → World → Prop} (hg : o.guard = none) (ho : o.op = .makeMap t none)
    (hq : ∀ w', SetIs w' w.heap.size [] → Keep [] w w' → wpList P ops Q rest (a.put o.dst (.map (some w.heap.size))) w') : wpList P ops Q (o :: rest) a w := by
  refine wpList_plain hg fun K hK => ?_
  unfold Oper.wp
  simp [execOp, ho, Instr.makeMap, newObj, Result.andThen]
  exact hK _ _ (hq (w.alloc (.map #[] 0)) ⟨#[], 0, heap_alloc_new w _, rfl, by simp⟩ ((Keep.refl _ _).alloc _))
end
end Go.Proofs.Ytpjkicbfdknjcaa
