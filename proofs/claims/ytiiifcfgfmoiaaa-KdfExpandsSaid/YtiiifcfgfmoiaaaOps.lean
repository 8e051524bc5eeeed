/-
  One operation of a drawn region at a time: what it leaves, the new world a letter of its own.
-/
import Derived.Test.YtiiifcfgfmoiaaaHashD
import Derived.Test.YtiiifcfgfmoiaaaEqArr
import Derived.Great.Walk
namespace Go.Proofs.Ytiiifcfgfmoiaaa
open Go.RowKit

section
variable {P : Program} {o : Oper} {a : Act} {w : World} {K : Act → World → Prop} {Q : Exit → Act → World → Prop}
/-- What a call does, in a region. -/
theorem ow_call (f : FuncId) (args : Array Value) (R : Ending → World → Prop) (hrun : (execOp a.eval o).run P w = .ok (.enter f args) w) (hc : Calls P f args w R)
    (h : ∀ e w', R e w' → ∃ v, e = .returned v ∧ K (a.put o.dst v) w') : o.wp P a w K Q := by
  unfold Oper.wp
  rw [hrun, Oper.upon_enter]
  refine hc.mono fun e w' hh => ?_
  obtain ⟨v, rfl, hk⟩ := h e w' hh
  exact hk
/-- One cell loaded. -/
theorem ow_load1 (t : TypeId) (x : Operand) (ho : o.op = .load t x) (p : Addr) (hx : a.eval x = .pointer (some p)) (v : Value) (hrun : (loadVar t p).run P w = .ok v w) (h : K (a.put o.dst v) w) : o.wp P a w K Q := by
  unfold Oper.wp execOp
  simp only [ho, hx, Instr.loadAt, Instr.sureAddr, Sem.run_bind, Sem.run_pure, Result.andThen_ok, hrun]
  exact h
/-- A whole array loaded. -/
theorem ow_load (t : TypeId) (x : Operand) (ho : o.op = .load t x) (g : Nat) (hx : a.eval x = .pointer (some ⟨g, 0, none⟩)) (n : Nat) (e : TypeId) (hu : P.underlying t = some (.array n e)) (tt : TypeId) (c : Array Value) (hB : Blk w g tt c) (hi : (P.info? t).map (·.size) = some c.size)
    (h : K (a.put o.dst (.agg c)) w) : o.wp P a w K Q := wp_load_row t x ho g hx tt c (0, 0) _ hB hu rfl hi h
/-- A short slice literal. -/
theorem ow_slice (t e : TypeId) (len : Nat) (parts : Array (Nat × Operand)) (ho : o.op = .buildSlice t len parts) (hu : P.underlying t = some (.slice e)) (cells : Array Value) (l : List (Nat × Value)) (hl : (parts.map fun (i, x) => (i, a.eval x)).toList = l)
    (hf : P.builtSlice e len l = some cells)
    (h : ∀ n w', n = w.heap.size → Blk w' n e cells → Keep [] w w' → K (a.put o.dst (.slice (some ⟨n, 0, none⟩) len len)) w') : o.wp P a w K Q := by
  subst hl
  unfold Program.builtSlice at hf
  cases hie : P.info? e with
  | none => simp [hie] at hf
  | some ie =>
    simp only [hie] at hf
    cases hz : ie.zero with
    | none => simp [hz] at hf
    | some z =>
      simp only [hz] at hf
      by_cases hc : len * ie.size > 2 ^ 24 ∨ len * ie.size = 0
      · simp [hc] at hf
      · rw [if_neg hc] at hf
        exact wp_buildSlice t e len parts ho cells ie z hu hie hz (fun h' => hc (Or.inl h')) (fun h' => hc (Or.inr h')) hf (h _ _ rfl (Blk.new _ _ _) ((Keep.refl _ _).alloc _))
/-- A new variable of many cells. -/
theorem ow_alloc (t : TypeId) (ho : o.op = .alloc t) (Z : Array Value) (n : Nat) (hz : (P.info? t).map (fun i => (i.zero, i.size)) = some (some (.agg Z), n))
    (h : ∀ m w', m = w.heap.size → Blk w' m t Z → Keep [] w w' → K (a.put o.dst (.pointer (some ⟨m, 0, none⟩))) w') : o.wp P a w K Q :=
  wp_alloc_rowZ t ho Z n hz (h _ _ rfl (Blk.new _ _ _) ((Keep.refl _ _).alloc _))
/-- Many cells stored. -/
theorem ow_store (t : TypeId) (x y : Operand) (ho : o.op = .store t x y) (g : Nat) (D : Array Value) (hx : a.eval x = .pointer (some ⟨g, 0, none⟩)) (hy : a.eval y = .agg D) (tt : TypeId) (old : Array Value) (hB : Blk w g tt old)
    (hi : (P.info? t).map (·.size) = some D.size) (hold : old.size = D.size) (h1 : D.all (·.oneCell') = true)
    (h : ∀ w', Blk w' g tt D → Keep [g] w w' → K (a.put o.dst undef) w') : o.wp P a w K Q := by
  refine wp_store_row t x y ho g D hx hy tt old hB hi hold h1 (h _ ?_ ?_)
  · exact setRow_heap w g old D tt (0, 0) hB
  · exact ⟨rfl, rfl, rfl, by simp, fun k _ hk => setRow_other w g k D (by simpa using hk)⟩
end
end Go.Proofs.Ytiiifcfgfmoiaaa
