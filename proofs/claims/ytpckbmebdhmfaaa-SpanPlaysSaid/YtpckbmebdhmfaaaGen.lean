/-
  Words for walks that every seat needs: frames known at a few slots, loops and regions as theorems of their own, one operation of a drawn region at a time.
-/
import Derived.Test.YtpckbmebdhmfaaaArr
import Derived.Test.YtpckbmebdhmfaaaEqArr
import Derived.Deep.LoopGhost
import Derived.Deep.RegionWith
import Derived.Deep.RegionHeld3
import Derived.Deep.DeepCutAuto
import Derived.Deep.CutBlock
import Derived.Deep.QuietTactic
import Derived.BigQuiet
import Derived.Laws.BitsAllLaws
import Derived.Great.Walk
namespace Go.Proofs.Ytpckbmebdhmfaaa
open Go.RowKit

/-- These slots hold these values. -/
def Holds (f : Nat → Value) : List (Nat × Value) → Prop
  | [] => True
  | (k, v) :: l => f k = v ∧ Holds f l
/-- A frame of n slots that holds these values at these slots. -/
structure Fr (n : Nat) (l : List (Nat × Value)) (a : Act) : Prop where
  defers : a.defers = []
  size : a.tmps.size = n
  slot : Holds (fun k => a.tmps.getD k undef) l

theorem arr_letters (t : Array Value) (n : Nat) (h : t.size = n) : t = ((List.range n).map fun k => t.getD k undef).toArray := by
  apply Array.ext
  · simp [h]
  · intro i h1 h2
    simp [Array.getD, h1]

/-- Left by 'leave block n', with R; in no other way. -/
def OutX (n : Nat) (R : Act → World → Prop) : Exit → Act → World → Prop
  | .exit k, a, w => k = n ∧ R a w
  | _, _, _ => False
theorem OutX.use {P : Program} {c : Code} {n : Nat} {R : Act → World → Prop} {a : Act} {w : World} {Q : Exit → Act → World → Prop} (h : c.wp P (OutX n R) a w) (hQ : ∀ a' w', R a' w' → Q (.exit n) a' w') : c.wp P Q a w := by
  refine wp_mono h fun e a' w' q => ?_
  cases e with
  | exit k => obtain ⟨rfl, q⟩ := q; exact hQ _ _ q
  | _ => exact False.elim q
/-- The loops of a body, the outer ones first. -/
def loops : Code → List Code
  | .loop c => c :: loops c
  | .seq a b => loops a ++ loops b
  | .block _ c => loops c
  | .scope c => loops c
  | .cond _ a b => loops a ++ loops b
  | _ => []
def loopOf (f : Func) (k : Nat) : Code := ((f.body.map loops).getD []).getD k .skip

theorem step_wp {P : Program} {ops : Array Oper} {o : Oper} {a : Act} {w : World} {K : Act → World → Prop} {Q : Exit → Act → World → Prop} {E : Prop} (hg : o.guard = none) (h : Oper.wp P o a w K Q) :
    if Region.wanted o (yielded ops a.tmps) = true then Oper.wp P o a w K Q else E := by
  have hw : Region.wanted o (yielded ops a.tmps) = true := by simp [Region.wanted, hg]
  rw [if_pos hw]
  exact h
/-- A new variable of many cells, its cells named. -/
theorem wp_alloc_rowZ {P : Program} {o : Oper} {a : Act} {w : World} {K : Act → World → Prop} {Q : Exit → Act → World → Prop} (t : TypeId) (ho : o.op = .alloc t)
    (Z : Array Value) (n : Nat) (hz : (P.info? t).map (fun i => (i.zero, i.size)) = some (some (.agg Z), n))
    (h : K (a.put o.dst (.pointer (some ⟨w.heap.size, 0, none⟩))) (w.alloc (.cells Z t))) : Oper.wp P o a w K Q := by
  have hz' := (zero_of_info hz).1
  unfold Oper.wp execOp
  simp only [ho, Instr.alloc, newVar, newRow, newObj, hz', Sem.run_bind]
  simp [go_sem]
  exact h
/-- The regions of a body, by their numbers. -/
def regs : Code → List (Nat × Code)
  | .region i ops d => [(i, .region i ops d)]
  | .loop c => regs c
  | .seq a b => regs a ++ regs b
  | .block _ c => regs c
  | .scope c => regs c
  | .cond _ a b => regs a ++ regs b
  | _ => []
def regionOf (f : Func) (k : Nat) : Code := (((f.body.map regs).getD []).lookup k).getD .skip
/-- Gone through, with R. -/
def OutN (R : Act → World → Prop) : Exit → Act → World → Prop
  | .normal, a, w => R a w
  | _, _, _ => False
theorem OutN.use {P : Program} {c : Code} {R : Act → World → Prop} {a : Act} {w : World} {Q : Exit → Act → World → Prop} (h : c.wp P (OutN R) a w) (hQ : ∀ a' w', R a' w' → Q .normal a' w') : c.wp P Q a w := by
  refine wp_mono h fun e a w' q => ?_
  cases e with
  | normal => exact hQ _ _ q
  | _ => exact False.elim q

theorem step_wpG {P : Program} {ops : Array Oper} {o : Oper} {a : Act} {w : World} {K : Act → World → Prop} {Q : Exit → Act → World → Prop} {E : Prop} (hw : Region.wanted o (yielded ops a.tmps) = true) (h : Oper.wp P o a w K Q) :
    if Region.wanted o (yielded ops a.tmps) = true then Oper.wp P o a w K Q else E := by
  rw [if_pos hw]
  exact h
/-- A conversion. -/
theorem ow_conv {P : Program} {o : Oper} {a : Act} {w : World} {K : Act → World → Prop} {Q : Exit → Act → World → Prop} (src dst : TypeId) (x : Operand) (ho : o.op = Op.convert src dst x) (v u : Value) (hx : a.eval x = v) (hrun : (convert src dst v).run P w = .ok u w) (h : K (a.put o.dst u) w) : o.wp P a w K Q := by
  unfold Oper.wp
  simp [execOp, ho, hx, hrun, Result.andThen]
  exact h

theorem wl_alloc_rowZ {P : Program} {ops : Array Oper} {rest : List Oper} {o : Oper} {a : Act} {w : World} {Q : Exit → Act → World → Prop} (hgd : o.guard = none) (t : TypeId) (ho : o.op = .alloc t)
    (Z : Array Value) (n : Nat) (hz : (P.info? t).map (fun i => (i.zero, i.size)) = some (some (.agg Z), n))
    (h : ∀ w', Blk w' w.heap.size t Z → Keep [] w w' → w'.heap.size = w.heap.size + 1 → wpList P ops Q rest (a.put o.dst (.pointer (some ⟨w.heap.size, 0, none⟩))) w') : wpList P ops Q (o :: rest) a w :=
  wl_alloc_row hgd t ho (.agg Z) n hz h

theorem Sl.of_blk {w : World} {n m t : Nat} {l : List Int} (h : Blk w n t (l.map (Value.int .u8)).toArray) (hl : l.length = m) (hm : m ≤ 9223372036854775807) (hw : ∀ x ∈ l, (Lit.int .u8 x).wf = true) : Sl .u8 w (.slice (some ⟨n, 0, none⟩) m m) l :=
  ⟨some ⟨n, 0, none⟩, m, by rw [hl], by omega, hm, by simpa using Rd.of_blk h, hw⟩
/-- Many cells stored one by one over a block, as the walk's own steps leave it. -/
theorem run_store_all {P : Program} (w : World) (g : Nat) (t : TypeId) (old D : Array Value) (hB : Blk w g t old) (ho : old.size = D.size) (h1 : D.all (·.oneCell') = true) :
    ∃ w', (storeCells ⟨g, 0, none⟩ D.toList 0).run P w = .ok () w' ∧ Blk w' g t D ∧ Keep [g] w w' ∧ w'.heap.size = w.heap.size := by
  have := run_storeCells_from (P := P) g t D.toList 0 old w hB (by simp; omega) (fun v hv => (Array.all_eq_true_iff_forall_mem.1 h1) v (by simpa using hv))
  refine ⟨_, this, ?_, ⟨rfl, rfl, rfl, by simp, fun k _ hk => setRow_other w g k _ (by simpa using hk)⟩, by simp⟩
  have h2 : old.toList.drop D.size = [] := List.drop_of_length_le (by simp; omega)
  have := setRow_heap w g old (List.take 0 old.toList ++ D.toList ++ List.drop (0 + D.toList.length) old.toList).toArray t _ hB
  simpa [Blk, h2] using this

section
variable {P : Program} {o : Oper} {a : Act} {w : World} {K : Act → World → Prop} {Q : Exit → Act → World → Prop}
/-- What a call does, in a region. -/
theorem ow_call (f : FuncId) (args : Array Value) (R : Ending → World → Prop) (hrun : (execOp a.eval o).run P w = .ok (.enter f args) w) (hc : Calls P f args w R)
    (h : ∀ e w', R e w' → ∃ v, e = .returned v ∧ K (a.put o.dst v) w') : o.wp P a w K Q := by
  unfold Oper.wp
  rw [hrun, Oper.upon_enter]
  refine hc.mono fun e w' hh => ?_
  obtain ⟨v, rfl, hk⟩ := h e w' hh
  exact hk
/-- One cell loaded. -/
theorem ow_load1 (t : TypeId) (x : Operand) (ho : o.op = .load t x) (p : Addr) (hx : a.eval x = .pointer (some p)) (v : Value) (hrun : (loadVar t p).run P w = .ok v w) (h : K (a.put o.dst v) w) : o.wp P a w K Q := by
  unfold Oper.wp execOp
  simp only [ho, hx, Instr.loadAt, Instr.sureAddr, Sem.run_bind, Sem.run_pure, Result.andThen_ok, hrun]
  exact h
/-- A whole array loaded. -/
theorem ow_load (t : TypeId) (x : Operand) (ho : o.op = .load t x) (g : Nat) (hx : a.eval x = .pointer (some ⟨g, 0, none⟩)) (n : Nat) (e : TypeId) (hu : P.underlying t = some (.array n e)) (tt : TypeId) (c : Array Value) (hB : Blk w g tt c) (hi : (P.info? t).map (·.size) = some c.size)
    (h : K (a.put o.dst (.agg c)) w) : o.wp P a w K Q := wp_load_row t x ho g hx tt c (0, 0) _ hB hu rfl hi h
/-- A short slice literal. -/
theorem ow_slice (t e : TypeId) (len : Nat) (parts : Array (Nat × Operand)) (ho : o.op = .buildSlice t len parts) (hu : P.underlying t = some (.slice e)) (cells : Array Value) (l : List (Nat × Value)) (hl : (parts.map fun (i, x) => (i, a.eval x)).toList = l)
    (hf : P.builtSlice e len l = some cells)
    (h : ∀ n w', n = w.heap.size → Blk w' n e cells → Keep [] w w' → K (a.put o.dst (.slice (some ⟨n, 0, none⟩) len len)) w') : o.wp P a w K Q := by
  subst hl
  unfold Program.builtSlice at hf
  cases hie : P.info? e with
  | none => simp [hie] at hf
  | some ie =>
    simp only [hie] at hf
    cases hz : ie.zero with
    | none => simp [hz] at hf
    | some z =>
      simp only [hz] at hf
      by_cases hc : len * ie.size > 2 ^ 24 ∨ len * ie.size = 0
      · simp [hc] at hf
      · rw [if_neg hc] at hf
        exact wp_buildSlice t e len parts ho cells ie z hu hie hz (fun h' => hc (Or.inl h')) (fun h' => hc (Or.inr h')) hf (h _ _ rfl (Blk.new _ _ _) ((Keep.refl _ _).alloc _))
/-- A new variable of many cells. -/
theorem ow_alloc (t : TypeId) (ho : o.op = .alloc t) (Z : Array Value) (n : Nat) (hz : (P.info? t).map (fun i => (i.zero, i.size)) = some (some (.agg Z), n))
    (h : ∀ m w', m = w.heap.size → Blk w' m t Z → Keep [] w w' → K (a.put o.dst (.pointer (some ⟨m, 0, none⟩))) w') : o.wp P a w K Q :=
  wp_alloc_rowZ t ho Z n hz (h _ _ rfl (Blk.new _ _ _) ((Keep.refl _ _).alloc _))
/-- Many cells stored. -/
theorem ow_store (t : TypeId) (x y : Operand) (ho : o.op = .store t x y) (g : Nat) (D : Array Value) (hx : a.eval x = .pointer (some ⟨g, 0, none⟩)) (hy : a.eval y = .agg D) (tt : TypeId) (old : Array Value) (hB : Blk w g tt old)
    (hi : (P.info? t).map (·.size) = some D.size) (hold : old.size = D.size) (h1 : D.all (·.oneCell') = true)
    (h : ∀ w', Blk w' g tt D → Keep [g] w w' → K (a.put o.dst undef) w') : o.wp P a w K Q := by
  refine wp_store_row t x y ho g D hx hy tt old hB hi hold h1 (h _ ?_ ?_)
  · exact setRow_heap w g old D tt (0, 0) hB
  · exact ⟨rfl, rfl, rfl, by simp, fun k _ hk => setRow_other w g k D (by simpa using hk)⟩
end
theorem u8infB : (Try.prog.info? 5).map (fun i => (i.zero, i.size, i.bytes)) = some (some (.int .u8 0), 1, 1) := by kernel_rfl
theorem u8sz : (Try.prog.info? 5).map (·.size) = some 1 := by kernel_rfl
def lenOf : Value → Nat
  | .slice _ n _ => n
  | _ => 0
theorem keep_own {w0 W w' : World} {base size n : Nat} {e : TypeId} {v : Value} {xs : List Value} (h : W.ownsRow base e size v n xs) (hb : w0.heap.size ≤ base) (h0 : Keep [] w0 W) (hk : Keep v.ownBlock.toList W w') : Keep [] w0 w' :=
  h0.trans' hk fun g hg => by
    right
    have := (h.lt g (by simpa using hg)).1
    omega
end Go.Proofs.Ytpckbmebdhmfaaa
