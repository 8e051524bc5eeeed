/-
  Whole arrays by value, into and out of a block of their own; slices of slices; what is marked.
-/
import Derived.Test.YtpckbmebdhmfaaaBase
import Derived.Laws.Rows
import Derived.Laws.Tables
import Derived.Deep.WholeRow
import Derived.Lib.SlBytesConst
namespace Go.Proofs.Ytpckbmebdhmfaaa
open Go.RowKit

section
variable {P : Program}
/-- A whole array into a block. -/
theorem wl_store_row {ops : Array Oper} {rest : List Oper} {o : Oper} {a : Act} {w : World} {Q : Exit → Act → World → Prop} (hgd : o.guard = none) (t : TypeId) (p x : Operand) (ho : o.op = .store t p x)
    (g : Nat) (hp : a.eval p = .pointer (some ⟨g, 0, none⟩)) (D : Array Value) (hx : a.eval x = .agg D) (tt : TypeId) (c : Array Value) (hB : Blk w g tt c) (hi : (P.info? t).map (·.size) = some D.size) (hs : c.size = D.size)
    (h1 : D.all (·.oneCell') = true) (h : ∀ w', Blk w' g tt D → Keep [g] w w' → w'.heap.size = w.heap.size → wpList P ops Q rest (a.put o.dst undef) w') : wpList P ops Q (o :: rest) a w := by
  refine wpList_plain hgd fun K hK => ?_
  unfold Oper.wp execOp
  simp only [ho, hp, hx, Instr.storeAt, Instr.sureAddr, Sem.run_bind, Sem.run_pure, Result.andThen_ok, run_storeVar_row w g tt t c D hB hi hs h1]
  exact hK _ _ (h _ (setRow_heap w g _ _ tt _ hB) ⟨rfl, rfl, rfl, by simp, fun k _ hk => setRow_other w g k _ (by simpa using hk)⟩ (by simp))
/-- A whole array out of a block. -/
theorem wl_load_row {ops : Array Oper} {rest : List Oper} {o : Oper} {a : Act} {w : World} {Q : Exit → Act → World → Prop} (hgd : o.guard = none) (t : TypeId) (p : Operand) (ho : o.op = .load t p)
    (g : Nat) (hp : a.eval p = .pointer (some ⟨g, 0, none⟩)) (n : Nat) (e : TypeId) (hu : P.underlying t = some (.array n e)) (tt : TypeId) (c : Array Value) (hB : Blk w g tt c) (hi : (P.info? t).map (·.size) = some c.size)
    (h : wpList P ops Q rest (a.put o.dst (.agg c)) w) : wpList P ops Q (o :: rest) a w := by
  refine wpList_plain hgd fun K hK => ?_
  unfold Oper.wp execOp
  simp only [ho, hp, Instr.loadAt, Instr.sureAddr, Sem.run_bind, Sem.run_pure, Result.andThen_ok, run_loadVar_row w g tt t c (0, 0) _ hB hu rfl hi]
  exact hK _ _ h
/-- A new variable of an array type. -/
theorem wl_alloc_row {ops : Array Oper} {rest : List Oper} {o : Oper} {a : Act} {w : World} {Q : Exit → Act → World → Prop} (hgd : o.guard = none) (t : TypeId) (ho : o.op = .alloc t)
    (z : Value) (n : Nat) (hz : (P.info? t).map (fun i => (i.zero, i.size)) = some (some z, n))
    (h : ∀ w', Blk w' w.heap.size t z.cells → Keep [] w w' → w'.heap.size = w.heap.size + 1 → wpList P ops Q rest (a.put o.dst (.pointer (some ⟨w.heap.size, 0, none⟩))) w') : wpList P ops Q (o :: rest) a w := by
  refine wpList_plain hgd fun K hK => ?_
  have hz' := (zero_of_info hz).1
  unfold Oper.wp execOp
  simp only [ho, Instr.alloc, newVar, newRow, newObj, hz', Sem.run_bind, Sem.run_pure, Result.andThen_ok]
  simp [go_sem]
  exact hK _ _ (h (w.alloc (.cells z.cells t)) (Blk.new _ _ _) ((Keep.refl _ _).alloc _) (by simp))
/-- '[]byte("abc")' of a constant: the new row is marked. -/
theorem wl_mark {ops : Array Oper} {rest : List Oper} {o : Oper} {a : Act} {w : World} {Q : Exit → Act → World → Prop} (hgd : o.guard = none) (t : TypeId) (x : Operand) (ho : o.op = Op.convert t t x)
    (e : TypeId) (ht : P.underlying t = some (.slice e)) (he : P.underlying e = some (.int .u8)) (W : World) (C : Array Value) (hw : w = W.alloc (.cells C e)) (g n c : Nat) (hx : a.eval x = .slice (some ⟨g, 0, none⟩) n c) (hg : g = W.heap.size)
    (h : wpList P ops Q rest (a.put o.dst (.slice (some ⟨g, 0, none⟩) n c)) (W.alloc (.cells C e (C.size, C.size + 1)))) : wpList P ops Q (o :: rest) a w := by
  subst hg
  subst hw
  refine wpList_plain hgd fun K hK => ?_
  unfold Oper.wp execOp
  simp only [ho, hx, Sem.run_bind, Sem.run_pure, Result.andThen_ok, Lib.run_convert_bytes_const W t e C n c ht he]
  exact hK _ _ h
end

/-- A row that is marked behind its end reads as any other. -/
theorem Rd.of_marked {w : World} {g : Nat} {t : TypeId} {cs : Array Value} {fr : Nat × Nat} (h : w.heap[g]? = some (.cells cs t fr)) : Rd w (some ⟨g, 0, none⟩) cs.toList := fun _ =>
  ⟨g, 0, rfl, fun j u hu => by rw [Nat.zero_add, cell_of_row w g j cs t fr h]; simpa using hu⟩
theorem Sl.of_marked {w : World} {g : Nat} {t : TypeId} {fr : Nat × Nat} (l : List Int) (h : w.heap[g]? = some (.cells (l.map (Value.int .u8)).toArray t fr)) (hw : ∀ x ∈ l, (Lit.int .u8 x).wf = true) (hl : l.length ≤ 9223372036854775807) :
    Sl .u8 w (.slice (some ⟨g, 0, none⟩) l.length l.length) l := ⟨_, l.length, rfl, Nat.le_refl _, hl, by simpa using Rd.of_marked h, hw⟩
theorem heap_new (w : World) (o : Obj) : (w.alloc o).heap[w.heap.size]? = some o := heap_alloc_new w o


/-- A slice of slices of bytes, and what it reads as. -/
def Pl (w : World) (v : Value) (ls : List (List Int)) : Prop :=
  ∃ (vs : List Value) (A : Option Addr) (c : Nat), vs.length = ls.length ∧ v = .slice A ls.length c ∧ ls.length ≤ c ∧ c ≤ 9223372036854775807 ∧ Rd w A vs ∧ ∀ j, j < ls.length → Sl .u8 w (vs.getD j undef) (ls.getD j [])
theorem Pl.one {w : World} {g t : Nat} {v : Value} {l : List Int} (hb : Blk w g t #[v]) (hs : Sl .u8 w v l) : Pl w (.slice (some ⟨g, 0, none⟩) 1 1) [l] := by
  refine ⟨[v], _, 1, rfl, rfl, Nat.le_refl 1, by decide, by simpa using Rd.of_blk hb, fun j hj => ?_⟩
  obtain rfl : j = 0 := by simpa using hj
  exact hs
/-- An array of bytes as a value. -/
def arr (l : List Int) : Value := .agg (l.map (Value.int .u8)).toArray
theorem arr_cell (l : List Int) : (l.map (Value.int .u8)).toArray.all (·.oneCell') = true := by simp [Value.oneCell']

end Go.Proofs.Ytpckbmebdhmfaaa
