/-
  More words for walks: structs and arrays out of blocks, entries of arrays by value, copy, what is behind a place of a slice.
-/
import Derived.Test.YtpckbmebdhmfaaaGen
namespace Go.Proofs.Ytpckbmebdhmfaaa
open Go.RowKit

/-- Many cells, of a struct or of an array, out of a block. -/
theorem wl_load_rowD {P : Program} {ops : Array Oper} {rest : List Oper} {o : Oper} {a : Act} {w : World} {Q : Exit → Act → World → Prop} (hgd : o.guard = none) (t : TypeId) (p : Operand) (ho : o.op = .load t p)
    (g : Nat) (hp : a.eval p = .pointer (some ⟨g, 0, none⟩)) (d : TypeDesc) (hu : P.underlying t = some d) (hd : (match d with | .struct _ | .array _ _ => true | _ => false) = true) (tt : TypeId) (c : Array Value) (hB : Blk w g tt c) (hi : (P.info? t).map (·.size) = some c.size)
    (h : wpList P ops Q rest (a.put o.dst (.agg c)) w) : wpList P ops Q (o :: rest) a w := by
  refine wpList_plain hgd fun K hK => ?_
  unfold Oper.wp execOp
  simp only [ho, hp, Instr.loadAt, Instr.sureAddr, Sem.run_bind, Sem.run_pure, Result.andThen_ok, run_loadVar_row w g tt t c (0, 0) d hB hu hd hi]
  exact hK _ _ h
theorem ow_loadD {P : Program} {o : Oper} {a : Act} {w : World} {K : Act → World → Prop} {Q : Exit → Act → World → Prop} (t : TypeId) (x : Operand) (ho : o.op = .load t x) (g : Nat) (hx : a.eval x = .pointer (some ⟨g, 0, none⟩)) (d : TypeDesc) (hu : P.underlying t = some d)
    (hd : (match d with | .struct _ | .array _ _ => true | _ => false) = true) (tt : TypeId) (c : Array Value) (hB : Blk w g tt c) (hi : (P.info? t).map (·.size) = some c.size)
    (h : K (a.put o.dst (.agg c)) w) : o.wp P a w K Q := by
  unfold Oper.wp execOp
  simp only [ho, hx, Instr.loadAt, Instr.sureAddr, Sem.run_bind, Sem.run_pure, Result.andThen_ok, run_loadVar_row w g tt t c (0, 0) d hB hu hd hi]
  exact h
theorem ow_load_midD {P : Program} {o : Oper} {a : Act} {w : World} {K : Act → World → Prop} {Q : Exit → Act → World → Prop} (ty : TypeId) (x : Operand) (ho : o.op = .load ty x) (b : Nat) (pre l post : List Value) (off : Nat) (hoff : off = pre.length)
    (hx : a.eval x = .pointer (some ⟨b, off, none⟩)) (d : TypeDesc) (hu : P.underlying ty = some d) (hd : d.isRow = true) (hi : (P.info? ty).map (·.size) = some l.length) (t : TypeId) (hB : Blk w b t (pre ++ (l ++ post)).toArray)
    (h : K (a.put o.dst (.agg l.toArray)) w) : o.wp P a w K Q := by
  subst hoff
  refine wp_load_mid ty x ho b _ hx l _ ?_ hu hd hi h
  intro j v hv
  have hj := (List.getElem?_eq_some_iff.1 hv).1
  rw [hB.cell]
  simp only [List.getElem?_toArray]
  rw [List.getElem?_append_right (by omega), Nat.add_sub_cancel_left, List.getElem?_append_left hj]
  exact hv
section
variable {P : Program}
theorem run_index_aggN (w : World) (t e : TypeId) (n : Nat) (hu : P.underlying t = some (.array n e)) (ik : IntKind) (he : P.underlying e = some (.int ik)) (hs : (P.info? e).map (·.size) = some 1) (cs : Array Value) (k : IntKind) (i : Nat) (hi : i < n) (v : Value) (hc : cs[i]? = some v) :
    (Instr.index t (.agg cs) (.int k i)).run P w = .ok v w := by
  obtain ⟨ie, h1, h2⟩ := Option.map_eq_some_iff.1 hs
  simp [Instr.index, asIntOf, run_underlying hu, sizeOf, typeInfo, h1, h2, Go.part, isAgg, run_underlying he, hc, hi]
/-- An entry of an array by value. -/
theorem wl_index_aggN {ops : Array Oper} {rest : List Oper} {o : Oper} {a : Act} {w : World} {Q : Exit → Act → World → Prop} (hgd : o.guard = none) (t : TypeId) (x y : Operand) (ho : o.op = .index t x y)
    (e : TypeId) (n : Nat) (hu : P.underlying t = some (.array n e)) (ik : IntKind) (he : P.underlying e = some (.int ik)) (hs : (P.info? e).map (·.size) = some 1) (cs : Array Value) (k : IntKind) (i : Nat) (hx : a.eval x = .agg cs) (hy : a.eval y = .int k i)
    (hi : i < n) (v : Value) (hc : cs[i]? = some v) (h : wpList P ops Q rest (a.put o.dst v) w) : wpList P ops Q (o :: rest) a w := by
  refine wpList_plain hgd fun K hK => ?_
  unfold Oper.wp execOp
  simp only [ho, hx, hy, Sem.run_bind, run_index_aggN w t e n hu ik he hs cs k i hi v hc, Result.andThen_ok]
  exact hK _ _ h
end
/-- copy's run, bytes that can be read into a block. -/
theorem run_copy_slN {P : Program} (w : World) (dT sT elem : TypeId) (hu : P.underlying dT = some (.slice elem)) (hsz : (P.info? elem).map (·.size) = some 1)
    (g off dLen dCap : Nat) (A : Option Addr) (sLen sCap : Nat) (cur : List Value) (t : TypeId) (hg : Blk w g t cur.toArray) (cs : List Value) (hpos : 0 < cs.length) (hn : cs.length = Nat.min sLen dLen) (hr : Rd w A cs)
    (hfit : off + cs.length ≤ cur.length) (h1 : ∀ v ∈ cs, v.oneCell' = true) :
    ∃ w', (∀ ty, (Builtin.copy_ #[dT, sT] ty #[.slice (some ⟨g, off, none⟩) dLen dCap, .slice A sLen sCap]).run P w = .ok (goInt cs.length) w') ∧ Blk w' g t (splice cur off cs).toArray ∧ Keep [g] w w' ∧ w'.heap.size = w.heap.size := by
  obtain ⟨b, o', rfl, hc⟩ := hr hpos
  refine ⟨w.setRow g (cur.toArray.toList.take off ++ cs ++ cur.toArray.toList.drop (off + cs.length)).toArray, fun ty => ?_, ?_, ?_, by simp⟩
  · exact run_copy_row (P := P) w dT sT ty elem g off dLen dCap ⟨b, o', none⟩ sLen sCap cur.toArray t cs hu hsz hg hn (fun j v hv => by rw [Addr.add_lit]; exact hc j v hv) (by simpa using hfit) h1
  · simpa [splice, Blk] using setRow_heap w g _ _ t _ hg
  · exact ⟨rfl, rfl, rfl, by simp, fun k _ hk => setRow_other w g k _ (by simpa using hk)⟩
/-- 'x[k:]', x a slice of one-cell elements. -/
theorem run_from {P : Program} {t e : TypeId} (ht : P.underlying t = some (.slice e)) (hi : (P.info? e).map (·.size) = some 1) (A : Option Addr) (n c k : Nat) (hk : k ≤ n) (W : World) :
    (Instr.sliceAt t (.slice A n c) (some (.int .i64 (k : Int))) none none).run P W = .ok (.slice (if c = k then A else A.map fun a => a.add k) (n - k) (c - k)) W := by
  obtain ⟨i, hi1, hi2⟩ := Option.map_eq_some_iff.1 hi
  have e2 : P.elem t = e := by simp [Program.elem, ht]
  have ht' : P.underlying t = some (.slice (P.elem t)) := by rw [e2]; exact ht
  rw [run_sliceAt_slice (h := ht'), run_slice_l (ht := ht') (h0 := by omega) (h1 := by omega), e2]
  simp [sizeOf, typeInfo, hi1, hi2, sliced]
end Go.Proofs.Ytpckbmebdhmfaaa
