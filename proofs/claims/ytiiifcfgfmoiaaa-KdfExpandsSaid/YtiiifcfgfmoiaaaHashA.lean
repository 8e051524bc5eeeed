/-
  The landed sha: Sum.
-/
import Derived.Test.YtiiifcfgfmoiaaaHash9
namespace Go.Proofs.Ytiiifcfgfmoiaaa
open Go.RowKit

theorem step_wp {P : Program} {ops : Array Oper} {o : Oper} {a : Act} {w : World} {K : Act → World → Prop} {Q : Exit → Act → World → Prop} {E : Prop} (hg : o.guard = none) (h : Oper.wp P o a w K Q) :
    if Region.wanted o (yielded ops a.tmps) = true then Oper.wp P o a w K Q else E := by
  have hw : Region.wanted o (yielded ops a.tmps) = true := by simp [Region.wanted, hg]
  rw [if_pos hw]
  exact h
/-- A new variable of many cells, its cells named. -/
theorem wp_alloc_rowZ {P : Program} {o : Oper} {a : Act} {w : World} {K : Act → World → Prop} {Q : Exit → Act → World → Prop} (t : TypeId) (ho : o.op = .alloc t)
    (Z : Array Value) (n : Nat) (hz : (P.info? t).map (fun i => (i.zero, i.size)) = some (some (.agg Z), n))
    (h : K (a.put o.dst (.pointer (some ⟨w.heap.size, 0, none⟩))) (w.alloc (.cells Z t))) : Oper.wp P o a w K Q := by
  have hz' := (zero_of_info hz).1
  unfold Oper.wp execOp
  simp only [ho, Instr.alloc, newVar, newRow, newObj, hz', Sem.run_bind]
  simp [go_sem]
  exact h
theorem hashZ : ∃ Z : Array Value, Z = hcs ⟨0, 0, 0, 0, 0, 0, 0, 0⟩ (.pointer none) 0 (List.replicate 64 0) ∧ Z.size = 74 ∧ (Try.prog.info? 73).map (fun i => (i.zero, i.size)) = some (some (.agg Z), 74) := ⟨_, rfl, by kernel_rfl, by kernel_rfl⟩
theorem hashB (g : Nat) : Try.prog.built 73 [(0, .agg (cellsN Sha.H0).toArray), (1, .pointer (some ⟨g, 11, none⟩))] = some (hcs Sha.start (.pointer (some ⟨g, 11, none⟩)) 0 (List.replicate 64 0)) := by kernel_rfl

theorem tcs_words (d m : Value) (S R : List Nat) (hS : S.length = 8) : ((tcs d m S R).extract 3 (3 + 8)).toList = cellsN S := by
  unfold tcs
  rw [Array.toList_extract, List.extract_eq_take_drop]
  show List.take (3 + 8 - 3) (cellsN S ++ cellsN R) = _
  rw [List.take_append_of_le_length (by rw [cellsN_length]; omega), List.take_of_length_le (by rw [cellsN_length]; omega)]
theorem start_one (p : Option Addr) : (hcs Sha.start (.pointer p) 0 (List.replicate 64 0)).all (·.oneCell') = true := by
  simp [hcs, cellsN, Value.oneCell']

/-- The regions of a body, by their numbers. -/
def regs : Code → List (Nat × Code)
  | .region i ops d => [(i, .region i ops d)]
  | .loop c => regs c
  | .seq a b => regs a ++ regs b
  | .block _ c => regs c
  | .scope c => regs c
  | .cond _ a b => regs a ++ regs b
  | _ => []
def regionOf (f : Func) (k : Nat) : Code := (((f.body.map regs).getD []).lookup k).getD .skip
/-- Gone through, with R. -/
def OutN (R : Act → World → Prop) : Exit → Act → World → Prop
  | .normal, a, w => R a w
  | _, _, _ => False
theorem OutN.use {P : Program} {c : Code} {R : Act → World → Prop} {a : Act} {w : World} {Q : Exit → Act → World → Prop} (h : c.wp P (OutN R) a w) (hQ : ∀ a' w', R a' w' → Q .normal a' w') : c.wp P Q a w := by
  refine wp_mono h fun e a w' q => ?_
  cases e with
  | normal => exact hQ _ _ q
  | _ => exact False.elim q

noncomputable def hsum4 : Code := regionOf Try.f16 4

set_option maxRecDepth 100000 in
set_option maxHeartbeats 1000000 in
theorem sum_reg4 (R : Act → World → Prop) (a : Act) (w2 : World) (g : Nat) (pv v4 d m : Value) (hB2 : Blk w2 g 67 (tcs d m Sha.H0 Sha.K))
    (hF : Fr 35 [(0, .pointer (some ⟨g, 0, none⟩)), (1, pv), (4, v4)] a)
    (hR : Hid (∀ a' w', Fr 35 [(0, .pointer (some ⟨g, 0, none⟩)), (1, pv), (4, v4), (5, .pointer (some ⟨w2.heap.size, 0, none⟩))] a' → Blk w' w2.heap.size 73 (hcs Sha.start (.pointer (some ⟨g, 11, none⟩)) 0 (List.replicate 64 0)) → Keep [] w2 w' → R a' w')) :
    Code.wp Try.prog hsum4 (OutN R) a w2 := by
  obtain ⟨ZH, hZH, hZHs, hZHi⟩ := hashZ
  have HZHS := Lib.hid hZHs
  have HZHI := Lib.hid hZHi
  clear hZH hZHs hZHi
  have hrg : w2.drew.rangeAt g 3 (cellsN Sha.H0) := by
    have := World.rangeAt_of_block hB2.drew 3 8
    rwa [tcs_words _ _ _ _ rfl] at this
  have HRG := Lib.hid hrg
  have HB2 := Lib.hid hB2
  have HBB := Lib.hid (hashB g)
  obtain ⟨C8, hC8⟩ : ∃ C8, C8 = (cellsN Sha.H0).toArray := ⟨_, rfl⟩
  rw [← hC8] at HBB
  obtain ⟨HC, hHC⟩ : ∃ HC, HC = hcs Sha.start (.pointer (some ⟨g, 11, none⟩)) 0 (List.replicate 64 0) := ⟨_, rfl⟩
  rw [← hHC] at HBB hR
  have hHCs : HC.size = 74 := by rw [hHC]; exact hcs_size _ _ _ _ (by simp)
  have hHC1 : HC.all (·.oneCell') = true := by rw [hHC]; exact start_one _
  have HHCS := Lib.hid hHCs
  have HHC1 := Lib.hid hHC1
  have HC8 := Lib.hid hC8
  clear hrg hC8 hHC hHCs hHC1 hB2
  have LD : ∀ (W : World) (hr : W.rangeAt g 3 (cellsN Sha.H0)) (a : Act) (K : Act → World → Prop) (Q : Exit → Act → World → Prop), a.eval (.tmp 19) = .pointer (some ⟨g, 3, none⟩) → K (a.put (some 20) (.agg C8)) W →
      Oper.wp Try.prog { dst := some 20, op := Op.load 64 (Operand.tmp 19), type := 64, pos := "sha.go:33", after := #[{ on := 2, ground := Ground.data }], guard := none } a W K Q := by
    intro W hr a K Q hx h
    refine wp_load_mid _ _ rfl g 3 hx (cellsN Sha.H0) _ hr Try.underlying64 rfl (by rw [cellsN_length]; kernel_rfl) ?_
    rw [← HC8.out]
    exact h
  have AL : ∀ (W : World) (a : Act) (K : Act → World → Prop) (Q : Exit → Act → World → Prop), K (a.put (some 5) (.pointer (some ⟨W.heap.size, 0, none⟩))) (W.alloc (.cells ZH 73)) →
      Oper.wp Try.prog { dst := some 5, op := Op.alloc 73, type := 0, pos := "sha.go:33", after := #[], guard := none } a W K Q := by
    intro W a K Q h
    exact wp_alloc_rowZ _ rfl ZH 74 HZHI.out h
  have ST : ∀ (W : World) (G : Nat) (a : Act) (af) (K : Act → World → Prop) (Q : Exit → Act → World → Prop), a.eval (.tmp 5) = .pointer (some ⟨G, 0, none⟩) → a.eval (.tmp 24) = .agg HC → Blk W G 73 ZH → K (a.put none undef) (W.setRow G HC) →
      Oper.wp Try.prog { dst := none, op := Op.store 73 (Operand.tmp 5) (Operand.tmp 24), type := 0, pos := "sha.go:33", after := af, guard := none } a W K Q := by
    intro W G a af K Q hx hy hB h
    exact wp_store_row _ _ _ rfl G HC hx hy _ _ hB (by rw [HHCS.out]; kernel_rfl) (by rw [HHCS.out]; exact HZHS.out) HHC1.out h
  have BU : ∀ (a : Act) (o : Oper), o.op = .build 73 #[(0, .tmp 20), (1, .tmp 23)] → a.eval (.tmp 20) = .agg C8 → a.eval (.tmp 23) = .pointer (some ⟨g, 11, none⟩) → ∀ W, (execOp a.eval o).run Try.prog W = .ok (.value (.agg HC)) W := by
    intro a o ho h1 h2 W
    unfold execOp
    simp only [ho, Sem.run_bind]
    rw [run_build W _ _ HC (by simp only [List.map_toArray, List.map_cons, List.map_nil, h1, h2]; exact HBB.out)]
    rfl
  obtain ⟨f, ⟨f0, f1, f4, -⟩, rfl⟩ := hF.open35
  simp only [f0, f1, f4]
  clear f0 f1 f4 hF
  conv => arg 2; whnf
  refine wp_region_any (by kernel_rfl) ?_
  change wpAny _ _ _ _ _ _ _ (World.drew _)
  refine wpAny_take (i := 0) (v := .pointer (some ⟨g, 0, none⟩)) rfl (by kernel_rfl) (by kernel_rfl) (by kernel_rfl) (fun _ _ _ h => h) (Or.inl ⟨by rfl, ?_⟩) ?_
  · intro W; go_simp
  refine wpAny_take (i := 1) (v := .pointer (some ⟨g, 0, none⟩)) rfl (by kernel_rfl) (by kernel_rfl) (by kernel_rfl) (fun _ _ _ h => h) (Or.inl ⟨by rfl, ?_⟩) ?_
  · intro W; go_simp
  refine wpAny_take (i := 2) (v := .pointer (some ⟨g, 3, none⟩)) rfl (by kernel_rfl) (by kernel_rfl) (by kernel_rfl) (fun _ _ _ h => h) (Or.inl ⟨by rfl, ?_⟩) ?_
  · intro W; go_simp
  refine wpAny_take (i := 4) (v := .pointer (some ⟨g, 0, none⟩)) rfl (by kernel_rfl) (by kernel_rfl) (by kernel_rfl) (fun _ _ _ h => h) (Or.inl ⟨by rfl, ?_⟩) ?_
  · intro W; go_simp
  refine wpAny_take (i := 5) (v := .pointer (some ⟨g, 0, none⟩)) rfl (by kernel_rfl) (by kernel_rfl) (by kernel_rfl) (fun _ _ _ h => h) (Or.inl ⟨by rfl, ?_⟩) ?_
  · intro W; go_simp
  refine wpAny_take (i := 6) (v := .pointer (some ⟨g, 11, none⟩)) rfl (by kernel_rfl) (by kernel_rfl) (by kernel_rfl) (fun _ _ _ h => h) (Or.inl ⟨by rfl, ?_⟩) ?_
  · intro W; go_simp
  go_simp
  refine wpAny_ready (rs := [3, 8]) (by kernel_rfl) (by simp) ?_
  refine AllReady.cons (o := { dst := some 20, op := Op.load 64 (Operand.tmp 19), type := 64, pos := "sha.go:33", after := #[{ on := 2, ground := Ground.data }], guard := none }) rfl (fun K hK => ?_) ?_
  ·
    apply step_wp
    · rfl
    apply LD
    · exact HRG.out
    · rfl
    apply hK
    clear hK K
    go_simp
    refine wpAny_take (i := 7) (v := .agg HC) rfl (by kernel_rfl) (by kernel_rfl) (by kernel_rfl) (fun _ _ _ h => h) (Or.inl ⟨by rfl, ?_⟩) ?_
    · apply BU
      · rfl
      · rfl
      · rfl
    go_simp
    refine wpAny_ready (rs := [8]) (by kernel_rfl) (by simp) ?_
    refine AllReady.cons (o := { dst := some 5, op := Op.alloc 73, type := 0, pos := "sha.go:33", after := #[], guard := none }) rfl (fun K hK => ?_) AllReady.nil
    apply step_wp
    · rfl
    apply AL
    apply hK
    clear hK K
    go_simp
    refine wpAny_ready (rs := [9]) (by kernel_rfl) (by simp) ?_
    refine AllReady.cons (o := { dst := none, op := Op.store 73 (Operand.tmp 5) (Operand.tmp 24), type := 0, pos := "sha.go:33", after := #[{ on := 8, ground := Ground.data }, { on := 7, ground := Ground.data }, { on := 0, ground := Ground.phase }, { on := 1, ground := Ground.phase }, { on := 2, ground := Ground.phase }, { on := 3, ground := Ground.phase }, { on := 4, ground := Ground.phase }, { on := 5, ground := Ground.phase }, { on := 6, ground := Ground.phase }, { on := 7, ground := Ground.phase }, { on := 8, ground := Ground.phase }], guard := none }) rfl (fun K hK => ?_) AllReady.nil
    apply step_wp
    · rfl
    apply ST _ w2.heap.size
    · rfl
    · rfl
    · exact (Blk.new w2 _ _).drew
    apply hK
    clear hK K
    refine wpAny_done (by kernel_rfl) ?_ _
    refine hR.out _ _ ⟨rfl, rfl, by repeat (first | exact trivial | refine ⟨rfl, ?_⟩)⟩ ?_ ?_
    · exact setRow_heap _ _ _ _ _ _ (Blk.new w2 _ _).drew
    · refine (((Keep.refl [] w2).alloc _).drew).trans' (T := [w2.heap.size]) ⟨rfl, rfl, rfl, by simp, fun k _ hk => setRow_other _ _ k _ (by simpa using hk)⟩ (fun x hx => by right; simp at hx; omega)
  ·
    refine AllReady.cons (o := { dst := some 5, op := Op.alloc 73, type := 0, pos := "sha.go:33", after := #[], guard := none }) rfl (fun K hK => ?_) AllReady.nil
    apply step_wp
    · rfl
    apply AL
    apply hK
    clear hK K
    go_simp
    refine wpAny_ready (rs := [3]) (by kernel_rfl) (by simp) ?_
    refine AllReady.cons (o := { dst := some 20, op := Op.load 64 (Operand.tmp 19), type := 64, pos := "sha.go:33", after := #[{ on := 2, ground := Ground.data }], guard := none }) rfl (fun K hK => ?_) AllReady.nil
    apply step_wp
    · rfl
    apply LD
    · exact (World.rangeAt_drew _ _ _ _).2 (World.rangeAt_alloc ((World.rangeAt_drew _ _ _ _).1 HRG.out) _)
    · rfl
    apply hK
    clear hK K
    go_simp
    refine wpAny_take (i := 7) (v := .agg HC) rfl (by kernel_rfl) (by kernel_rfl) (by kernel_rfl) (fun _ _ _ h => h) (Or.inl ⟨by rfl, ?_⟩) ?_
    · apply BU
      · rfl
      · rfl
      · rfl
    go_simp
    refine wpAny_ready (rs := [9]) (by kernel_rfl) (by simp) ?_
    refine AllReady.cons (o := { dst := none, op := Op.store 73 (Operand.tmp 5) (Operand.tmp 24), type := 0, pos := "sha.go:33", after := #[{ on := 8, ground := Ground.data }, { on := 7, ground := Ground.data }, { on := 0, ground := Ground.phase }, { on := 1, ground := Ground.phase }, { on := 2, ground := Ground.phase }, { on := 3, ground := Ground.phase }, { on := 4, ground := Ground.phase }, { on := 5, ground := Ground.phase }, { on := 6, ground := Ground.phase }, { on := 7, ground := Ground.phase }, { on := 8, ground := Ground.phase }], guard := none }) rfl (fun K hK => ?_) AllReady.nil
    apply step_wp
    · rfl
    apply ST _ w2.heap.size
    · rfl
    · rfl
    · exact (Blk.new w2 _ _).drew
    apply hK
    clear hK K
    refine wpAny_done (by kernel_rfl) ?_ _
    refine hR.out _ _ ⟨rfl, rfl, by repeat (first | exact trivial | refine ⟨rfl, ?_⟩)⟩ ?_ ?_
    · exact setRow_heap _ _ _ _ _ _ (Blk.new w2 _ _).drew
    · refine (((Keep.refl [] w2).alloc _).drew).trans' (T := [w2.heap.size]) ⟨rfl, rfl, rfl, by simp, fun k _ hk => setRow_other _ _ k _ (by simpa using hk)⟩ (fun x hx => by right; simp at hx; omega)
end Go.Proofs.Ytiiifcfgfmoiaaa
