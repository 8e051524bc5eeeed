/-
  The landed sha: New; Sum.
-/
import Derived.Test.YtadpfgflkbfjcaaHash8
import Derived.Test.YtadpfgflkbfjcaaOnce
import Derived.Test.YtadpfgflkbfjcaaShaTS
namespace Go.Proofs.Ytadpfgflkbfjcaa
open Go.RowKit

/-- Do, whatever was done before. -/
theorem do_any (w : World) (g : Nat) (h : TS w g) :
    Calls Try.prog 15 #[.pointer (some ⟨g, 0, none⟩), .func (.func 16) #[.pointer (some ⟨g, 0, none⟩)] #[]] w fun e w' => e = .returned (.tuple #[]) ∧
      Blk w' g 52 (tcs (.int .u32 1) (.int .i32 0) Sha.H0 Sha.K) ∧ Keep [g] w w' := by
  obtain ⟨cs, hB, hc⟩ := h
  rcases hc with rfl | rfl
  · refine (once_first g 0 52 _ (tcs (.int .u32 0) (.int .i32 1) Sha.H0 Sha.K) _ w hB rfl rfl (fun w1 hB1 hk1 => ?_) rfl rfl).mono ?_
    · have hs : (tcs (.int .u32 0) (.int .i32 0) (List.replicate 8 0) (List.replicate 64 0)).setIfInBounds (0 + 1) (.int .i32 1) = tcs (.int .u32 0) (.int .i32 1) (List.replicate 8 0) (List.replicate 64 0) := by
        unfold tcs
        rw [List.setIfInBounds_toArray]; rfl
      rw [hs] at hB1
      exact compute_any w1 g _ _ _ _ (by simp) (by simp) hB1
    · rintro e w' ⟨rfl, h2, h3⟩
      refine ⟨rfl, ?_, h3⟩
      have hs : ((tcs (.int .u32 0) (.int .i32 1) Sha.H0 Sha.K).setIfInBounds 0 (.int .u32 1)).setIfInBounds (0 + 1) (.int .i32 0) = tcs (.int .u32 1) (.int .i32 0) Sha.H0 Sha.K := by
        unfold tcs
        rw [List.setIfInBounds_toArray, List.setIfInBounds_toArray]; rfl
      rw [hs] at h2
      exact h2
  · refine (once_done g 0 1 rfl _ w (by rw [hB.cell]; rfl)).mono ?_
    rintro e w' ⟨rfl, rfl⟩
    exact ⟨rfl, hB, Keep.refl _ _⟩

section
variable {P : Program}
/-- A struct or array by value, its cells named. -/
theorem wl_build {ops : Array Oper} {rest : List Oper} {o : Oper} {a : Act} {w : World} {Q : Exit → Act → World → Prop} (hg : o.guard = none) (t : TypeId) (parts : Array (Nat × Operand)) (ho : o.op = .build t parts)
    (C : Array Value) (l : List (Nat × Value)) (hl : (parts.map fun (i, x) => (i, a.eval x)).toList = l) (hf : P.built t l = some C)
    (h : wpList P ops Q rest (a.put o.dst (.agg C)) w) : wpList P ops Q (o :: rest) a w := by
  subst hl
  exact wpList_build hg t parts ho (by rw [hf]; rfl) (by rw [hf]; exact h)
/-- A value of many cells into a new block. -/
theorem wl_box {ops : Array Oper} {rest : List Oper} {o : Oper} {a : Act} {w : World} {Q : Exit → Act → World → Prop} (hg : o.guard = none) (t : TypeId) (x : Operand) (ho : o.op = .box t x)
    (C : Array Value) (hx : a.eval x = .agg C)
    (h : ∀ w', Blk w' w.heap.size t C → Keep [] w w' → w'.heap.size = w.heap.size + 1 → wpList P ops Q rest (a.put o.dst (.pointer (some ⟨w.heap.size, 0, none⟩))) w') : wpList P ops Q (o :: rest) a w := by
  refine wpList_plain hg fun K hK => ?_
  unfold Oper.wp execOp
  simp only [ho, hx, Instr.box, newVar, newRow, newObj, Sem.run_bind, Sem.run_pure]
  simp [go_sem]
  exact hK _ _ (h (w.alloc (.cells C t)) (Blk.new _ _ _) ((Keep.refl _ _).alloc _) (by simp))
end

theorem newC : NewC := by
  intro w
  obtain ⟨Z, hZ, hb⟩ : ∃ Z, Z = tcs (.int .u32 0) (.int .i32 0) (List.replicate 8 0) (List.replicate 64 0) ∧ Try.prog.built 52 [] = some Z := ⟨_, rfl, by kernel_rfl⟩
  go_enter Try.func8, Try.ntmps8
  go_wp2_with (first
    | (refine wl_build rfl _ _ rfl Z [] (by simp) hb ?_)
    | (refine wl_box rfl _ _ rfl Z rfl ?_; intro w1 hB1 hk1 hz1))
  go_ret
  exact ⟨_, rfl, Nat.le_refl _, ⟨Z, hB1, .inl hZ⟩, hk1⟩

theorem sumN : SumN := by
  intro w pv
  obtain ⟨Z, hZ, hZs, hZi⟩ := u8x32
  have HZS := Lib.hid hZs
  have HZI := Lib.hid hZi
  have HZ := Lib.hid hZ
  have hb : Try.prog.built 28 [] = some Z := by rw [hZ]; kernel_rfl
  have HB := Lib.hid hb
  have hone : Z.all (·.oneCell') = true := by rw [hZ]; simp [Value.oneCell']
  have HONE := Lib.hid hone
  clear hZ hZs hZi hb hone
  go_enter Try.func10, Try.ntmps10
  go_wp2_with (first
    | (refine wl_alloc_rowZ rfl _ rfl Z 32 HZI.out ?_; intro w1 hB1 hk1 hz1)
    | (refine wl_build rfl _ _ rfl Z [] (by simp) HB.out ?_)
    | (refine wl_store_row rfl _ _ _ rfl w.heap.size rfl Z rfl _ _ hB1 (by rw [HZS.out]; kernel_rfl) (by rw [HZS.out]) HONE.out ?_; intro w3 hB3 hk3 hz3))
  (try simp only [Exit.inBlock, Exit.then])
  refine bodyPost_ret (v := .agg Z) ?_ rfl ?_
  · refine results_cell_row Try.results10 _ w3 w.heap.size 28 Z (0, 0) _ ?_ hB3 Try.underlying28 rfl ?_
    · rfl
    · rw [HZS.out]; kernel_rfl
  · refine ⟨by rw [HZ.out]; rfl, hk1.trans' hk3 (fun g hg => by right; simp at hg; omega)⟩

theorem markN : MarkN := by
  intro w kv pv
  obtain ⟨Z, hZ, hZs, hZi⟩ := u8x32
  have HZS := Lib.hid hZs
  have HZI := Lib.hid hZi
  have HZ := Lib.hid hZ
  have hb : Try.prog.built 28 [] = some Z := by rw [hZ]; kernel_rfl
  have HB := Lib.hid hb
  have hone : Z.all (·.oneCell') = true := by rw [hZ]; simp [Value.oneCell']
  have HONE := Lib.hid hone
  clear hZ hZs hZi hb hone
  go_enter Try.func11, Try.ntmps11
  go_wp2_with (first
    | (refine wl_alloc_rowZ rfl _ rfl Z 32 HZI.out ?_; intro w1 hB1 hk1 hz1)
    | (refine wl_build rfl _ _ rfl Z [] (by simp) HB.out ?_)
    | (refine wl_store_row rfl _ _ _ rfl w.heap.size rfl Z rfl _ _ hB1 (by rw [HZS.out]; kernel_rfl) (by rw [HZS.out]) HONE.out ?_; intro w3 hB3 hk3 hz3))
  (try simp only [Exit.inBlock, Exit.then])
  refine bodyPost_ret (v := .agg Z) ?_ rfl ?_
  · refine results_cell_row Try.results11 _ w3 w.heap.size 28 Z (0, 0) _ ?_ hB3 Try.underlying28 rfl ?_
    · rfl
    · rw [HZS.out]; kernel_rfl
  · refine ⟨by rw [HZ.out]; rfl, hk1.trans' hk3 (fun g hg => by right; simp at hg; omega)⟩
end Go.Proofs.Ytadpfgflkbfjcaa
