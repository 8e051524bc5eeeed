/-
  The landed sha: New; Sum.
-/
import Derived.Test.YtiiifcfgfmoiaaaHash8
import Derived.Test.YtiiifcfgfmoiaaaOnce
import Derived.Test.YtiiifcfgfmoiaaaShaTS
import Derived.Test.YtiiifcfgfmoiaaaEqArr
namespace Go.Proofs.Ytiiifcfgfmoiaaa
open Go.RowKit

/-- Do, whatever was done before. -/
theorem do_any (w : World) (g : Nat) (h : TS w g) :
    Calls Try.prog 22 #[.pointer (some ⟨g, 0, none⟩), .func (.func 23) #[.pointer (some ⟨g, 0, none⟩)] #[]] w fun e w' => e = .returned (.tuple #[]) ∧
      Blk w' g 67 (tcs (.int .u32 1) (.int .i32 0) Sha.H0 Sha.K) ∧ Keep [g] w w' := by
  obtain ⟨cs, hB, hc⟩ := h
  rcases hc with rfl | rfl
  · refine (once_first g 0 67 _ (tcs (.int .u32 0) (.int .i32 1) Sha.H0 Sha.K) _ w hB rfl rfl (fun w1 hB1 hk1 => ?_) rfl rfl).mono ?_
    · have hs : (tcs (.int .u32 0) (.int .i32 0) (List.replicate 8 0) (List.replicate 64 0)).setIfInBounds (0 + 1) (.int .i32 1) = tcs (.int .u32 0) (.int .i32 1) (List.replicate 8 0) (List.replicate 64 0) := by
        unfold tcs
        rw [List.setIfInBounds_toArray]; rfl
      rw [hs] at hB1
      exact compute_any w1 g _ _ _ _ (by simp) (by simp) hB1
    · rintro e w' ⟨rfl, h2, h3⟩
      refine ⟨rfl, ?_, h3⟩
      have hs : ((tcs (.int .u32 0) (.int .i32 1) Sha.H0 Sha.K).setIfInBounds 0 (.int .u32 1)).setIfInBounds (0 + 1) (.int .i32 0) = tcs (.int .u32 1) (.int .i32 0) Sha.H0 Sha.K := by
        unfold tcs
        rw [List.setIfInBounds_toArray, List.setIfInBounds_toArray]; rfl
      rw [hs] at h2
      exact h2
  · refine (once_done g 0 1 rfl _ w (by rw [hB.cell]; rfl)).mono ?_
    rintro e w' ⟨rfl, rfl⟩
    exact ⟨rfl, hB, Keep.refl _ _⟩

theorem newC : NewC := by
  intro w
  obtain ⟨Z, hZ, hb⟩ : ∃ Z, Z = tcs (.int .u32 0) (.int .i32 0) (List.replicate 8 0) (List.replicate 64 0) ∧ Try.prog.built 67 [] = some Z := ⟨_, rfl, by kernel_rfl⟩
  go_enter Try.func20, Try.ntmps20
  go_wp2_with (first
    | (refine wl_build rfl _ _ rfl Z [] (by simp) hb ?_)
    | (refine wl_box rfl _ _ rfl Z rfl ?_; intro w1 hB1 hk1 hz1))
  go_ret
  exact ⟨_, rfl, Nat.le_refl _, ⟨Z, hB1, .inl hZ⟩, hk1⟩

theorem sumN : SumN := by
  intro w pv
  obtain ⟨Z, hZ, hZs, hZi⟩ := u8x32
  have HZS := Lib.hid hZs
  have HZI := Lib.hid hZi
  have HZ := Lib.hid hZ
  have hb : Try.prog.built 22 [] = some Z := by rw [hZ]; kernel_rfl
  have HB := Lib.hid hb
  have hone : Z.all (·.oneCell') = true := by rw [hZ]; simp [Value.oneCell']
  have HONE := Lib.hid hone
  clear hZ hZs hZi hb hone
  go_enter Try.func16, Try.ntmps16
  go_wp2_with (first
    | (refine wl_alloc_rowZ rfl _ rfl Z 32 HZI.out ?_; intro w1 hB1 hk1 hz1)
    | (refine wl_build rfl _ _ rfl Z [] (by simp) HB.out ?_)
    | (refine wl_store_row rfl _ _ _ rfl w.heap.size rfl Z rfl _ _ hB1 (by rw [HZS.out]; kernel_rfl) (by rw [HZS.out]) HONE.out ?_; intro w3 hB3 hk3 hz3))
  (try simp only [Exit.inBlock, Exit.then])
  refine bodyPost_ret (v := .agg Z) ?_ rfl ?_
  · refine results_cell_row Try.results16 _ w3 w.heap.size 22 Z (0, 0) _ ?_ hB3 Try.underlying22 rfl ?_
    · rfl
    · rw [HZS.out]; kernel_rfl
  · refine ⟨by rw [HZ.out]; rfl, hk1.trans' hk3 (fun g hg => by right; simp at hg; omega)⟩

theorem markN : MarkN := by
  intro w kv pv
  obtain ⟨Z, hZ, hZs, hZi⟩ := u8x32
  have HZS := Lib.hid hZs
  have HZI := Lib.hid hZi
  have HZ := Lib.hid hZ
  have hb : Try.prog.built 22 [] = some Z := by rw [hZ]; kernel_rfl
  have HB := Lib.hid hb
  have hone : Z.all (·.oneCell') = true := by rw [hZ]; simp [Value.oneCell']
  have HONE := Lib.hid hone
  clear hZ hZs hZi hb hone
  go_enter Try.func21, Try.ntmps21
  go_wp2_with (first
    | (refine wl_alloc_rowZ rfl _ rfl Z 32 HZI.out ?_; intro w1 hB1 hk1 hz1)
    | (refine wl_build rfl _ _ rfl Z [] (by simp) HB.out ?_)
    | (refine wl_store_row rfl _ _ _ rfl w.heap.size rfl Z rfl _ _ hB1 (by rw [HZS.out]; kernel_rfl) (by rw [HZS.out]) HONE.out ?_; intro w3 hB3 hk3 hz3))
  (try simp only [Exit.inBlock, Exit.then])
  refine bodyPost_ret (v := .agg Z) ?_ rfl ?_
  · refine results_cell_row Try.results21 _ w3 w.heap.size 22 Z (0, 0) _ ?_ hB3 Try.underlying22 rfl ?_
    · rfl
    · rw [HZS.out]; kernel_rfl
  · refine ⟨by rw [HZ.out]; rfl, hk1.trans' hk3 (fun g hg => by right; simp at hg; omega)⟩
end Go.Proofs.Ytiiifcfgfmoiaaa
