/-
  The landed kdf: what a nil one answers; Expand's ErrRange; Label's ErrSize.
-/
import Derived.Test.YtiiifcfgfmoiaaaKdf1
namespace Go.Proofs.Ytiiifcfgfmoiaaa
open Go.RowKit

theorem arr_agg (l : List Int) : arr l = .agg (l.map (Value.int .u8)).toArray := rfl

theorem nil_extract (w : World) (av bv : Value) :
    Calls Try.prog 13 #[.pointer none, av, bv] w (fun e w' => e = .returned (arr (List.replicate 32 0)) ∧ Keep [] w w') := by
  obtain ⟨Z, hZ, hZs, hZi⟩ := sec32
  have HZS := Lib.hid hZs
  have HZI := Lib.hid hZi
  have HZ := Lib.hid hZ
  have HB := Lib.hid (show Try.prog.built 23 [] = some Z by rw [hZ]; kernel_rfl)
  have HONE := Lib.hid (show Z.all (·.oneCell') = true by rw [hZ]; simp [Value.oneCell'])
  clear hZ hZs hZi
  go_enter Try.func13, Try.ntmps13
  go_wp2_with (first
    | (refine wl_alloc_rowZ rfl _ rfl Z 32 HZI.out ?_; intro w1 hB1 hk1 hz1)
    | (refine wl_build rfl _ _ rfl Z [] (by simp) HB.out ?_)
    | (refine wl_store_row rfl _ _ _ rfl w.heap.size rfl Z rfl _ _ hB1 (by rw [HZS.out]; kernel_rfl) (by rw [HZS.out]) HONE.out ?_; intro w3 hB3 hk3 hz3))
  (try simp only [Exit.inBlock, Exit.then])
  refine bodyPost_ret (v := .agg Z) ?_ rfl ?_
  · refine results_cell_row Try.results13 _ w3 w.heap.size 23 Z (0, 0) _ ?_ hB3 Try.underlying23 rfl ?_
    · rfl
    · rw [HZS.out]; kernel_rfl
  · refine ⟨by rw [HZ.out]; simp [arr], hk1.trans' hk3 (fun g hg => by right; simp at hg; omega)⟩

set_option maxRecDepth 100000 in
theorem nil_derive (w : World) (sl : List Int) (lab av : Value) (_hs : Secr sl) :
    Calls Try.prog 14 #[.pointer none, arr sl, lab, av] w (fun e w' => e = .returned (arr (List.replicate 32 0)) ∧ Keep [] w w') := by
  obtain ⟨Z, hZ, hZs, hZi⟩ := sec32
  obtain ⟨D, hD⟩ : ∃ D, D = (sl.map (Value.int .u8)).toArray := ⟨_, rfl⟩
  rw [arr_agg, ← hD]
  have HZS := Lib.hid hZs
  have HZI := Lib.hid hZi
  have HZ := Lib.hid hZ
  have HB := Lib.hid (show Try.prog.built 23 [] = some Z by rw [hZ]; kernel_rfl)
  have HONE := Lib.hid (show Z.all (·.oneCell') = true by rw [hZ]; simp [Value.oneCell'])
  clear hZ hZs hZi hD
  go_enter Try.func14, Try.ntmps14
  go_wp2_with (first
    | (refine wl_box rfl _ _ rfl D rfl ?_; intro w0 hB0 hk0 hz0; clear hz0)
    | (refine wl_alloc_rowZ rfl _ rfl Z 32 HZI.out ?_; intro w1 hB1 hk1 hz1)
    | (refine wl_build rfl _ _ rfl Z [] (by simp) HB.out ?_)
    | (refine wl_store_row rfl _ _ _ rfl w0.heap.size rfl Z rfl _ _ hB1 (by rw [HZS.out]; kernel_rfl) (by rw [HZS.out]) HONE.out ?_; intro w3 hB3 hk3 hz3))
  (try simp only [Exit.inBlock, Exit.then])
  refine bodyPost_ret (v := .agg Z) ?_ rfl ?_
  · refine results_cell_row Try.results14 _ w3 w0.heap.size 23 Z (0, 0) _ ?_ hB3 Try.underlying23 rfl ?_
    · rfl
    · rw [HZS.out]; kernel_rfl
  · refine ⟨by rw [HZ.out]; simp [arr], (hk0.trans hk1).trans' hk3 (fun g hg => by right; have := hk0.size; simp at hg; omega)⟩

theorem nil_expand (w : World) (sl : List Int) (av : Value) (many : Int) (_hs : Secr sl) :
    Calls Try.prog 9 #[.pointer none, arr sl, av, .int .i64 many] w (fun e w' => ∃ v, e = .returned (.tuple #[v, .int .i64 1]) ∧ Keep [] w w') := by
  obtain ⟨D, hD⟩ : ∃ D, D = (sl.map (Value.int .u8)).toArray := ⟨_, rfl⟩
  rw [arr_agg, ← hD]
  clear hD
  go_enter Try.func9, Try.ntmps9
  go_wp2_with (refine wl_box rfl _ _ rfl D rfl ?_; intro w0 hB0 hk0 hz0; clear hz0)
  go_ret2
  exact ⟨_, rfl, hk0⟩

theorem nil_label (w : World) (sl : List Int) (lab : ByteArray) (av : Value) (many : Int) (_hs : Secr sl) :
    Calls Try.prog 11 #[.pointer none, arr sl, .string lab, av, .int .i64 many] w (fun e w' => ∃ v, e = .returned (.tuple #[v, .int .i64 1]) ∧ Keep [] w w') := by
  obtain ⟨D, hD⟩ : ∃ D, D = (sl.map (Value.int .u8)).toArray := ⟨_, rfl⟩
  rw [arr_agg, ← hD]
  clear hD
  go_enter Try.func11, Try.ntmps11
  go_wp2_with (refine wl_box rfl _ _ rfl D rfl ?_; intro w0 hB0 hk0 hz0; clear hz0)
  go_ret2
  exact ⟨_, rfl, hk0⟩

theorem nil_tables (w : World) : Calls Try.prog 15 #[.pointer none] w (fun e w' => e = .returned (.pointer none) ∧ w = w') := by
  go_enter Try.func15, Try.ntmps15
  go_wp2_with fail
  go_ret
  exact ⟨rfl, rfl⟩

theorem kdfN : KdfN := fun w sl lab av bv many hs =>
  ⟨nil_extract w av bv, nil_expand w sl av many hs, nil_label w sl lab av many hs, nil_derive w sl _ av hs, nil_tables w⟩

theorem expandE : ExpandE := by
  intro w k t sl av al many hK hs ha hal hm hr
  obtain ⟨D, hD⟩ : ∃ D, D = (sl.map (Value.int .u8)).toArray := ⟨_, rfl⟩
  rw [arr_agg, ← hD]
  obtain ⟨hm0, hm1⟩ := wf_i64 hm
  have HK := Lib.hid hK
  clear hD hs hK ha hm
  go_enter Try.func9, Try.ntmps9
  by_cases hneg : many < 0
  · go_wp2_with (refine wl_box rfl _ _ rfl D rfl ?_; intro w0 hB0 hk0 hz0; clear hz0)
    go_ret2
    exact ⟨_, rfl, ⟨Sl.nil _ _, by simp [Value.ownBlock]⟩, HK.out.keep0 hk0, hk0.more0⟩
  · have hbig : 8160 < many := by omega
    go_wp2_with (refine wl_box rfl _ _ rfl D rfl ?_; intro w0 hB0 hk0 hz0; clear hz0)
    go_ret2
    exact ⟨_, rfl, ⟨Sl.nil _ _, by simp [Value.ownBlock]⟩, HK.out.keep0 hk0, hk0.more0⟩

theorem labelS : LabelS := by
  intro w k t sl lab cv cl many hK hs hc hm hlab hr
  obtain ⟨D, hD⟩ : ∃ D, D = (sl.map (Value.int .u8)).toArray := ⟨_, rfl⟩
  rw [arr_agg, ← hD]
  have HK := Lib.hid hK
  obtain ⟨cA, cc, rfl, hcc1, hcc2, -, -⟩ := hc
  clear hD hs hK hm
  go_enter Try.func11, Try.ntmps11
  by_cases hl : 249 < lab.size
  · go_wp2_with (refine wl_box rfl _ _ rfl D rfl ?_; intro w0 hB0 hk0 hz0; clear hz0)
    go_ret2
    exact ⟨_, rfl, ⟨Sl.nil _ _, by simp [Value.ownBlock]⟩, HK.out.keep0 hk0, hk0.more0⟩
  · have hbig : 255 < cl.length := by omega
    go_wp2_with (refine wl_box rfl _ _ rfl D rfl ?_; intro w0 hB0 hk0 hz0; clear hz0)
    go_ret2
    exact ⟨_, rfl, ⟨Sl.nil _ _, by simp [Value.ownBlock]⟩, HK.out.keep0 hk0, hk0.more0⟩
end Go.Proofs.Ytiiifcfgfmoiaaa
