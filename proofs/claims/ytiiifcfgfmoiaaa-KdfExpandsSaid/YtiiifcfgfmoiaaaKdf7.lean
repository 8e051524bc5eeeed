/-
  The landed kdf: Derive.
-/
import Derived.Test.YtiiifcfgfmoiaaaKdf6
namespace Go.Proofs.Ytiiifcfgfmoiaaa
open Go.RowKit

theorem label32 (w : World) (k t : Nat) (sl : List Int) (lab : ByteArray) (cv : Value) (cl : List Int) (hK : KS w k t) (hs : Secr sl) (hc : Sl .u8 w cv cl) (hl : lab.size ≤ 249) (hcl : cl.length ≤ 255) :
    Calls Try.prog 11 #[.pointer (some ⟨k, 0, none⟩), arr sl, .string lab, cv, .int .i64 32] w fun e w' => ∃ v, e = .returned (.tuple #[v, .int .i64 0]) ∧ NewB w w' v (Sha.label sl (sby lab) cl 32) ∧ KS w' k t ∧ Keep [k, t] w w' :=
  labelC w k t sl lab cv cl 32 hK hs hc hl hcl (by decide)
theorem label_len (s lab c : List Int) (n : Nat) : (Sha.label s lab c n).length = n := by
  unfold Sha.label Sha.expand
  rw [List.length_take, tAll_len]
  omega
theorem label_wf (s lab c : List Int) (n : Nat) : ∀ x ∈ Sha.label s lab c n, (Lit.int .u8 x).wf = true := fun x hx => tAll_wf _ _ _ x (List.mem_of_mem_take hx)

set_option maxRecDepth 100000 in
set_option maxHeartbeats 4000000 in
theorem deriveC : DeriveC := by
  intro w k t sl lab dv dl hK hs hd hl hdl
  obtain ⟨Z, hZ, hZs, hZi⟩ := sec32
  obtain ⟨Z2, hZ2, hZ2s, hZ2i⟩ := u8x32
  obtain ⟨D0, hD0⟩ : ∃ D0, D0 = (sl.map (Value.int .u8)).toArray := ⟨_, rfl⟩
  have hDs : D0.size = 32 := by rw [hD0]; simp [hs.1]
  have LB := fun w cv cl h1 h2 h3 => label32 w k t sl lab cv cl h1 hs h2 hl h3
  simp only [arr_agg, ← hD0] at LB ⊢
  have HZ := Lib.hid hZ
  have HZS := Lib.hid hZs
  have HZI := Lib.hid hZi
  have HZ2S := Lib.hid hZ2s
  have HZ2I := Lib.hid hZ2i
  have HDS := Lib.hid hDs
  have HK := Lib.hid hK
  have HS := Lib.hid hs
  have HD := Lib.hid hd
  have HLT := Lib.hid hK.lt
  have HKT := Lib.hid hK.ne
  obtain ⟨SM, hSM⟩ : ∃ SM, SM = ((Sha.sum dl).map (Value.int .u8)).toArray := ⟨_, rfl⟩
  have HSM := Lib.hid hSM
  have HSMs := Lib.hid (show SM.size = 32 by rw [hSM]; simp [sum_length])
  have HSM1 := Lib.hid (show SM.all (·.oneCell') = true by rw [hSM]; exact arr_cell _)
  obtain ⟨LL, hLL⟩ : ∃ LL, LL = Sha.label sl (sby lab) (Sha.sum dl) 32 := ⟨_, rfl⟩
  have hLLl : LL.length = 32 := by rw [hLL]; exact label_len _ _ _ _
  have hLLw : ∀ x ∈ LL, (Lit.int .u8 x).wf = true := by rw [hLL]; exact label_wf _ _ _ _
  rw [← hLL]
  obtain ⟨RD, hRD⟩ : ∃ RD, RD = (LL.map (Value.int .u8)).toArray := ⟨_, rfl⟩
  have HRD := Lib.hid hRD
  have HRDs := Lib.hid (show RD.size = 32 by rw [hRD]; simp [hLLl])
  have HRD1 := Lib.hid (show RD.all (·.oneCell') = true by rw [hRD]; exact arr_cell _)
  have HLL := Lib.hid hLL
  have HLLl := Lib.hid hLLl
  have HLLw := Lib.hid hLLw
  obtain ⟨dA, dc, rfl, hdc1, hdc2, -, -⟩ := hd
  clear hZ hZs hZi hZ2 hZ2s hZ2i hD0 hDs hK hs hSM hLL hLLl hLLw hRD
  go_enter Try.func14, Try.ntmps14
  go_upto_region 3 with (first
    | (refine wl_box rfl _ _ rfl D0 rfl ?_; intro w1 hB1 hk1 hz1; have HB1 := Lib.hid hB1; have HK1 := Lib.hid hk1; clear hB1 hk1 hz1)
    | (refine wl_alloc_rowZ rfl _ rfl Z 32 HZI.out ?_; intro w2 hB2 hk2 hz2; have HB2 := Lib.hid hB2; have HK2 := Lib.hid hk2; clear hB2 hk2 hz2))
  obtain ⟨g0, hg0⟩ : ∃ g0, g0 = w.heap.size := ⟨_, rfl⟩
  obtain ⟨g1, hg1⟩ : ∃ g1, g1 = w1.heap.size := ⟨_, rfl⟩
  have HN := Lib.hid (show w.heap.size ≤ g0 ∧ w.heap.size ≤ g1 ∧ g0 ≠ g1 from ⟨by omega, by have := HB1.out.lt; omega, by have := HB1.out.lt; omega⟩)
  have HB0 := Lib.hid (show Blk w2 g0 23 D0 by rw [hg0]; exact HB1.out.keep HK2.out (by simp))
  have HBR := Lib.hid (show Blk w2 g1 23 Z by rw [hg1]; exact HB2.out)
  have HK02 := Lib.hid (HK1.out.trans HK2.out)
  rw [← hg0, ← hg1]
  clear hg0 hg1 HB1 HB2
  have HK2s := Lib.hid (HK.out.keep0 HK02.out)
  have hc := HK2s.out.cell
  have S1 := Lib.hid (sum_any (w2.alloc (.cells #[.slice dA dl.length dc] 24)) t (.slice (some ⟨w2.heap.size, 0, none⟩) 1 1) [dl] (HK2s.out.ts.keep ((Keep.refl [] w2).alloc _) (by simp))
    (Pl.one (Blk.new w2 24 #[.slice dA dl.length dc]) ((HD.out.keep0 HK02.out).keep0 ((Keep.refl [] w2).alloc _))) (by simp; omega) (by simp))
  rw [show ([dl] : List (List Int)).flatten = dl by simp] at S1
  simp only [arr_agg, ← HSM.out] at S1
  go_upto_region 4 with (first
    | (go_at_call 16; with_reducible refine S1.out.mono ?_; rintro e w3 ⟨rfl, hT3, hk3⟩; have HT3 := Lib.hid hT3; have HK3 := Lib.hid (((Keep.refl [t] w2).alloc _).trans hk3); clear hT3 hk3)
    | (refine wl_alloc_rowZ rfl _ rfl Z2 32 HZ2I.out ?_; intro w4 hB4 hk4 hz4; have HB4 := Lib.hid hB4; have HK4 := Lib.hid hk4; clear hB4 hk4 hz4)
    | (refine wl_store_row rfl _ _ _ rfl w3.heap.size rfl SM rfl _ _ HB4.out (by rw [HSMs.out]; kernel_rfl) (by rw [HSMs.out]; exact HZ2S.out) HSM1.out ?_; intro w5 hB5 hk5 hz5; have HB5 := Lib.hid hB5; have HK5 := Lib.hid hk5; clear hB5 hk5 hz5))
  obtain ⟨g9, hg9⟩ : ∃ g9, g9 = w3.heap.size := ⟨_, rfl⟩
  have hlt := HLT.out
  have hn := HN.out
  have hw2 := HK02.out.size
  have hw3 := HK3.out.size
  have hw4 := HK4.out.size
  have b0 := HB0.out.lt
  have b1 := HBR.out.lt
  have hk35 : Keep [t] w2 w5 := (HK3.out.trans0 HK4.out).trans' HK5.out (fun x hx => by right; simp at hx; omega)
  have HB9 := Lib.hid (show Blk w5 g9 22 SM by rw [hg9]; exact HB5.out)
  have HK25 := Lib.hid hk35
  have HBR5 := Lib.hid (HBR.out.keep hk35 (by simp; omega))
  have HB05 := Lib.hid (HB0.out.keep hk35 (by simp; omega))
  have HKS5 := Lib.hid (show KS w5 k t by
    obtain ⟨cs, h1, h2, h3, h4⟩ := HK2s.out
    exact ⟨cs, h1.keep hk35 (by simpa using h4), h2, (HT3.out.keep HK4.out (by simp)).keep HK5.out (by simp; omega), h4⟩)
  have HG9 := Lib.hid (show w2.heap.size ≤ g9 by omega)
  have HG1 := Lib.hid (show g1 < w2.heap.size from b1)
  rw [← hg9]
  clear hg9 hlt hn hw2 hw3 hw4 b0 b1 hk35 hc S1 HB5 HB4 HK3 HK4 HK5 HT3
  refine wp_region_any (by kernel_rfl) ?_
  change wpAny _ _ _ _ _ _ _ (World.drew _)
  obtain ⟨W0, hW0⟩ : ∃ W0, W0 = w5.drew := ⟨_, rfl⟩
  rw [← hW0]
  have hk0 : Keep [] w5 W0 := by rw [hW0]; exact (Keep.refl [] w5).drew
  clear hW0
  have HB9' := Lib.hid (HB9.out.keep hk0 (by simp))
  have L1 := Lib.hid (LB W0 (.slice (some ⟨g9, 0, none⟩) 32 32) (Sha.sum dl) (HKS5.out.keep0 hk0) (Sl.of_blk (by have := HB9'.out; rw [HSM.out] at this; exact this) (sum_length dl) (by decide) (sum_wf dl)) (by rw [sum_length]; decide))
  rw [← HLL.out] at L1
  go_simp
  refine wpAny_take (i := 0) (v := ?_) rfl (by kernel_rfl) (by kernel_rfl) (by kernel_rfl) (fun _ _ _ h => h) (Or.inl ⟨by rfl, ?_⟩) ?_
  rotate_left
  · intro y; go_simp; try (with_reducible rfl)
  rotate_left
  go_simp
  refine wpAny_take (i := 2) (v := ?_) rfl (by kernel_rfl) (by kernel_rfl) (by kernel_rfl) (fun _ _ _ h => h) (Or.inl ⟨by rfl, ?_⟩) ?_
  rotate_left
  · intro y; go_simp; try (with_reducible rfl)
  rotate_left
  go_simp
  refine wpAny_take (i := 3) (v := ?_) rfl (by kernel_rfl) (by kernel_rfl) (by kernel_rfl) (fun _ _ _ h => h) (Or.inl ⟨by rfl, ?_⟩) ?_
  rotate_left
  · intro y; go_simp; try (with_reducible rfl)
  rotate_left
  go_simp
  refine wpAny_ready (rs := [1]) (by kernel_rfl) (by simp) ?_
  refine AllReady.cons rfl (fun K hK => ?_) AllReady.nil
  apply step_wp
  · rfl
  refine ow_load _ _ rfl g0 rfl 32 5 Try.underlying23 _ D0 (HB05.out.keep hk0 (by simp)) (by rw [HDS.out]; exact secCells) ?_
  apply hK
  clear hK K
  go_simp
  refine wpAny_ready (rs := [4]) (by kernel_rfl) (by simp) ?_
  refine AllReady.cons rfl (fun K hK => ?_) AllReady.nil
  apply step_wp
  · rfl
  refine ow_call _ _ _ (by kernel_rfl) L1.out ?_
  rintro e w6 ⟨v, rfl, hv, hS6, hk6⟩
  refine ⟨_, rfl, ?_⟩
  apply hK
  clear hK K
  have hk56 : Keep [k, t] w5 w6 := hk0.more0.trans hk6
  obtain ⟨vA, vc, rfl, -, -, -, -⟩ := hv.1
  have HV := Lib.hid hv.1
  have HK56 := Lib.hid hk56
  have HS6 := Lib.hid hS6
  clear hv hS6 hk6 hk56 hk0 L1 HB9'
  go_simp
  refine wpAny_take (i := 5) (v := ?_) rfl (by kernel_rfl) (by kernel_rfl) (by kernel_rfl) (fun _ _ _ h => h) (Or.inl ⟨by rfl, ?_⟩) ?_
  rotate_left
  · intro y; go_simp; try (with_reducible rfl)
  rotate_left
  go_simp
  refine wpAny_take (i := 6) (v := ?_) rfl (by kernel_rfl) (by kernel_rfl) (by kernel_rfl) (fun _ _ _ h => h) (Or.inl ⟨by rfl, ?_⟩) ?_
  rotate_left
  · intro y; go_simp; try (with_reducible rfl)
  rotate_left
  go_simp
  refine wpAny_take (i := 7) (v := ?_) rfl (by kernel_rfl) (by kernel_rfl) (by kernel_rfl) (fun _ _ _ h => h) (Or.inl ⟨by rfl, ?_⟩) ?_
  rotate_left
  · intro y; go_simp; try (with_reducible rfl)
  rotate_left
  go_simp
  refine wpAny_take (i := 8) (v := ?_) rfl (by kernel_rfl) (by kernel_rfl) (by kernel_rfl) (fun _ _ _ h => h) (Or.inl ⟨by rfl, ?_⟩) ?_
  rotate_left
  · intro y; go_simp; try (with_reducible rfl)
  rotate_left
  go_simp
  refine wpAny_take (i := 9) (v := ?_) rfl (by kernel_rfl) (by kernel_rfl) (by kernel_rfl) (fun _ _ _ h => h) (Or.inl ⟨by rfl, ?_⟩) ?_
  rotate_left
  · intro y; go_simp; try (with_reducible rfl)
  rotate_left
  go_simp
  refine wpAny_done (by kernel_rfl) ?_ _
  rw [HLLl.out]
  go_upto_region 6 with (refine wl_alloc_rowZ rfl _ rfl Z 32 HZI.out ?_; intro w7 hB7 hk7 hz7; have HB7 := Lib.hid hB7; have HK7 := Lib.hid hk7; clear hB7 hk7 hz7)
  obtain ⟨g12, hg12⟩ : ∃ g12, g12 = w6.heap.size := ⟨_, rfl⟩
  have HB7' := Lib.hid (show Blk w7 g12 23 Z.toList.toArray by rw [hg12]; simpa using HB7.out)
  rw [← hg12]
  have HG12 := Lib.hid (show w2.heap.size ≤ g12 ∧ w5.heap.size ≤ g12 from ⟨by have := HK25.out.size; have := HK56.out.size; omega, by have := HK56.out.size; omega⟩)
  have HRV := Lib.hid (show Rd w7 vA (LL.map (Value.int .u8)) from HV.out.rd.keep0 HK7.out)
  have hcl : (LL.map (Value.int .u8)).length = Nat.min 32 32 := by rw [List.length_map, HLLl.out]; rfl
  have HCL := Lib.hid hcl
  have hspl : (splice Z.toList 0 (LL.map (Value.int .u8))).toArray = RD := by
    rw [HRD.out]
    unfold splice
    rw [List.take_zero, List.nil_append, List.drop_of_length_le (by rw [Array.length_toList, HZS.out, List.length_map, HLLl.out]; decide), List.append_nil]
  have HSPL := Lib.hid hspl
  clear hg12 HB7 hcl hspl
  go_upto_region 7 with (with_reducible refine wl_copy _ rfl (.tmp 31) (.tmp 32) 24 24 rfl 5 Try.underlying24 u8sz g12 0 32 32 rfl vA 32 vc rfl Z.toList 23 HB7'.out (LL.map (Value.int .u8)) HCL.out HRV.out ?c1 (ints_one _ _) ?_; rotate_right; intro w8 hB8 hk8 hz8; have HB8 := Lib.hid hB8; have HK8 := Lib.hid hk8; clear hB8 hk8 hz8)
  case c1 => rw [List.length_map, HLLl.out, Array.length_toList, HZS.out]; decide
  have HB8' := Lib.hid (show Blk w8 g12 23 RD by rw [← HSPL.out]; exact HB8.out)
  have hlt := HLT.out
  have hn := HN.out
  have h12 := HG12.out
  have hw2 := HK02.out.size
  have hg1 := HG1.out
  have hk58 : Keep [k, t] w5 w8 := (HK56.out.trans0 HK7.out).trans' HK8.out (fun x hx => by right; simp at hx; omega)
  have hkw5 : Keep [k, t] w w5 := (HK02.out.more0.trans HK25.out).more (by simp)
  have HBR8 := Lib.hid (HBR5.out.keep hk58 (by simp; omega))
  have HK58 := Lib.hid hk58
  have HKW8 := Lib.hid (hkw5.trans hk58)
  have HKS8 := Lib.hid ((HS6.out.keep0 HK7.out).keep HK8.out (by simp; omega) (by simp; omega))
  clear hlt hn h12 hw2 hg1 hk58 hkw5
  go_wp2_with (first
    | (refine wl_load_row rfl _ _ rfl g12 rfl 32 5 Try.underlying23 _ RD HB8'.out (by rw [HRDs.out]; exact secCells) ?_)
    | (refine wl_store_row rfl _ _ _ rfl g1 rfl RD rfl _ _ HBR8.out (by rw [HRDs.out]; exact secCells) (by rw [HRDs.out]; exact HZS.out) HRD1.out ?_; intro w9 hB9 hk9 hz9; have HB9 := Lib.hid hB9; have HK9 := Lib.hid hk9; clear hB9 hk9 hz9))
  (try simp only [Exit.inBlock, Exit.then])
  refine bodyPost_ret (v := .agg RD) ?_ rfl ?_
  · refine results_cell_row Try.results14 _ w9 g1 23 RD (0, 0) _ ?_ HB9.out Try.underlying23 rfl ?_
    · rfl
    · rw [HRDs.out]; exact secCells
  · have hlt := HLT.out
    have hn := HN.out
    refine ⟨by rw [HRD.out], HKS8.out.keep HK9.out (by simp; omega) (by simp; omega), HKW8.out.trans' HK9.out (fun x hx => by right; simp at hx; omega)⟩
end Go.Proofs.Ytiiifcfgfmoiaaa
