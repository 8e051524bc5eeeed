/-
  The landed aes: blocks added, exchanged, mixed.
-/
import Derived.Test.YtpjkicbfdknjcaaA2
namespace Go.Proofs.Ytpjkicbfdknjcaa
open Go.RowKit

set_option maxRecDepth 100000 in
set_option maxHeartbeats 4000000 in
theorem asum_any (l k : List Int) (hl : B16 l) (hk : B16 k) (w : World) :
    Calls Try.prog 22 #[arr l, arr k] w fun e w' => e = .returned (arr (Aes.add l k 0)) ∧ Keep [] w w' := by
  obtain ⟨D, hD⟩ : ∃ D, D = (l.map (Value.int .u8)).toArray := ⟨_, rfl⟩
  obtain ⟨E, hE⟩ : ∃ E, E = (k.map (Value.int .u8)).toArray := ⟨_, rfl⟩
  obtain ⟨Z, hZ, hZs, hZi⟩ := blk16
  have HZS := Lib.hid hZs
  have HZI := Lib.hid hZi
  have HD := Lib.hid hD
  have HE := Lib.hid hE
  obtain ⟨F, hF⟩ : ∃ F, F = ((Aes.add l k 0).map (Value.int .u8)).toArray := ⟨_, rfl⟩
  have HF := Lib.hid hF
  simp only [arr_agg]
  rw [← hD, ← hE, ← hF]
  clear hZ hZs hZi hD hE hF
  go_enter Try.func22, Try.ntmps22
  obtain ⟨G, hG⟩ : ∃ G, G = w.heap.size := ⟨_, rfl⟩
  go_upto_region 1 with (first
    | (have _q := HB2; refine wl_alloc_rowZ rfl _ rfl Z 16 HZI.out ?_; intro w3 hB3 hk3 hz3; have HB3 := Lib.hid hB3; have HK3 := Lib.hid hk3; clear hB3 hk3 hz3)
    | (have _q := HB1; refine wl_box rfl _ _ rfl E rfl ?_; intro w2 hB2 hk2 hz2; have HB2 := Lib.hid hB2; have HK2 := Lib.hid hk2; clear hB2 hk2 hz2)
    | (refine wl_box rfl _ _ rfl D rfl ?_; intro w1 hB1 hk1 hz1; have HB1 := Lib.hid hB1; have HK1 := Lib.hid hk1; clear hB1 hk1 hz1))
  obtain ⟨A, hA⟩ : ∃ A, A = w1.heap.size := ⟨_, rfl⟩
  obtain ⟨C, hC⟩ : ∃ C, C = w2.heap.size := ⟨_, rfl⟩
  have HN := Lib.hid (show G ≠ A ∧ G ≠ C ∧ A ≠ C ∧ w.heap.size ≤ G ∧ w.heap.size ≤ C by
    have h1 := HB1.out.lt
    have h2 := HB2.out.lt
    have h3 := HK2.out.size
    have h4 := HK1.out.size
    omega)
  have HBG := Lib.hid (show Blk w3 G 29 ((upd (Aes.xorAt l k 0) l 0).map (Value.int .u8)).toArray by
    rw [upd_zero, hG, ← HD.out]
    exact (HB1.out.keep HK2.out (by simp)).keep HK3.out (by simp))
  have HBA := Lib.hid (show Blk w3 A 29 E by rw [hA]; exact HB2.out.keep HK3.out (by simp))
  have HBC := Lib.hid (show Blk w3 C 29 Z by rw [hC]; exact HB3.out)
  have HK := Lib.hid ((HK1.out.trans HK2.out).trans HK3.out)
  rw [← hG, ← hA, ← hC]
  clear hG hA hC HB1 HB2 HB3 HK1 HK2 HK3 _q
  go_wp2_with fail
  go_loopw [6] (fun s6 wr => ∃ j : Nat, j ≤ 16 ∧ s6 = .int .i64 j ∧ Blk wr G 29 ((upd (Aes.xorAt l k 0) l j).map (Value.int .u8)).toArray ∧ Keep [G] w3 wr) (fun s6 _ => 16 - (intOf s6).toNat)
  case atStart => exact ⟨0, by omega, rfl, HBG.out, Keep.refl _ _⟩
  case round =>
    obtain ⟨j, hj, rfl, hB, hk1⟩ := hrel
    have HB := Lib.hid hB
    have HK1 := Lib.hid hk1
    clear hB hk1
    by_cases hlt : j < 16
    · have c1 : wr.cell? ⟨G, j, none⟩ = some (.int .u8 ((nb l j : Nat) : Int)) := by
        rw [HB.out.cell]
        have h := upd_get (Aes.xorAt l k 0) l j j (Nat.le_refl _)
        have hL := upd_length (Aes.xorAt l k 0) l j (by rw [hl.1]; omega)
        rw [nb_int hl.2 j, List.getD_eq_getElem?_getD, List.getElem?_eq_getElem (by rw [hL, hl.1]; exact hlt)] at h
        simp only [List.getElem?_toArray, List.getElem?_map, List.getElem?_eq_getElem (show j < (upd (Aes.xorAt l k 0) l j).length by rw [hL, hl.1]; exact hlt), Option.map_some]
        exact congrArg some (congrArg (Value.int .u8) h)
      have c2 : wr.cell? ⟨A, j, none⟩ = some (.int .u8 ((nb k j : Nat) : Int)) := by
        rw [(HBA.out.keep HK1.out (by have := HN.out.1; simp; omega)).cell, HE.out, ← nb_int hk.2 j]
        simp [hk.1, hlt]
      have f1 := HB.out.frozen j
      have bj : (0 : Int) ≤ j ∧ (j : Int) < 16 := ⟨by omega, by omega⟩
      have hx := u8_xor_nat _ _ (nb_lt hl.2 j) (nb_lt hk.2 j)
      have HX := Lib.hid (show bits .xor .u8 ((nb l j : Nat) : Int) ((nb k j : Nat) : Int) = Aes.xorAt l k 0 j by rw [hx]; unfold Aes.xorAt; rw [Nat.zero_add])
      clear hx
      generalize nb l j = x at *
      generalize nb k j = y at *
      go_upto_region 4 with fail
      go_region_with fail
      all_goals
        go_wp2_with fail
        refine ⟨⟨j + 1, by omega, by go_num, ?_, ?_⟩, by simp [intOf]; omega⟩
        · exact (HB.out.upd (by rw [hl.1]; exact hlt) HX.out).drew
        · exact (HK1.out.setCell (.inl (by simp)) _).drew
    · obtain rfl : j = 16 := by omega
      have HB2 := HB.out
      rw [upd_full _ _ _ hl.1] at HB2
      have HBF := Lib.hid (show Blk wr G 29 F by rw [HF.out]; exact HB2)
      have HBC2 := Lib.hid (HBC.out.keep HK1.out (by have := HN.out.2.1; simp; omega))
      have HFS := Lib.hid (show F.size = 16 by rw [HF.out]; simp [Aes.add])
      have HF1 := Lib.hid (show F.all (·.oneCell') = true by rw [HF.out]; exact arr_cell _)
      clear HB2
      go_wp2_with (first
        | (refine wl_load_row rfl _ _ rfl G rfl 16 5 Try.underlying29 _ F HBF.out (by rw [HFS.out]; exact blkCells) ?_)
        | (refine wl_store_row rfl _ _ _ rfl C rfl F rfl _ _ HBC2.out (by rw [HFS.out]; exact blkCells) (by rw [HFS.out]; exact HZS.out) HF1.out ?_; intro w5 hB5 hk5 hz5))
      (try simp only [Exit.inBlock, Exit.then])
      refine bodyPost_ret (v := .agg F) ?_ rfl ?_
      · refine results_cell_row Try.results22 _ w5 C 29 F (0, 0) _ ?_ hB5 Try.underlying29 rfl ?_
        · rfl
        · rw [HFS.out]; exact blkCells
      · exact ⟨rfl, (HK.out.trans' HK1.out (fun q hq => by right; have := HN.out; simp at hq; omega)).trans' hk5 (fun q hq => by right; have := HN.out; simp at hq; omega)⟩

def zz : List Int := List.replicate 16 0
theorem z_agg {Z : Array Value} (h : Z = (List.replicate 16 (Value.int .u8 0)).toArray) : Z = (zz.map (Value.int .u8)).toArray := by rw [h]; simp [zz]
theorem sub_at (b : List Int) (j : Nat) (_h : j < 16) : Aes.subAt b j = ((Aes.box (nb b ((j + j % 4 * 4) % 16)) : Nat) : Int) := by
  unfold Aes.subAt
  rw [show 4 * ((j / 4 + j % 4) % 4) + j % 4 = (j + j % 4 * 4) % 16 by omega]
theorem AT.box {w : World} {g n : Nat} (h : AT w g n) (x : Nat) (hx : x < 256) : w.cell? ⟨g, 3 + x, none⟩ = some (.int .u8 ((Aes.box x : Nat) : Int)) := by
  rw [show w.cell? ⟨g, 3 + x, none⟩ = _ from Blk.cell h (3 + x), tcs5_get _ _ _ _ _ (by simp [boxes]; exact hx)]
  simp [boxes, hx]

set_option maxRecDepth 100000 in
set_option maxHeartbeats 4000000 in
theorem aexch_any (b : List Int) (hb : B16 b) (w : World) (g n : Nat) (hA : AT w g n) :
    Calls Try.prog 24 #[.pointer (some ⟨g, 0, none⟩), arr b] w fun e w' => e = .returned (arr (Aes.sub b)) ∧ Keep [] w w' := by
  obtain ⟨D, hD⟩ : ∃ D, D = (b.map (Value.int .u8)).toArray := ⟨_, rfl⟩
  obtain ⟨F, hF⟩ : ∃ F, F = ((Aes.sub b).map (Value.int .u8)).toArray := ⟨_, rfl⟩
  obtain ⟨Z, hZ, hZs, hZi⟩ := blk16
  have HZS := Lib.hid hZs
  have HZI := Lib.hid hZi
  have HZ := Lib.hid (z_agg hZ)
  have HD := Lib.hid hD
  have HF := Lib.hid hF
  have HA := Lib.hid hA
  simp only [arr_agg]
  rw [← hD, ← hF]
  clear hZ hZs hZi hD hF hA
  go_enter Try.func24, Try.ntmps24
  obtain ⟨G, hG⟩ : ∃ G, G = w.heap.size := ⟨_, rfl⟩
  go_upto_region 2 with (first
    | (have _q := HB2; refine wl_alloc_rowZ rfl _ rfl Z 16 HZI.out ?_; intro w3 hB3 hk3 hz3; have HB3 := Lib.hid hB3; have HK3 := Lib.hid hk3; clear hB3 hk3 hz3)
    | (have _q := HB1; refine wl_alloc_rowZ rfl _ rfl Z 16 HZI.out ?_; intro w2 hB2 hk2 hz2; have HB2 := Lib.hid hB2; have HK2 := Lib.hid hk2; clear hB2 hk2 hz2)
    | (refine wl_box rfl _ _ rfl D rfl ?_; intro w1 hB1 hk1 hz1; have HB1 := Lib.hid hB1; have HK1 := Lib.hid hk1; clear hB1 hk1 hz1))
  obtain ⟨C, hC⟩ : ∃ C, C = w1.heap.size := ⟨_, rfl⟩
  obtain ⟨M, hM⟩ : ∃ M, M = w2.heap.size := ⟨_, rfl⟩
  have HN := Lib.hid (show G ≠ M ∧ C ≠ M ∧ g ≠ M ∧ w.heap.size ≤ G ∧ w.heap.size ≤ C ∧ w.heap.size ≤ M by
    have h1 := HB1.out.lt
    have h2 := HB2.out.lt
    have h3 := HK2.out.size
    have h4 := HK1.out.size
    have h5 := HA.out.lt
    omega)
  have HBG := Lib.hid (show Blk w3 G 29 D by rw [hG]; exact (HB1.out.keep HK2.out (by simp)).keep HK3.out (by simp))
  have HBC := Lib.hid (show Blk w3 C 29 Z by rw [hC]; exact HB2.out.keep HK3.out (by simp))
  have HBM := Lib.hid (show Blk w3 M 29 ((upd (Aes.subAt b) zz 0).map (Value.int .u8)).toArray by rw [upd_zero, hM, ← HZ.out]; exact HB3.out)
  have HK := Lib.hid ((HK1.out.trans HK2.out).trans HK3.out)
  rw [← hG, ← hC, ← hM]
  clear hG hC hM HB1 HB2 HB3 HK1 HK2 HK3 _q
  go_wp2_with fail
  go_loopw [8] (fun s8 wr => ∃ j : Nat, j ≤ 16 ∧ s8 = .int .i64 j ∧ Blk wr M 29 ((upd (Aes.subAt b) zz j).map (Value.int .u8)).toArray ∧ Keep [M] w3 wr) (fun s8 _ => 16 - (intOf s8).toNat)
  case atStart => exact ⟨0, by omega, rfl, HBM.out, Keep.refl _ _⟩
  case round =>
    obtain ⟨j, hj, rfl, hB, hk1⟩ := hrel
    have HB := Lib.hid hB
    have HK1 := Lib.hid hk1
    clear hB hk1
    by_cases hlt : j < 16
    · obtain ⟨i, hi⟩ : ∃ i, i = (j + j % 4 * 4) % 16 := ⟨_, rfl⟩
      have hi2 : i < 16 := by omega
      have hlb := nb_lt hb.2 i
      have c1 : wr.cell? ⟨G, i, none⟩ = some (.int .u8 ((nb b i : Nat) : Int)) := by
        rw [(HBG.out.keep HK1.out (by have := HN.out.1; simp; omega)).cell, HD.out, ← nb_int hb.2 i]
        simp [hb.1, hi2]
      have c2 : wr.cell? ⟨g, 3 + nb b i, none⟩ = some (.int .u8 ((Aes.box (nb b i) : Nat) : Int)) :=
        AT.box ((HA.out.keep HK.out (by simp)).keep HK1.out (by have := HN.out.2.2.1; simp; omega)) _ hlb
      have c3 : wr.cell? ⟨M, j, none⟩ = some (.int .u8 0) := by rw [HB.out.cell]; exact upd_put _ _ _ (Nat.le_refl _) hlt
      have f3 := HB.out.frozen j
      have bj : (0 : Int) ≤ j ∧ (j : Int) < 16 := ⟨by omega, by omega⟩
      have bi : (0 : Int) ≤ i ∧ (i : Int) < 16 := ⟨by omega, by omega⟩
      have e1 : (j : Int).tmod 4 = ((j % 4 : Nat) : Int) := by rw [Int.tmod_eq_emod_of_nonneg (by omega)]; omega
      have hr : j % 4 < 4 := Nat.mod_lt _ (by decide)
      have e2 : ((j : Int) + ((j % 4 : Nat) : Int) * 4).tmod 16 = (i : Int) := by rw [Int.tmod_eq_emod_of_nonneg (by omega)]; omega
      have HSB := Lib.hid (show Aes.subAt b j = ((Aes.box (nb b i) : Nat) : Int) by rw [sub_at b j hlt, hi])
      clear hi
      have hxb := Aes.box_lt (nb b i)
      generalize nb b i = x at *
      generalize Aes.box x = y at *
      generalize j % 4 = r at *
      have w1 : IntKind.i64.wrap ((r : Int) * 4) = (r : Int) * 4 := IntWalk.i64_in _ ⟨by omega, by omega⟩
      have w2 : IntKind.i64.wrap ((j : Int) + (r : Int) * 4) = (j : Int) + (r : Int) * 4 := IntWalk.i64_in _ ⟨by omega, by omega⟩
      have b8 : (0 : Int) ≤ x ∧ (x : Int) < 256 := ⟨by omega, by omega⟩
      go_upto_region 6 with fail
      go_region_with fail
      all_goals
        go_wp2_with fail
        refine ⟨⟨j + 1, by omega, by go_num, ?_, ?_⟩, by simp [intOf]; omega⟩
        · exact (HB.out.upd (by simp [zz]; exact hlt) HSB.out.symm).drew
        · exact (HK1.out.setCell (.inl (by simp)) _).drew
    · obtain rfl : j = 16 := by omega
      have HB2 := HB.out
      rw [upd_full _ _ _ (by simp [zz])] at HB2
      have HBF := Lib.hid (show Blk wr M 29 F by rw [HF.out]; exact HB2)
      have HBC2 := Lib.hid (HBC.out.keep HK1.out (by have := HN.out.2.1; simp; omega))
      have HFS := Lib.hid (show F.size = 16 by rw [HF.out]; simp [Aes.sub])
      have HF1 := Lib.hid (show F.all (·.oneCell') = true by rw [HF.out]; exact arr_cell _)
      clear HB2
      go_wp2_with (first
        | (refine wl_load_row rfl _ _ rfl M rfl 16 5 Try.underlying29 _ F HBF.out (by rw [HFS.out]; exact blkCells) ?_)
        | (refine wl_store_row rfl _ _ _ rfl C rfl F rfl _ _ HBC2.out (by rw [HFS.out]; exact blkCells) (by rw [HFS.out]; exact HZS.out) HF1.out ?_; intro w5 hB5 hk5 hz5))
      (try simp only [Exit.inBlock, Exit.then])
      refine bodyPost_ret (v := .agg F) ?_ rfl ?_
      · refine results_cell_row Try.results24 _ w5 C 29 F (0, 0) _ ?_ hB5 Try.underlying29 rfl ?_
        · rfl
        · rw [HFS.out]; exact blkCells
      · exact ⟨rfl, (HK.out.trans' HK1.out (fun q hq => by right; have := HN.out; simp at hq; omega)).trans' hk5 (fun q hq => by right; have := HN.out; simp at hq; omega)⟩
end Go.Proofs.Ytpjkicbfdknjcaa
