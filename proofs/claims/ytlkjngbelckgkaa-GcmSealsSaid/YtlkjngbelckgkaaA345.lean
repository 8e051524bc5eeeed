/-
  The landed aes: blocks added, exchanged, mixed.
  The landed aes: a block's columns mixed.
  The landed aes: the round key that follows another one.
-/
import Derived.Test.YtlkjngbelckgkaaA2
namespace Go.Proofs.Ytlkjngbelckgkaa
open Go.RowKit

set_option maxRecDepth 100000 in
set_option maxHeartbeats 4000000 in
theorem asum_any (l k : List Int) (hl : B16 l) (hk : B16 k) (w : World) :
    Calls Try.prog 26 #[arr l, arr k] w fun e w' => e = .returned (arr (Aes.add l k 0)) ∧ Keep [] w w' := by
  obtain ⟨D, hD⟩ : ∃ D, D = (l.map (Value.int .u8)).toArray := ⟨_, rfl⟩
  obtain ⟨E, hE⟩ : ∃ E, E = (k.map (Value.int .u8)).toArray := ⟨_, rfl⟩
  obtain ⟨Z, hZ, hZs, hZi⟩ := blk16
  have HZS := Lib.hid hZs
  have HZI := Lib.hid hZi
  have HD := Lib.hid hD
  have HE := Lib.hid hE
  obtain ⟨F, hF⟩ : ∃ F, F = ((Aes.add l k 0).map (Value.int .u8)).toArray := ⟨_, rfl⟩
  have HF := Lib.hid hF
  simp only [arr_agg]
  rw [← hD, ← hE, ← hF]
  clear hZ hZs hZi hD hE hF
  go_enter Try.func26, Try.ntmps26
  obtain ⟨G, hG⟩ : ∃ G, G = w.heap.size := ⟨_, rfl⟩
  go_upto_region 1 with (first
    | (have _q := HB2; refine wl_alloc_rowZ rfl _ rfl Z 16 HZI.out ?_; intro w3 hB3 hk3 hz3; have HB3 := Lib.hid hB3; have HK3 := Lib.hid hk3; clear hB3 hk3 hz3)
    | (have _q := HB1; refine wl_box rfl _ _ rfl E rfl ?_; intro w2 hB2 hk2 hz2; have HB2 := Lib.hid hB2; have HK2 := Lib.hid hk2; clear hB2 hk2 hz2)
    | (refine wl_box rfl _ _ rfl D rfl ?_; intro w1 hB1 hk1 hz1; have HB1 := Lib.hid hB1; have HK1 := Lib.hid hk1; clear hB1 hk1 hz1))
  obtain ⟨A, hA⟩ : ∃ A, A = w1.heap.size := ⟨_, rfl⟩
  obtain ⟨C, hC⟩ : ∃ C, C = w2.heap.size := ⟨_, rfl⟩
  have HN := Lib.hid (show G ≠ A ∧ G ≠ C ∧ A ≠ C ∧ w.heap.size ≤ G ∧ w.heap.size ≤ C by
    have h1 := HB1.out.lt
    have h2 := HB2.out.lt
    have h3 := HK2.out.size
    have h4 := HK1.out.size
    omega)
  have HBG := Lib.hid (show Blk w3 G 23 ((upd (Aes.xorAt l k 0) l 0).map (Value.int .u8)).toArray by
    rw [upd_zero, hG, ← HD.out]
    exact (HB1.out.keep HK2.out (by simp)).keep HK3.out (by simp))
  have HBA := Lib.hid (show Blk w3 A 23 E by rw [hA]; exact HB2.out.keep HK3.out (by simp))
  have HBC := Lib.hid (show Blk w3 C 23 Z by rw [hC]; exact HB3.out)
  have HK := Lib.hid ((HK1.out.trans HK2.out).trans HK3.out)
  rw [← hG, ← hA, ← hC]
  clear hG hA hC HB1 HB2 HB3 HK1 HK2 HK3 _q
  go_wp2_with fail
  go_loopw [6] (fun s6 wr => ∃ j : Nat, j ≤ 16 ∧ s6 = .int .i64 j ∧ Blk wr G 23 ((upd (Aes.xorAt l k 0) l j).map (Value.int .u8)).toArray ∧ Keep [G] w3 wr) (fun s6 _ => 16 - (intOf s6).toNat)
  case atStart => exact ⟨0, by omega, rfl, HBG.out, Keep.refl _ _⟩
  case round =>
    obtain ⟨j, hj, rfl, hB, hk1⟩ := hrel
    have HB := Lib.hid hB
    have HK1 := Lib.hid hk1
    clear hB hk1
    by_cases hlt : j < 16
    · have c1 : wr.cell? ⟨G, j, none⟩ = some (.int .u8 ((nb l j : Nat) : Int)) := by
        rw [HB.out.cell]
        have h := upd_get (Aes.xorAt l k 0) l j j (Nat.le_refl _)
        have hL := upd_length (Aes.xorAt l k 0) l j (by rw [hl.1]; omega)
        rw [nb_int hl.2 j, List.getD_eq_getElem?_getD, List.getElem?_eq_getElem (by rw [hL, hl.1]; exact hlt)] at h
        simp only [List.getElem?_toArray, List.getElem?_map, List.getElem?_eq_getElem (show j < (upd (Aes.xorAt l k 0) l j).length by rw [hL, hl.1]; exact hlt), Option.map_some]
        exact congrArg some (congrArg (Value.int .u8) h)
      have c2 : wr.cell? ⟨A, j, none⟩ = some (.int .u8 ((nb k j : Nat) : Int)) := by
        rw [(HBA.out.keep HK1.out (by have := HN.out.1; simp; omega)).cell, HE.out, ← nb_int hk.2 j]
        simp [hk.1, hlt]
      have f1 := HB.out.frozen j
      have bj : (0 : Int) ≤ j ∧ (j : Int) < 16 := ⟨by omega, by omega⟩
      have hx := u8_xor_nat _ _ (nb_lt hl.2 j) (nb_lt hk.2 j)
      have HX := Lib.hid (show bits .xor .u8 ((nb l j : Nat) : Int) ((nb k j : Nat) : Int) = Aes.xorAt l k 0 j by rw [hx]; unfold Aes.xorAt; rw [Nat.zero_add])
      clear hx
      generalize nb l j = x at *
      generalize nb k j = y at *
      go_upto_region 4 with fail
      go_region_with fail
      all_goals
        go_wp2_with fail
        refine ⟨⟨j + 1, by omega, by go_num, ?_, ?_⟩, by simp [intOf]; omega⟩
        · exact (HB.out.upd (by rw [hl.1]; exact hlt) HX.out).drew
        · exact (HK1.out.setCell (.inl (by simp)) _).drew
    · obtain rfl : j = 16 := by omega
      have HB2 := HB.out
      rw [upd_full _ _ _ hl.1] at HB2
      have HBF := Lib.hid (show Blk wr G 23 F by rw [HF.out]; exact HB2)
      have HBC2 := Lib.hid (HBC.out.keep HK1.out (by have := HN.out.2.1; simp; omega))
      have HFS := Lib.hid (show F.size = 16 by rw [HF.out]; simp [Aes.add])
      have HF1 := Lib.hid (show F.all (·.oneCell') = true by rw [HF.out]; exact arr_cell _)
      clear HB2
      go_wp2_with (first
        | (refine wl_load_row rfl _ _ rfl G rfl 16 5 Try.underlying23 _ F HBF.out (by rw [HFS.out]; exact blkCells) ?_)
        | (refine wl_store_row rfl _ _ _ rfl C rfl F rfl _ _ HBC2.out (by rw [HFS.out]; exact blkCells) (by rw [HFS.out]; exact HZS.out) HF1.out ?_; intro w5 hB5 hk5 hz5))
      (try simp only [Exit.inBlock, Exit.then])
      refine bodyPost_ret (v := .agg F) ?_ rfl ?_
      · refine results_cell_row Try.results26 _ w5 C 23 F (0, 0) _ ?_ hB5 Try.underlying23 rfl ?_
        · rfl
        · rw [HFS.out]; exact blkCells
      · exact ⟨rfl, (HK.out.trans' HK1.out (fun q hq => by right; have := HN.out; simp at hq; omega)).trans' hk5 (fun q hq => by right; have := HN.out; simp at hq; omega)⟩

def zz : List Int := List.replicate 16 0
theorem z_agg {Z : Array Value} (h : Z = (List.replicate 16 (Value.int .u8 0)).toArray) : Z = (zz.map (Value.int .u8)).toArray := by rw [h]; simp [zz]
theorem sub_at (b : List Int) (j : Nat) (_h : j < 16) : Aes.subAt b j = ((Aes.box (nb b ((j + j % 4 * 4) % 16)) : Nat) : Int) := by
  unfold Aes.subAt
  rw [show 4 * ((j / 4 + j % 4) % 4) + j % 4 = (j + j % 4 * 4) % 16 by omega]
theorem AT.box {w : World} {g n : Nat} (h : AT w g n) (x : Nat) (hx : x < 256) : w.cell? ⟨g, 3 + x, none⟩ = some (.int .u8 ((Aes.box x : Nat) : Int)) := by
  rw [show w.cell? ⟨g, 3 + x, none⟩ = _ from Blk.cell h (3 + x), tcs5_get _ _ _ _ _ (by simp [boxes]; exact hx)]
  simp [boxes, hx]

set_option maxRecDepth 100000 in
set_option maxHeartbeats 4000000 in
theorem aexch_any (b : List Int) (hb : B16 b) (w : World) (g n : Nat) (hA : AT w g n) :
    Calls Try.prog 28 #[.pointer (some ⟨g, 0, none⟩), arr b] w fun e w' => e = .returned (arr (Aes.sub b)) ∧ Keep [] w w' := by
  obtain ⟨D, hD⟩ : ∃ D, D = (b.map (Value.int .u8)).toArray := ⟨_, rfl⟩
  obtain ⟨F, hF⟩ : ∃ F, F = ((Aes.sub b).map (Value.int .u8)).toArray := ⟨_, rfl⟩
  obtain ⟨Z, hZ, hZs, hZi⟩ := blk16
  have HZS := Lib.hid hZs
  have HZI := Lib.hid hZi
  have HZ := Lib.hid (z_agg hZ)
  have HD := Lib.hid hD
  have HF := Lib.hid hF
  have HA := Lib.hid hA
  simp only [arr_agg]
  rw [← hD, ← hF]
  clear hZ hZs hZi hD hF hA
  go_enter Try.func28, Try.ntmps28
  obtain ⟨G, hG⟩ : ∃ G, G = w.heap.size := ⟨_, rfl⟩
  go_upto_region 2 with (first
    | (have _q := HB2; refine wl_alloc_rowZ rfl _ rfl Z 16 HZI.out ?_; intro w3 hB3 hk3 hz3; have HB3 := Lib.hid hB3; have HK3 := Lib.hid hk3; clear hB3 hk3 hz3)
    | (have _q := HB1; refine wl_alloc_rowZ rfl _ rfl Z 16 HZI.out ?_; intro w2 hB2 hk2 hz2; have HB2 := Lib.hid hB2; have HK2 := Lib.hid hk2; clear hB2 hk2 hz2)
    | (refine wl_box rfl _ _ rfl D rfl ?_; intro w1 hB1 hk1 hz1; have HB1 := Lib.hid hB1; have HK1 := Lib.hid hk1; clear hB1 hk1 hz1))
  obtain ⟨C, hC⟩ : ∃ C, C = w1.heap.size := ⟨_, rfl⟩
  obtain ⟨M, hM⟩ : ∃ M, M = w2.heap.size := ⟨_, rfl⟩
  have HN := Lib.hid (show G ≠ M ∧ C ≠ M ∧ g ≠ M ∧ w.heap.size ≤ G ∧ w.heap.size ≤ C ∧ w.heap.size ≤ M by
    have h1 := HB1.out.lt
    have h2 := HB2.out.lt
    have h3 := HK2.out.size
    have h4 := HK1.out.size
    have h5 := HA.out.lt
    omega)
  have HBG := Lib.hid (show Blk w3 G 23 D by rw [hG]; exact (HB1.out.keep HK2.out (by simp)).keep HK3.out (by simp))
  have HBC := Lib.hid (show Blk w3 C 23 Z by rw [hC]; exact HB2.out.keep HK3.out (by simp))
  have HBM := Lib.hid (show Blk w3 M 23 ((upd (Aes.subAt b) zz 0).map (Value.int .u8)).toArray by rw [upd_zero, hM, ← HZ.out]; exact HB3.out)
  have HK := Lib.hid ((HK1.out.trans HK2.out).trans HK3.out)
  rw [← hG, ← hC, ← hM]
  clear hG hC hM HB1 HB2 HB3 HK1 HK2 HK3 _q
  go_wp2_with fail
  go_loopw [8] (fun s8 wr => ∃ j : Nat, j ≤ 16 ∧ s8 = .int .i64 j ∧ Blk wr M 23 ((upd (Aes.subAt b) zz j).map (Value.int .u8)).toArray ∧ Keep [M] w3 wr) (fun s8 _ => 16 - (intOf s8).toNat)
  case atStart => exact ⟨0, by omega, rfl, HBM.out, Keep.refl _ _⟩
  case round =>
    obtain ⟨j, hj, rfl, hB, hk1⟩ := hrel
    have HB := Lib.hid hB
    have HK1 := Lib.hid hk1
    clear hB hk1
    by_cases hlt : j < 16
    · obtain ⟨i, hi⟩ : ∃ i, i = (j + j % 4 * 4) % 16 := ⟨_, rfl⟩
      have hi2 : i < 16 := by omega
      have hlb := nb_lt hb.2 i
      have c1 : wr.cell? ⟨G, i, none⟩ = some (.int .u8 ((nb b i : Nat) : Int)) := by
        rw [(HBG.out.keep HK1.out (by have := HN.out.1; simp; omega)).cell, HD.out, ← nb_int hb.2 i]
        simp [hb.1, hi2]
      have c2 : wr.cell? ⟨g, 3 + nb b i, none⟩ = some (.int .u8 ((Aes.box (nb b i) : Nat) : Int)) :=
        AT.box ((HA.out.keep HK.out (by simp)).keep HK1.out (by have := HN.out.2.2.1; simp; omega)) _ hlb
      have c3 : wr.cell? ⟨M, j, none⟩ = some (.int .u8 0) := by rw [HB.out.cell]; exact upd_put _ _ _ (Nat.le_refl _) hlt
      have f3 := HB.out.frozen j
      have bj : (0 : Int) ≤ j ∧ (j : Int) < 16 := ⟨by omega, by omega⟩
      have bi : (0 : Int) ≤ i ∧ (i : Int) < 16 := ⟨by omega, by omega⟩
      have e1 : (j : Int).tmod 4 = ((j % 4 : Nat) : Int) := by rw [Int.tmod_eq_emod_of_nonneg (by omega)]; omega
      have hr : j % 4 < 4 := Nat.mod_lt _ (by decide)
      have e2 : ((j : Int) + ((j % 4 : Nat) : Int) * 4).tmod 16 = (i : Int) := by rw [Int.tmod_eq_emod_of_nonneg (by omega)]; omega
      have HSB := Lib.hid (show Aes.subAt b j = ((Aes.box (nb b i) : Nat) : Int) by rw [sub_at b j hlt, hi])
      clear hi
      have hxb := Aes.box_lt (nb b i)
      generalize nb b i = x at *
      generalize Aes.box x = y at *
      generalize j % 4 = r at *
      have w1 : IntKind.i64.wrap ((r : Int) * 4) = (r : Int) * 4 := IntWalk.i64_in _ ⟨by omega, by omega⟩
      have w2 : IntKind.i64.wrap ((j : Int) + (r : Int) * 4) = (j : Int) + (r : Int) * 4 := IntWalk.i64_in _ ⟨by omega, by omega⟩
      have b8 : (0 : Int) ≤ x ∧ (x : Int) < 256 := ⟨by omega, by omega⟩
      go_upto_region 6 with fail
      go_region_with fail
      all_goals
        go_wp2_with fail
        refine ⟨⟨j + 1, by omega, by go_num, ?_, ?_⟩, by simp [intOf]; omega⟩
        · exact (HB.out.upd (by simp [zz]; exact hlt) HSB.out.symm).drew
        · exact (HK1.out.setCell (.inl (by simp)) _).drew
    · obtain rfl : j = 16 := by omega
      have HB2 := HB.out
      rw [upd_full _ _ _ (by simp [zz])] at HB2
      have HBF := Lib.hid (show Blk wr M 23 F by rw [HF.out]; exact HB2)
      have HBC2 := Lib.hid (HBC.out.keep HK1.out (by have := HN.out.2.1; simp; omega))
      have HFS := Lib.hid (show F.size = 16 by rw [HF.out]; simp [Aes.sub])
      have HF1 := Lib.hid (show F.all (·.oneCell') = true by rw [HF.out]; exact arr_cell _)
      clear HB2
      go_wp2_with (first
        | (refine wl_load_row rfl _ _ rfl M rfl 16 5 Try.underlying23 _ F HBF.out (by rw [HFS.out]; exact blkCells) ?_)
        | (refine wl_store_row rfl _ _ _ rfl C rfl F rfl _ _ HBC2.out (by rw [HFS.out]; exact blkCells) (by rw [HFS.out]; exact HZS.out) HF1.out ?_; intro w5 hB5 hk5 hz5))
      (try simp only [Exit.inBlock, Exit.then])
      refine bodyPost_ret (v := .agg F) ?_ rfl ?_
      · refine results_cell_row Try.results28 _ w5 C 23 F (0, 0) _ ?_ hB5 Try.underlying23 rfl ?_
        · rfl
        · rw [HFS.out]; exact blkCells
      · exact ⟨rfl, (HK.out.trans' HK1.out (fun q hq => by right; have := HN.out; simp at hq; omega)).trans' hk5 (fun q hq => by right; have := HN.out; simp at hq; omega)⟩

namespace Aes
theorem three (b : Nat) (hb : b < 256) : tm 3 b = tm 2 b ^^^ b := by
  have h := tm_xor' 2 1 b
  rw [tm_one b hb] at h
  exact h
/-- As the landed one mixes. -/
theorem mix_landed (a b c d : Nat) (hb : b < 256) (hc : c < 256) (hd : d < 256) :
    bits .xor .u8 (bits .xor .u8 (bits .xor .u8 ((tm 2 a : Nat) : Int) ((tm 2 b : Nat) : Int)) (b : Int)) (bits .xor .u8 (c : Int) (d : Int)) = ((mixN a b c d : Nat) : Int) := by
  have h1 := Nat.xor_lt_two_pow (n := 8) (tm_lt 2 a) (tm_lt 2 b)
  have h2 := Nat.xor_lt_two_pow (n := 8) h1 hb
  have h3 := Nat.xor_lt_two_pow (n := 8) hc hd
  rw [u8_xor_nat _ _ (tm_lt _ _) (tm_lt _ _), u8_xor_nat _ _ h1 hb, u8_xor_nat _ _ hc hd, u8_xor_nat _ _ h2 h3]
  unfold mixN
  rw [three b hb]
  congr 1
  ac_rfl
end Aes

set_option maxRecDepth 100000 in
set_option maxHeartbeats 8000000 in
theorem amixed_any (t : List Int) (ht : B16 t) (w : World) :
    Calls Try.prog 27 #[arr t] w fun e w' => e = .returned (arr (Aes.mixed t)) ∧ Keep [] w w' := by
  obtain ⟨D, hD⟩ : ∃ D, D = (t.map (Value.int .u8)).toArray := ⟨_, rfl⟩
  obtain ⟨F, hF⟩ : ∃ F, F = ((Aes.mixed t).map (Value.int .u8)).toArray := ⟨_, rfl⟩
  obtain ⟨Z, hZ, hZs, hZi⟩ := blk16
  have HZS := Lib.hid hZs
  have HZI := Lib.hid hZi
  have HZ := Lib.hid (z_agg hZ)
  have HD := Lib.hid hD
  have HF := Lib.hid hF
  simp only [arr_agg]
  rw [← hD, ← hF]
  clear hZ hZs hZi hD hF
  go_enter Try.func27, Try.ntmps27
  obtain ⟨G, hG⟩ : ∃ G, G = w.heap.size := ⟨_, rfl⟩
  go_upto_region 2 with (first
    | (have _q := HB2; refine wl_alloc_rowZ rfl _ rfl Z 16 HZI.out ?_; intro w3 hB3 hk3 hz3; have HB3 := Lib.hid hB3; have HK3 := Lib.hid hk3; clear hB3 hk3 hz3)
    | (have _q := HB1; refine wl_alloc_rowZ rfl _ rfl Z 16 HZI.out ?_; intro w2 hB2 hk2 hz2; have HB2 := Lib.hid hB2; have HK2 := Lib.hid hk2; clear hB2 hk2 hz2)
    | (refine wl_box rfl _ _ rfl D rfl ?_; intro w1 hB1 hk1 hz1; have HB1 := Lib.hid hB1; have HK1 := Lib.hid hk1; clear hB1 hk1 hz1))
  obtain ⟨C, hC⟩ : ∃ C, C = w1.heap.size := ⟨_, rfl⟩
  obtain ⟨M, hM⟩ : ∃ M, M = w2.heap.size := ⟨_, rfl⟩
  have HN := Lib.hid (show G ≠ M ∧ C ≠ M ∧ w.heap.size ≤ G ∧ w.heap.size ≤ C ∧ w.heap.size ≤ M by
    have h1 := HB1.out.lt
    have h2 := HB2.out.lt
    have h3 := HK2.out.size
    have h4 := HK1.out.size
    omega)
  have HBG := Lib.hid (show Blk w3 G 23 D by rw [hG]; exact (HB1.out.keep HK2.out (by simp)).keep HK3.out (by simp))
  have HBC := Lib.hid (show Blk w3 C 23 Z by rw [hC]; exact HB2.out.keep HK3.out (by simp))
  have HBM := Lib.hid (show Blk w3 M 23 ((upd (Aes.mixAt t) zz 0).map (Value.int .u8)).toArray by rw [upd_zero, hM, ← HZ.out]; exact HB3.out)
  have HK := Lib.hid ((HK1.out.trans HK2.out).trans HK3.out)
  rw [← hG, ← hC, ← hM]
  clear hG hC hM HB1 HB2 HB3 HK1 HK2 HK3 _q
  go_wp2_with fail
  go_loopw [4] (fun s4 wr => ∃ c : Nat, c ≤ 16 ∧ c % 4 = 0 ∧ s4 = .int .i64 c ∧ Blk wr M 23 ((upd (Aes.mixAt t) zz c).map (Value.int .u8)).toArray ∧ Keep [M] w3 wr) (fun s4 _ => 16 - (intOf s4).toNat)
  case atStart => exact ⟨0, by omega, rfl, rfl, HBM.out, Keep.refl _ _⟩
  case round =>
    obtain ⟨c, hc, hc4, rfl, hB, hk1⟩ := hrel
    have HB := Lib.hid hB
    have HK1 := Lib.hid hk1
    clear hB hk1
    by_cases hlt : c < 16
    · go_upto_block 2 with fail
      go_wp2_with fail
      rw [show decide ((c : Int) < 16) = true from decide_eq_true (by omega)]
      go_loopw [12] (fun s12 wi => ∃ r : Nat, r ≤ 4 ∧ s12 = .int .i64 r ∧ Blk wi M 23 ((upd (Aes.mixAt t) zz (c + r)).map (Value.int .u8)).toArray ∧ Keep [M] w3 wi) (fun s12 _ => 4 - (intOf s12).toNat)
      case atStart => exact ⟨0, by omega, rfl, HB.out, HK1.out⟩
      case round =>
        obtain ⟨r, hr, rfl, hB, hk1⟩ := hrel
        have HBi := Lib.hid hB
        have HKi := Lib.hid hk1
        clear hB hk1
        by_cases hlt2 : r < 4
        · have hcc : ∀ j, j < 16 → wr.cell? ⟨G, j, none⟩ = some (.int .u8 ((nb t j : Nat) : Int)) := fun j hj => by
            rw [(HBG.out.keep HKi.out (by have := HN.out.1; simp; omega)).cell, HD.out, ← nb_int ht.2 j]
            simp [ht.1, hj]
          obtain ⟨j1, hj1⟩ : ∃ j1, j1 = (r + 1) % 4 := ⟨_, rfl⟩
          obtain ⟨j2, hj2⟩ : ∃ j2, j2 = (r + 2) % 4 := ⟨_, rfl⟩
          obtain ⟨j3, hj3⟩ : ∃ j3, j3 = (r + 3) % 4 := ⟨_, rfl⟩
          have hm : Aes.mixAt t (c + r) = ((Aes.mixN (nb t (c + r)) (nb t (c + j1)) (nb t (c + j2)) (nb t (c + j3)) : Nat) : Int) := by
            unfold Aes.mixAt
            rw [show (c + r) / 4 * 4 = c by omega, show (c + r) % 4 = r by omega, hj1, hj2, hj3]
          have HM := Lib.hid hm
          have n0 := nb_lt ht.2 (c + r)
          have n1 := nb_lt ht.2 (c + j1)
          have n2 := nb_lt ht.2 (c + j2)
          have n3 := nb_lt ht.2 (c + j3)
          have c0 := hcc (c + r) (by omega)
          have c1 := hcc (c + j1) (by omega)
          have c2 := hcc (c + j2) (by omega)
          have c3 := hcc (c + j3) (by omega)
          have fr1 := HBi.out.frozen (c + r)
          have cM : wr.cell? ⟨M, c + r, none⟩ = some (.int .u8 0) := by
            rw [HBi.out.cell]
            exact upd_put _ _ _ (Nat.le_refl _) (by omega)
          have hr1 : IntKind.i64.wrap ((r : Int) + 1) = (r : Int) + 1 := IntWalk.i64_in _ ⟨by omega, by omega⟩
          have hr2 : IntKind.i64.wrap ((r : Int) + 2) = (r : Int) + 2 := IntWalk.i64_in _ ⟨by omega, by omega⟩
          have hr3 : IntKind.i64.wrap ((r : Int) + 3) = (r : Int) + 3 := IntWalk.i64_in _ ⟨by omega, by omega⟩
          have d1 : ((r : Int) + 1).tmod 4 = (j1 : Int) := by rw [Int.tmod_eq_emod_of_nonneg (by omega)]; omega
          have d2 : ((r : Int) + 2).tmod 4 = (j2 : Int) := by rw [Int.tmod_eq_emod_of_nonneg (by omega)]; omega
          have d3 : ((r : Int) + 3).tmod 4 = (j3 : Int) := by rw [Int.tmod_eq_emod_of_nonneg (by omega)]; omega
          have q1 : j1 < 4 := by omega
          have q2 : j2 < 4 := by omega
          have q3 : j3 < 4 := by omega
          have hc12 : c ≤ 12 := by omega
          clear hcc hm hj1 hj2 hj3
          have e0 : ((c : Int) + (r : Int)).toNat = c + r := by omega
          have e1 : ((c : Int) + (j1 : Int)).toNat = c + j1 := by omega
          have e2 : ((c : Int) + (j2 : Int)).toNat = c + j2 := by omega
          have e3 : ((c : Int) + (j3 : Int)).toNat = c + j3 := by omega
          have b0 : (0 : Int) ≤ (c : Int) + r ∧ (c : Int) + r < 16 := ⟨by omega, by omega⟩
          have b1 : (0 : Int) ≤ (c : Int) + j1 ∧ (c : Int) + j1 < 16 := ⟨by omega, by omega⟩
          have b2 : (0 : Int) ≤ (c : Int) + j2 ∧ (c : Int) + j2 < 16 := ⟨by omega, by omega⟩
          have b3 : (0 : Int) ≤ (c : Int) + j3 ∧ (c : Int) + j3 < 16 := ⟨by omega, by omega⟩
          have w0 : IntKind.i64.wrap ((c : Int) + r) = (c : Int) + r := IntWalk.i64_in _ ⟨by omega, by omega⟩
          have w1 : IntKind.i64.wrap ((c : Int) + j1) = (c : Int) + j1 := IntWalk.i64_in _ ⟨by omega, by omega⟩
          have w2 : IntKind.i64.wrap ((c : Int) + j2) = (c : Int) + j2 := IntWalk.i64_in _ ⟨by omega, by omega⟩
          have w3 : IntKind.i64.wrap ((c : Int) + j3) = (c : Int) + j3 := IntWalk.i64_in _ ⟨by omega, by omega⟩
          have HX := Lib.hid (Aes.mix_landed (nb t (c + r)) (nb t (c + j1)) (nb t (c + j2)) (nb t (c + j3)) n1 n2 n3)
          generalize nb t (c + r) = m0 at *
          generalize nb t (c + j1) = m1 at *
          generalize nb t (c + j2) = m2 at *
          generalize nb t (c + j3) = m3 at *
          have T1 := fun w => Lib.hid (double_any m0 w n0)
          have T2 := fun w => Lib.hid (double_any m1 w n1)
          go_upto_region 9 with fail
          go_region_with fail
          all_goals
            go_wp2_with (first
              | (go_at_call 42; with_reducible refine (T1 _).out.mono ?_; rintro e w' ⟨rfl, rfl⟩)
              | (go_at_call 42; with_reducible refine (T2 _).out.mono ?_; rintro e w' ⟨rfl, rfl⟩))
            refine ⟨⟨r + 1, by omega, by go_num, (HBi.out.upd (by simp [zz]; omega) (HX.out.trans HM.out.symm)).drew, (HKi.out.setCell (.inl (List.mem_singleton.2 rfl)) _).drew⟩, by simp [intOf]; omega⟩
        · obtain rfl : r = 4 := by omega
          go_wp2_with fail
          exact ⟨⟨c + 4, by omega, by omega, by go_num, HBi.out, HKi.out⟩, by simp only [intOf]; omega⟩
    · obtain rfl : c = 16 := by omega
      have HB2 := HB.out
      rw [upd_full _ _ _ (by simp [zz])] at HB2
      have HBF := Lib.hid (show Blk wr M 23 F by rw [HF.out]; exact HB2)
      have HBC2 := Lib.hid (HBC.out.keep HK1.out (by have := HN.out.2.1; simp; omega))
      have HFS := Lib.hid (show F.size = 16 by rw [HF.out]; simp [Aes.mixed])
      have HF1 := Lib.hid (show F.all (·.oneCell') = true by rw [HF.out]; exact arr_cell _)
      clear HB2
      go_wp2_with (first
        | (refine wl_load_row rfl _ _ rfl M rfl 16 5 Try.underlying23 _ F HBF.out (by rw [HFS.out]; exact blkCells) ?_)
        | (refine wl_store_row rfl _ _ _ rfl C rfl F rfl _ _ HBC2.out (by rw [HFS.out]; exact blkCells) (by rw [HFS.out]; exact HZS.out) HF1.out ?_; intro w5 hB5 hk5 hz5))
      (try simp only [Exit.inBlock, Exit.then])
      refine bodyPost_ret (v := .agg F) ?_ rfl ?_
      · refine results_cell_row Try.results27 _ w5 C 23 F (0, 0) _ ?_ hB5 Try.underlying23 rfl ?_
        · rfl
        · rw [HFS.out]; exact blkCells
      · exact ⟨rfl, (HK.out.trans' HK1.out (fun q hq => by right; have := HN.out; simp at hq; omega)).trans' hk5 (fun q hq => by right; have := HN.out; simp at hq; omega)⟩

theorem upd_at (f : Nat → Int) (s : List Int) (n j : Nat) (h : j < n) : ((upd f s n).map (Value.int .u8)).toArray[j]? = some (.int .u8 (f j)) := by
  unfold upd
  simp only [List.getElem?_toArray, List.getElem?_map]
  rw [List.getElem?_append_left (by simpa using h)]
  simp [h]

namespace Aes
/-- The round key that follows l: row r, so many columns on. -/
def fo (l : List Int) (p r : Nat) : Nat → Nat
  | 0 => (nb l r ^^^ box (nb l (12 + (r + 1) % 4))) ^^^ (if r = 0 then p else 0)
  | c + 1 => nb l (4 * (c + 1) + r) ^^^ fo l p r c
def foAt (l : List Int) (p i : Nat) : Int := ((fo l p (i % 4) (i / 4) : Nat) : Int)
def foll (l : List Int) (p : Nat) : List Int := (List.range 16).map (foAt l p)
def f1 (l : List Int) (i : Nat) : Int := ((nb l i ^^^ box (nb l (12 + (i + 1) % 4)) : Nat) : Int)
theorem fo_lt {l : List Int} (h : ∀ x ∈ l, (Lit.int .u8 x).wf = true) (p r c : Nat) (hp : p < 256) : fo l p r c < 256 := by
  induction c with
  | zero =>
    unfold fo
    refine Nat.xor_lt_two_pow (n := 8) (Nat.xor_lt_two_pow (n := 8) (nb_lt h _) (box_lt _)) ?_
    split <;> omega
  | succ c ih => exact Nat.xor_lt_two_pow (n := 8) (nb_lt h _) ih
theorem foAt_wf {l : List Int} (h : ∀ x ∈ l, (Lit.int .u8 x).wf = true) (p : Nat) (hp : p < 256) (i : Nat) : (Lit.int .u8 (foAt l p i)).wf = true := by
  have := fo_lt h p (i % 4) (i / 4) hp
  exact u8_wf (by unfold foAt; omega) (by unfold foAt; omega)
theorem foll_wf {l : List Int} (h : ∀ x ∈ l, (Lit.int .u8 x).wf = true) (p : Nat) (hp : p < 256) : ∀ x ∈ foll l p, (Lit.int .u8 x).wf = true := map_wf _ _ (foAt_wf h p hp)
theorem foAt_next {l : List Int} (p i : Nat) (hi : 4 ≤ i) : foAt l p i = ((nb l i ^^^ (foAt l p (i - 4)).toNat : Nat) : Int) := by
  obtain ⟨c, r, hr, rfl⟩ : ∃ c r, r < 4 ∧ i = 4 * (c + 1) + r := ⟨i / 4 - 1, i % 4, Nat.mod_lt _ (by decide), by omega⟩
  unfold foAt
  rw [show (4 * (c + 1) + r) % 4 = r by omega, show (4 * (c + 1) + r) / 4 = c + 1 by omega, show (4 * (c + 1) + r - 4) % 4 = r by omega, show (4 * (c + 1) + r - 4) / 4 = c by omega]
  rfl
theorem f1_four (l : List Int) (p : Nat) (_hp : p < 256) : (upd (f1 l) (List.replicate 16 0) 4).set 0 (((f1 l 0).toNat ^^^ p : Nat) : Int) = upd (foAt l p) (List.replicate 16 0) 4 := by
  have e0 : foAt l p 0 = (((f1 l 0).toNat ^^^ p : Nat) : Int) := by unfold foAt fo f1; simp
  have e1 : foAt l p 1 = f1 l 1 := by unfold foAt fo f1; simp
  have e2 : foAt l p 2 = f1 l 2 := by unfold foAt fo f1; simp
  have e3 : foAt l p 3 = f1 l 3 := by unfold foAt fo f1; simp
  unfold upd
  rw [show List.range 4 = [0, 1, 2, 3] from rfl]
  simp only [List.map_cons, List.map_nil, List.cons_append, List.nil_append, List.set_cons_zero, e0, e1, e2, e3]
end Aes

set_option maxRecDepth 100000 in
set_option maxHeartbeats 8000000 in
theorem afoll_any (l : List Int) (hl : B16 l) (p : Nat) (hp : p < 256) (w : World) (g n : Nat) (hA : AT w g n) :
    Calls Try.prog 24 #[.pointer (some ⟨g, 0, none⟩), arr l, .int .u8 p] w fun e w' => e = .returned (arr (Aes.foll l p)) ∧ Keep [] w w' := by
  obtain ⟨D, hD⟩ : ∃ D, D = (l.map (Value.int .u8)).toArray := ⟨_, rfl⟩
  obtain ⟨F, hF⟩ : ∃ F, F = ((Aes.foll l p).map (Value.int .u8)).toArray := ⟨_, rfl⟩
  obtain ⟨Z, hZ, hZs, hZi⟩ := blk16
  have HZS := Lib.hid hZs
  have HZI := Lib.hid hZi
  have HZ := Lib.hid (z_agg hZ)
  have HD := Lib.hid hD
  have HF := Lib.hid hF
  have HA := Lib.hid hA
  simp only [arr_agg]
  rw [← hD, ← hF]
  clear hZ hZs hZi hD hF hA
  go_enter Try.func24, Try.ntmps24
  obtain ⟨G, hG⟩ : ∃ G, G = w.heap.size := ⟨_, rfl⟩
  go_upto_region 2 with (first
    | (have _q := HB2; refine wl_alloc_rowZ rfl _ rfl Z 16 HZI.out ?_; intro w3 hB3 hk3 hz3; have HB3 := Lib.hid hB3; have HK3 := Lib.hid hk3; clear hB3 hk3 hz3)
    | (have _q := HB1; refine wl_alloc_rowZ rfl _ rfl Z 16 HZI.out ?_; intro w2 hB2 hk2 hz2; have HB2 := Lib.hid hB2; have HK2 := Lib.hid hk2; clear hB2 hk2 hz2)
    | (refine wl_box rfl _ _ rfl D rfl ?_; intro w1 hB1 hk1 hz1; have HB1 := Lib.hid hB1; have HK1 := Lib.hid hk1; clear hB1 hk1 hz1))
  obtain ⟨C, hC⟩ : ∃ C, C = w1.heap.size := ⟨_, rfl⟩
  obtain ⟨M, hM⟩ : ∃ M, M = w2.heap.size := ⟨_, rfl⟩
  have HN := Lib.hid (show G ≠ M ∧ C ≠ M ∧ g ≠ M ∧ w.heap.size ≤ G ∧ w.heap.size ≤ C ∧ w.heap.size ≤ M by
    have h1 := HB1.out.lt
    have h2 := HB2.out.lt
    have h3 := HK2.out.size
    have h4 := HK1.out.size
    have h5 := HA.out.lt
    omega)
  have HBG := Lib.hid (show Blk w3 G 23 D by rw [hG]; exact (HB1.out.keep HK2.out (by simp)).keep HK3.out (by simp))
  have HBC := Lib.hid (show Blk w3 C 23 Z by rw [hC]; exact HB2.out.keep HK3.out (by simp))
  have HBM := Lib.hid (show Blk w3 M 23 ((upd (Aes.f1 l) zz 0).map (Value.int .u8)).toArray by rw [upd_zero, hM, ← HZ.out]; exact HB3.out)
  have HK := Lib.hid ((HK1.out.trans HK2.out).trans HK3.out)
  rw [← hG, ← hC, ← hM]
  clear hG hC hM HB1 HB2 HB3 HK1 HK2 HK3 _q
  go_wp2_with fail
  go_loopw [12] (fun s12 wr => ∃ j : Nat, j ≤ 4 ∧ s12 = .int .i64 j ∧ Blk wr M 23 ((upd (Aes.f1 l) zz j).map (Value.int .u8)).toArray ∧ Keep [M] w3 wr) (fun s12 _ => 4 - (intOf s12).toNat)
  case atStart => exact ⟨0, by omega, rfl, HBM.out, Keep.refl _ _⟩
  case round =>
    obtain ⟨j, hj, rfl, hB, hk1⟩ := hrel
    have HB := Lib.hid hB
    have HK1 := Lib.hid hk1
    clear hB hk1
    by_cases hlt : j < 4
    · obtain ⟨i, hi⟩ : ∃ i, i = (j + 1) % 4 := ⟨_, rfl⟩
      have hi2 : i < 4 := by omega
      have hlb := nb_lt hl.2 (12 + i)
      have HG := HBG.out.keep HK1.out (by have := HN.out.1; simp; omega)
      have c0 : wr.cell? ⟨G, j, none⟩ = some (.int .u8 ((nb l j : Nat) : Int)) := by
        rw [HG.cell, HD.out, ← nb_int hl.2 j]
        simp [hl.1, show j < 16 by omega]
      have c1 : wr.cell? ⟨G, 12 + i, none⟩ = some (.int .u8 ((nb l (12 + i) : Nat) : Int)) := by
        rw [HG.cell, HD.out, ← nb_int hl.2 (12 + i)]
        simp [hl.1, show 12 + i < 16 by omega]
      have c2 : wr.cell? ⟨g, 3 + nb l (12 + i), none⟩ = some (.int .u8 ((Aes.box (nb l (12 + i)) : Nat) : Int)) :=
        AT.box ((HA.out.keep HK.out (by simp)).keep HK1.out (by have := HN.out.2.2.1; simp; omega)) _ hlb
      have c3 : wr.cell? ⟨M, j, none⟩ = some (.int .u8 0) := by rw [HB.out.cell]; exact upd_put _ _ _ (Nat.le_refl _) (by omega)
      have f3 := HB.out.frozen j
      clear HG
      have bj : (0 : Int) ≤ j ∧ (j : Int) < 16 := ⟨by omega, by omega⟩
      have bi : (0 : Int) ≤ i ∧ (i : Int) < 4 := ⟨by omega, by omega⟩
      have w1' : IntKind.i64.wrap ((j : Int) + 1) = (j : Int) + 1 := IntWalk.i64_in _ ⟨by omega, by omega⟩
      have e1 : ((j : Int) + 1).tmod 4 = (i : Int) := by rw [Int.tmod_eq_emod_of_nonneg (by omega)]; omega
      have hx := u8_xor_nat _ _ (nb_lt hl.2 j) (Aes.box_lt (nb l (12 + i)))
      have HX := Lib.hid (show bits .xor .u8 ((nb l j : Nat) : Int) ((Aes.box (nb l (12 + i)) : Nat) : Int) = Aes.f1 l j by rw [hx]; unfold Aes.f1; rw [hi])
      clear hi hx
      have hxb := Aes.box_lt (nb l (12 + i))
      generalize nb l (12 + i) = x at *
      generalize Aes.box x = y at *
      generalize nb l j = z at *
      have b8 : (0 : Int) ≤ x ∧ (x : Int) < 256 := ⟨by omega, by omega⟩
      go_upto_region 6 with fail
      go_region_with fail
      all_goals
        go_wp2_with fail
        refine ⟨⟨j + 1, by omega, by go_num, ?_, ?_⟩, by simp [intOf]; omega⟩
        · exact (HB.out.upd (by simp [zz]; omega) HX.out).drew
        · exact (HK1.out.setCell (.inl (by simp)) _).drew
    · obtain rfl : j = 4 := by omega
      have c0 : wr.cell? ⟨M, 0, none⟩ = some (.int .u8 (((Aes.f1 l 0).toNat : Nat) : Int)) := by
        rw [HB.out.cell, upd_at _ _ _ _ (by decide)]
        rfl
      have f0 := HB.out.frozen 0
      have hx := u8_xor_nat (Aes.f1 l 0).toNat p (by have := Aes.f1 l 0; exact Nat.xor_lt_two_pow (n := 8) (nb_lt hl.2 0) (Aes.box_lt _)) hp
      have HX := Lib.hid hx
      have H4 := Lib.hid (Aes.f1_four l p hp)
      clear hx
      generalize (Aes.f1 l 0).toNat = x0 at *
      rw [show ((4 : Nat) : Int) = 4 from rfl]
      go_upto_block 2 with fail
      rw [HX.out]
      obtain ⟨w4, hw4⟩ : ∃ w4, w4 = wr.setCell ⟨M, 0, none⟩ (.int .u8 ((x0 ^^^ p : Nat) : Int)) := ⟨_, rfl⟩
      have HB4 := Lib.hid (show Blk w4 M 23 ((upd (Aes.foAt l p) zz 4).map (Value.int .u8)).toArray by
        have := HB.out.set_ 0 (.int .u8 ((x0 ^^^ p : Nat) : Int))
        rw [List.setIfInBounds_toArray, ← List.map_set, show zz = List.replicate 16 0 from rfl, H4.out] at this
        rw [hw4]
        exact this)
      have HK4 := Lib.hid (show Keep [M] w3 w4 by rw [hw4]; exact HK1.out.setCell (.inl (by simp)) _)
      rw [← hw4]
      clear hw4 c0 f0 HX H4 HB HK1
      go_wp2_with fail
      go_loopw [10] (fun s10 wr => ∃ j : Nat, j ≤ 16 ∧ 4 ≤ j ∧ s10 = .int .i64 j ∧ Blk wr M 23 ((upd (Aes.foAt l p) zz j).map (Value.int .u8)).toArray ∧ Keep [M] w3 wr) (fun s10 _ => 16 - (intOf s10).toNat)
      case atStart => exact ⟨4, by omega, by omega, rfl, HB4.out, HK4.out⟩
      case round =>
        obtain ⟨j, hj, hj4, rfl, hB, hk1⟩ := hrel
        have HB := Lib.hid hB
        have HK1 := Lib.hid hk1
        clear hB hk1
        by_cases hlt2 : j < 16
        · obtain ⟨i, hi⟩ : ∃ i, i = j - 4 := ⟨_, rfl⟩
          have hfo := Aes.fo_lt hl.2 p (i % 4) (i / 4) hp
          have c0 : wr.cell? ⟨G, j, none⟩ = some (.int .u8 ((nb l j : Nat) : Int)) := by
            rw [(HBG.out.keep HK1.out (by have := HN.out.1; simp; omega)).cell, HD.out, ← nb_int hl.2 j]
            simp [hl.1, hlt2]
          have c1 : wr.cell? ⟨M, i, none⟩ = some (.int .u8 ((Aes.fo l p (i % 4) (i / 4) : Nat) : Int)) := by
            rw [HB.out.cell, upd_at _ _ _ _ (by omega)]
            rfl
          have c3 : wr.cell? ⟨M, j, none⟩ = some (.int .u8 0) := by rw [HB.out.cell]; exact upd_put _ _ _ (Nat.le_refl _) hlt2
          have f3 := HB.out.frozen j
          have hx := u8_xor_nat _ _ (nb_lt hl.2 j) hfo
          have HX := Lib.hid (show bits .xor .u8 ((nb l j : Nat) : Int) ((Aes.fo l p (i % 4) (i / 4) : Nat) : Int) = Aes.foAt l p j by
            rw [hx, Aes.foAt_next p j hj4, ← hi]
            rfl)
          have bj : (0 : Int) ≤ j ∧ (j : Int) < 16 := ⟨by omega, by omega⟩
          have w1' : IntKind.i64.wrap ((j : Int) - 4) = (i : Int) := by rw [show (j : Int) - 4 = (i : Int) by omega]; exact IntWalk.i64_in _ ⟨by omega, by omega⟩
          have bi : (0 : Int) ≤ i ∧ (i : Int) < 16 := ⟨by omega, by omega⟩
          clear hx hi hfo
          generalize nb l j = x at *
          generalize Aes.fo l p (i % 4) (i / 4) = y at *
          go_upto_region 12 with fail
          go_region_with fail
          all_goals
            go_wp2_with fail
            refine ⟨⟨j + 1, by omega, by omega, by go_num, ?_, ?_⟩, by simp [intOf]; omega⟩
            · exact (HB.out.upd (by simp [zz]; omega) HX.out).drew
            · exact (HK1.out.setCell (.inl (by simp)) _).drew
        · obtain rfl : j = 16 := by omega
          have HB2 := HB.out
          rw [upd_full _ _ _ (by simp [zz])] at HB2
          have HBF := Lib.hid (show Blk wr M 23 F by rw [HF.out]; exact HB2)
          have HBC2 := Lib.hid (HBC.out.keep HK1.out (by have := HN.out.2.1; simp; omega))
          have HFS := Lib.hid (show F.size = 16 by rw [HF.out]; simp [Aes.foll])
          have HF1 := Lib.hid (show F.all (·.oneCell') = true by rw [HF.out]; exact arr_cell _)
          clear HB2
          go_wp2_with (first
            | (refine wl_load_row rfl _ _ rfl M rfl 16 5 Try.underlying23 _ F HBF.out (by rw [HFS.out]; exact blkCells) ?_)
            | (refine wl_store_row rfl _ _ _ rfl C rfl F rfl _ _ HBC2.out (by rw [HFS.out]; exact blkCells) (by rw [HFS.out]; exact HZS.out) HF1.out ?_; intro w5 hB5 hk5 hz5))
          (try simp only [Exit.inBlock, Exit.then])
          refine bodyPost_ret (v := .agg F) ?_ rfl ?_
          · refine results_cell_row Try.results24 _ w5 C 23 F (0, 0) _ ?_ hB5 Try.underlying23 rfl ?_
            · rfl
            · rw [HFS.out]; exact blkCells
          · exact ⟨rfl, (HK.out.trans' HK1.out (fun q hq => by right; have := HN.out; simp at hq; omega)).trans' hk5 (fun q hq => by right; have := HN.out; simp at hq; omega)⟩
end Go.Proofs.Ytlkjngbelckgkaa
