/-
  The landed aes: a block's columns mixed.
-/
import Derived.Test.YtpjkicbfdknjcaaA3
namespace Go.Proofs.Ytpjkicbfdknjcaa
open Go.RowKit

namespace Aes
theorem three (b : Nat) (hb : b < 256) : tm 3 b = tm 2 b ^^^ b := by
  have h := tm_xor' 2 1 b
  rw [tm_one b hb] at h
  exact h
/-- As the landed one mixes. -/
theorem mix_landed (a b c d : Nat) (hb : b < 256) (hc : c < 256) (hd : d < 256) :
    bits .xor .u8 (bits .xor .u8 (bits .xor .u8 ((tm 2 a : Nat) : Int) ((tm 2 b : Nat) : Int)) (b : Int)) (bits .xor .u8 (c : Int) (d : Int)) = ((mixN a b c d : Nat) : Int) := by
  have h1 := Nat.xor_lt_two_pow (n := 8) (tm_lt 2 a) (tm_lt 2 b)
  have h2 := Nat.xor_lt_two_pow (n := 8) h1 hb
  have h3 := Nat.xor_lt_two_pow (n := 8) hc hd
  rw [u8_xor_nat _ _ (tm_lt _ _) (tm_lt _ _), u8_xor_nat _ _ h1 hb, u8_xor_nat _ _ hc hd, u8_xor_nat _ _ h2 h3]
  unfold mixN
  rw [three b hb]
  congr 1
  ac_rfl
end Aes

set_option maxRecDepth 100000 in
set_option maxHeartbeats 8000000 in
theorem amixed_any (t : List Int) (ht : B16 t) (w : World) :
    Calls Try.prog 23 #[arr t] w fun e w' => e = .returned (arr (Aes.mixed t)) ∧ Keep [] w w' := by
  obtain ⟨D, hD⟩ : ∃ D, D = (t.map (Value.int .u8)).toArray := ⟨_, rfl⟩
  obtain ⟨F, hF⟩ : ∃ F, F = ((Aes.mixed t).map (Value.int .u8)).toArray := ⟨_, rfl⟩
  obtain ⟨Z, hZ, hZs, hZi⟩ := blk16
  have HZS := Lib.hid hZs
  have HZI := Lib.hid hZi
  have HZ := Lib.hid (z_agg hZ)
  have HD := Lib.hid hD
  have HF := Lib.hid hF
  simp only [arr_agg]
  rw [← hD, ← hF]
  clear hZ hZs hZi hD hF
  go_enter Try.func23, Try.ntmps23
  obtain ⟨G, hG⟩ : ∃ G, G = w.heap.size := ⟨_, rfl⟩
  go_upto_region 2 with (first
    | (have _q := HB2; refine wl_alloc_rowZ rfl _ rfl Z 16 HZI.out ?_; intro w3 hB3 hk3 hz3; have HB3 := Lib.hid hB3; have HK3 := Lib.hid hk3; clear hB3 hk3 hz3)
    | (have _q := HB1; refine wl_alloc_rowZ rfl _ rfl Z 16 HZI.out ?_; intro w2 hB2 hk2 hz2; have HB2 := Lib.hid hB2; have HK2 := Lib.hid hk2; clear hB2 hk2 hz2)
    | (refine wl_box rfl _ _ rfl D rfl ?_; intro w1 hB1 hk1 hz1; have HB1 := Lib.hid hB1; have HK1 := Lib.hid hk1; clear hB1 hk1 hz1))
  obtain ⟨C, hC⟩ : ∃ C, C = w1.heap.size := ⟨_, rfl⟩
  obtain ⟨M, hM⟩ : ∃ M, M = w2.heap.size := ⟨_, rfl⟩
  have HN := Lib.hid (show G ≠ M ∧ C ≠ M ∧ w.heap.size ≤ G ∧ w.heap.size ≤ C ∧ w.heap.size ≤ M by
    have h1 := HB1.out.lt
    have h2 := HB2.out.lt
    have h3 := HK2.out.size
    have h4 := HK1.out.size
    omega)
  have HBG := Lib.hid (show Blk w3 G 29 D by rw [hG]; exact (HB1.out.keep HK2.out (by simp)).keep HK3.out (by simp))
  have HBC := Lib.hid (show Blk w3 C 29 Z by rw [hC]; exact HB2.out.keep HK3.out (by simp))
  have HBM := Lib.hid (show Blk w3 M 29 ((upd (Aes.mixAt t) zz 0).map (Value.int .u8)).toArray by rw [upd_zero, hM, ← HZ.out]; exact HB3.out)
  have HK := Lib.hid ((HK1.out.trans HK2.out).trans HK3.out)
  rw [← hG, ← hC, ← hM]
  clear hG hC hM HB1 HB2 HB3 HK1 HK2 HK3 _q
  go_wp2_with fail
  go_loopw [4] (fun s4 wr => ∃ c : Nat, c ≤ 16 ∧ c % 4 = 0 ∧ s4 = .int .i64 c ∧ Blk wr M 29 ((upd (Aes.mixAt t) zz c).map (Value.int .u8)).toArray ∧ Keep [M] w3 wr) (fun s4 _ => 16 - (intOf s4).toNat)
  case atStart => exact ⟨0, by omega, rfl, rfl, HBM.out, Keep.refl _ _⟩
  case round =>
    obtain ⟨c, hc, hc4, rfl, hB, hk1⟩ := hrel
    have HB := Lib.hid hB
    have HK1 := Lib.hid hk1
    clear hB hk1
    by_cases hlt : c < 16
    · go_upto_block 2 with fail
      go_wp2_with fail
      rw [show decide ((c : Int) < 16) = true from decide_eq_true (by omega)]
      go_loopw [12] (fun s12 wi => ∃ r : Nat, r ≤ 4 ∧ s12 = .int .i64 r ∧ Blk wi M 29 ((upd (Aes.mixAt t) zz (c + r)).map (Value.int .u8)).toArray ∧ Keep [M] w3 wi) (fun s12 _ => 4 - (intOf s12).toNat)
      case atStart => exact ⟨0, by omega, rfl, HB.out, HK1.out⟩
      case round =>
        obtain ⟨r, hr, rfl, hB, hk1⟩ := hrel
        have HBi := Lib.hid hB
        have HKi := Lib.hid hk1
        clear hB hk1
        by_cases hlt2 : r < 4
        · have hcc : ∀ j, j < 16 → wr.cell? ⟨G, j, none⟩ = some (.int .u8 ((nb t j : Nat) : Int)) := fun j hj => by
            rw [(HBG.out.keep HKi.out (by have := HN.out.1; simp; omega)).cell, HD.out, ← nb_int ht.2 j]
            simp [ht.1, hj]
          obtain ⟨j1, hj1⟩ : ∃ j1, j1 = (r + 1) % 4 := ⟨_, rfl⟩
          obtain ⟨j2, hj2⟩ : ∃ j2, j2 = (r + 2) % 4 := ⟨_, rfl⟩
          obtain ⟨j3, hj3⟩ : ∃ j3, j3 = (r + 3) % 4 := ⟨_, rfl⟩
          have hm : Aes.mixAt t (c + r) = ((Aes.mixN (nb t (c + r)) (nb t (c + j1)) (nb t (c + j2)) (nb t (c + j3)) : Nat) : Int) := by
            unfold Aes.mixAt
            rw [show (c + r) / 4 * 4 = c by omega, show (c + r) % 4 = r by omega, hj1, hj2, hj3]
          have HM := Lib.hid hm
          have n0 := nb_lt ht.2 (c + r)
          have n1 := nb_lt ht.2 (c + j1)
          have n2 := nb_lt ht.2 (c + j2)
          have n3 := nb_lt ht.2 (c + j3)
          have c0 := hcc (c + r) (by omega)
          have c1 := hcc (c + j1) (by omega)
          have c2 := hcc (c + j2) (by omega)
          have c3 := hcc (c + j3) (by omega)
          have fr1 := HBi.out.frozen (c + r)
          have cM : wr.cell? ⟨M, c + r, none⟩ = some (.int .u8 0) := by
            rw [HBi.out.cell]
            exact upd_put _ _ _ (Nat.le_refl _) (by omega)
          have hr1 : IntKind.i64.wrap ((r : Int) + 1) = (r : Int) + 1 := IntWalk.i64_in _ ⟨by omega, by omega⟩
          have hr2 : IntKind.i64.wrap ((r : Int) + 2) = (r : Int) + 2 := IntWalk.i64_in _ ⟨by omega, by omega⟩
          have hr3 : IntKind.i64.wrap ((r : Int) + 3) = (r : Int) + 3 := IntWalk.i64_in _ ⟨by omega, by omega⟩
          have d1 : ((r : Int) + 1).tmod 4 = (j1 : Int) := by rw [Int.tmod_eq_emod_of_nonneg (by omega)]; omega
          have d2 : ((r : Int) + 2).tmod 4 = (j2 : Int) := by rw [Int.tmod_eq_emod_of_nonneg (by omega)]; omega
          have d3 : ((r : Int) + 3).tmod 4 = (j3 : Int) := by rw [Int.tmod_eq_emod_of_nonneg (by omega)]; omega
          have q1 : j1 < 4 := by omega
          have q2 : j2 < 4 := by omega
          have q3 : j3 < 4 := by omega
          have hc12 : c ≤ 12 := by omega
          clear hcc hm hj1 hj2 hj3
          have e0 : ((c : Int) + (r : Int)).toNat = c + r := by omega
          have e1 : ((c : Int) + (j1 : Int)).toNat = c + j1 := by omega
          have e2 : ((c : Int) + (j2 : Int)).toNat = c + j2 := by omega
          have e3 : ((c : Int) + (j3 : Int)).toNat = c + j3 := by omega
          have b0 : (0 : Int) ≤ (c : Int) + r ∧ (c : Int) + r < 16 := ⟨by omega, by omega⟩
          have b1 : (0 : Int) ≤ (c : Int) + j1 ∧ (c : Int) + j1 < 16 := ⟨by omega, by omega⟩
          have b2 : (0 : Int) ≤ (c : Int) + j2 ∧ (c : Int) + j2 < 16 := ⟨by omega, by omega⟩
          have b3 : (0 : Int) ≤ (c : Int) + j3 ∧ (c : Int) + j3 < 16 := ⟨by omega, by omega⟩
          have w0 : IntKind.i64.wrap ((c : Int) + r) = (c : Int) + r := IntWalk.i64_in _ ⟨by omega, by omega⟩
          have w1 : IntKind.i64.wrap ((c : Int) + j1) = (c : Int) + j1 := IntWalk.i64_in _ ⟨by omega, by omega⟩
          have w2 : IntKind.i64.wrap ((c : Int) + j2) = (c : Int) + j2 := IntWalk.i64_in _ ⟨by omega, by omega⟩
          have w3 : IntKind.i64.wrap ((c : Int) + j3) = (c : Int) + j3 := IntWalk.i64_in _ ⟨by omega, by omega⟩
          have HX := Lib.hid (Aes.mix_landed (nb t (c + r)) (nb t (c + j1)) (nb t (c + j2)) (nb t (c + j3)) n1 n2 n3)
          generalize nb t (c + r) = m0 at *
          generalize nb t (c + j1) = m1 at *
          generalize nb t (c + j2) = m2 at *
          generalize nb t (c + j3) = m3 at *
          have T1 := fun w => Lib.hid (double_any m0 w n0)
          have T2 := fun w => Lib.hid (double_any m1 w n1)
          go_upto_region 9 with fail
          go_region_with fail
          all_goals
            go_wp2_with (first
              | (go_at_call 18; with_reducible refine (T1 _).out.mono ?_; rintro e w' ⟨rfl, rfl⟩)
              | (go_at_call 18; with_reducible refine (T2 _).out.mono ?_; rintro e w' ⟨rfl, rfl⟩))
            refine ⟨⟨r + 1, by omega, by go_num, (HBi.out.upd (by simp [zz]; omega) (HX.out.trans HM.out.symm)).drew, (HKi.out.setCell (.inl (List.mem_singleton.2 rfl)) _).drew⟩, by simp [intOf]; omega⟩
        · obtain rfl : r = 4 := by omega
          go_wp2_with fail
          exact ⟨⟨c + 4, by omega, by omega, by go_num, HBi.out, HKi.out⟩, by simp only [intOf]; omega⟩
    · obtain rfl : c = 16 := by omega
      have HB2 := HB.out
      rw [upd_full _ _ _ (by simp [zz])] at HB2
      have HBF := Lib.hid (show Blk wr M 29 F by rw [HF.out]; exact HB2)
      have HBC2 := Lib.hid (HBC.out.keep HK1.out (by have := HN.out.2.1; simp; omega))
      have HFS := Lib.hid (show F.size = 16 by rw [HF.out]; simp [Aes.mixed])
      have HF1 := Lib.hid (show F.all (·.oneCell') = true by rw [HF.out]; exact arr_cell _)
      clear HB2
      go_wp2_with (first
        | (refine wl_load_row rfl _ _ rfl M rfl 16 5 Try.underlying29 _ F HBF.out (by rw [HFS.out]; exact blkCells) ?_)
        | (refine wl_store_row rfl _ _ _ rfl C rfl F rfl _ _ HBC2.out (by rw [HFS.out]; exact blkCells) (by rw [HFS.out]; exact HZS.out) HF1.out ?_; intro w5 hB5 hk5 hz5))
      (try simp only [Exit.inBlock, Exit.then])
      refine bodyPost_ret (v := .agg F) ?_ rfl ?_
      · refine results_cell_row Try.results23 _ w5 C 29 F (0, 0) _ ?_ hB5 Try.underlying29 rfl ?_
        · rfl
        · rw [HFS.out]; exact blkCells
      · exact ⟨rfl, (HK.out.trans' HK1.out (fun q hq => by right; have := HN.out; simp at hq; omega)).trans' hk5 (fun q hq => by right; have := HN.out; simp at hq; omega)⟩
end Go.Proofs.Ytpjkicbfdknjcaa
