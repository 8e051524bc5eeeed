/-
  The document's answer to a column's mixing.
-/
import Derived.Test.YtpjkicbfdknjcaaAesT
namespace Go.Proofs.Ytpjkicbfdknjcaa
open Go.RowKit

theorem rt2 (y : Nat) (w : World) (hy : y < 256) : Calls Try.prog 10 #[.int .u8 2, .int .u8 y] w fun e w' => e = .returned (.int .u8 (Aes.tm 2 y : Nat)) ∧ w' = w := rtimes_any 2 y w (by decide) hy
theorem rt3 (y : Nat) (w : World) (hy : y < 256) : Calls Try.prog 10 #[.int .u8 3, .int .u8 y] w fun e w' => e = .returned (.int .u8 (Aes.tm 3 y : Nat)) ∧ w' = w := rtimes_any 3 y w (by decide) hy

set_option maxRecDepth 100000 in
set_option maxHeartbeats 8000000 in
theorem rmixed_any (v : Value) (t : List Int) (w : World) (ht : Sl .u8 w v t) (hl : t.length = 16) :
    Calls Try.prog 27 #[v] w fun e w' => ∃ g, e = .returned (.slice (some ⟨g, 0, none⟩) 16 16) ∧ w.heap.size ≤ g ∧ Blk w' g 5 ((Aes.mixed t).map (Value.int .u8)).toArray ∧ Keep [] w w' := by
  have HTW := Lib.hid ht.wf
  have HTL := Lib.hid (ht.lt (by omega))
  obtain ⟨b, off, tc, rfl, htc1, htc2, hcell⟩ := ht.cells (by omega)
  rw [hl] at hcell htc1 ⊢
  have HC := Lib.hid hcell
  have hb : b < w.heap.size := HTL.out b rfl
  clear hcell ht
  go_enter Try.func27, Try.ntmps27
  go_upto_block 0 with (at_make; refine wl_make _ rfl _ _ 30 rfl 5 (.int .u8 0) 1 Try.underlying30 u8infB rfl _ _ _ _ 16 16 rfl rfl rfl rfl (Nat.le_refl _) (by omega) (by omega) ?_; intro w2 hB2 hk2 hz2; have HB2 := Lib.hid hB2; have HK2 := Lib.hid hk2; clear hB2 hk2 hz2)
  obtain ⟨G, hG⟩ : ∃ G, G = w.heap.size := ⟨_, rfl⟩
  have HB2' := Lib.hid (show Blk w2 G 5 ((upd (Aes.mixAt t) (List.replicate 16 0) 0).map (Value.int .u8)).toArray by rw [hG, upd_zero]; simpa using HB2.out)
  have HG := Lib.hid hG
  have hbG : b ≠ G := by omega
  have hGb : G ≠ b := fun h => hbG h.symm
  rw [← hG]
  clear hG HB2
  go_wp2_with fail
  go_loopw [4] (fun s4 wr => ∃ c : Nat, c ≤ 16 ∧ c % 4 = 0 ∧ s4 = .int .i64 c ∧ Blk wr G 5 ((upd (Aes.mixAt t) (List.replicate 16 0) c).map (Value.int .u8)).toArray ∧ Keep [G] w2 wr) (fun s4 _ => 16 - (intOf s4).toNat)
  case atStart => exact ⟨0, by omega, rfl, rfl, HB2'.out, Keep.refl _ _⟩
  case round =>
    obtain ⟨c, hc, hc4, rfl, hB, hK⟩ := hrel
    have HB := Lib.hid hB
    have HK := Lib.hid hK
    clear hB hK
    by_cases hlt : c < 16
    · go_upto_block 2 with fail
      go_wp2_with fail
      rw [show decide ((c : Int) < 16) = true from decide_eq_true (by omega)]
      go_loopw [5] (fun s5 wi => ∃ r : Nat, r ≤ 4 ∧ s5 = .int .i64 r ∧ Blk wi G 5 ((upd (Aes.mixAt t) (List.replicate 16 0) (c + r)).map (Value.int .u8)).toArray ∧ Keep [G] w2 wi) (fun s5 _ => 4 - (intOf s5).toNat)
      case atStart => exact ⟨0, by omega, rfl, HB.out, HK.out⟩
      case round =>
        obtain ⟨r, hr, rfl, hB, hK⟩ := hrel
        have HBi := Lib.hid hB
        have HKi := Lib.hid hK
        clear hB hK
        by_cases hlt2 : r < 4
        · go_upto_region 8 with fail
          have HKw := Lib.hid (HK2.out.more0.trans HKi.out)
          have hcc : ∀ j, j < 16 → wr.cell? ⟨b, off + j, none⟩ = some (.int .u8 ((nb t j : Nat) : Int)) := fun j hj => by
            rw [← nb_int HTW.out j]
            exact (HKw.out.cell (p := ⟨b, off + j, none⟩) hb (by simpa using hbG)).trans (HC.out j hj)
          obtain ⟨j1, hj1⟩ : ∃ j1, j1 = (r + 1) % 4 := ⟨_, rfl⟩
          obtain ⟨j2, hj2⟩ : ∃ j2, j2 = (r + 2) % 4 := ⟨_, rfl⟩
          obtain ⟨j3, hj3⟩ : ∃ j3, j3 = (r + 3) % 4 := ⟨_, rfl⟩
          have hm : Aes.mixAt t (c + r) = ((Aes.mixN (nb t (c + r)) (nb t (c + j1)) (nb t (c + j2)) (nb t (c + j3)) : Nat) : Int) := by
            unfold Aes.mixAt
            rw [show (c + r) / 4 * 4 = c by omega, show (c + r) % 4 = r by omega, hj1, hj2, hj3]
          have HM := Lib.hid hm
          have n0 := nb_lt HTW.out (c + r)
          have n1 := nb_lt HTW.out (c + j1)
          have n2 := nb_lt HTW.out (c + j2)
          have n3 := nb_lt HTW.out (c + j3)
          have c0 := hcc (c + r) (by omega)
          have c1 := hcc (c + j1) (by omega)
          have c2 := hcc (c + j2) (by omega)
          have c3 := hcc (c + j3) (by omega)
          have fr1 := HBi.out.frozen (c + r)
          have cG : wr.cell? ⟨G, c + r, none⟩ = some (.int .u8 0) := by
            rw [HBi.out.cell]
            exact upd_put _ _ _ (Nat.le_refl _) (by omega)
          have hr1 : IntKind.i64.wrap ((r : Int) + 1) = (r : Int) + 1 := IntWalk.i64_in _ ⟨by omega, by omega⟩
          have hr2 : IntKind.i64.wrap ((r : Int) + 2) = (r : Int) + 2 := IntWalk.i64_in _ ⟨by omega, by omega⟩
          have hr3 : IntKind.i64.wrap ((r : Int) + 3) = (r : Int) + 3 := IntWalk.i64_in _ ⟨by omega, by omega⟩
          have d1 : ((r : Int) + 1).tmod 4 = (j1 : Int) := by rw [Int.tmod_eq_emod_of_nonneg (by omega)]; omega
          have d2 : ((r : Int) + 2).tmod 4 = (j2 : Int) := by rw [Int.tmod_eq_emod_of_nonneg (by omega)]; omega
          have d3 : ((r : Int) + 3).tmod 4 = (j3 : Int) := by rw [Int.tmod_eq_emod_of_nonneg (by omega)]; omega
          have q1 : j1 < 4 := by omega
          have q2 : j2 < 4 := by omega
          have q3 : j3 < 4 := by omega
          have hc12 : c ≤ 12 := by omega
          clear hcc hm hj1 hj2 hj3
          have e0 : ((c : Int) + (r : Int)).toNat = c + r := by omega
          have e1 : ((c : Int) + (j1 : Int)).toNat = c + j1 := by omega
          have e2 : ((c : Int) + (j2 : Int)).toNat = c + j2 := by omega
          have e3 : ((c : Int) + (j3 : Int)).toNat = c + j3 := by omega
          have b0 : (0 : Int) ≤ (c : Int) + r ∧ (c : Int) + r < 16 := ⟨by omega, by omega⟩
          have b1 : (0 : Int) ≤ (c : Int) + j1 ∧ (c : Int) + j1 < 16 := ⟨by omega, by omega⟩
          have b2 : (0 : Int) ≤ (c : Int) + j2 ∧ (c : Int) + j2 < 16 := ⟨by omega, by omega⟩
          have b3 : (0 : Int) ≤ (c : Int) + j3 ∧ (c : Int) + j3 < 16 := ⟨by omega, by omega⟩
          have w0 : IntKind.i64.wrap ((c : Int) + r) = (c : Int) + r := IntWalk.i64_in _ ⟨by omega, by omega⟩
          have w1 : IntKind.i64.wrap ((c : Int) + j1) = (c : Int) + j1 := IntWalk.i64_in _ ⟨by omega, by omega⟩
          have w2 : IntKind.i64.wrap ((c : Int) + j2) = (c : Int) + j2 := IntWalk.i64_in _ ⟨by omega, by omega⟩
          have w3 : IntKind.i64.wrap ((c : Int) + j3) = (c : Int) + j3 := IntWalk.i64_in _ ⟨by omega, by omega⟩
          generalize nb t (c + r) = m0 at *
          generalize nb t (c + j1) = m1 at *
          generalize nb t (c + j2) = m2 at *
          generalize nb t (c + j3) = m3 at *
          have T1 := fun w => Lib.hid (rt2 m0 w n0)
          have T2 := fun w => Lib.hid (rt3 m1 w n1)
          go_region_held3 (fun w' => w'.cell? ⟨b, off + (c + r), none⟩ = some (.int .u8 (m0 : Int)) ∧ w'.cell? ⟨b, off + (c + j1), none⟩ = some (.int .u8 (m1 : Int)) ∧ w'.cell? ⟨b, off + (c + j2), none⟩ = some (.int .u8 (m2 : Int)) ∧ w'.cell? ⟨b, off + (c + j3), none⟩ = some (.int .u8 (m3 : Int)))
            (go_keep)
            (first
              | (go_at_call 10; with_reducible refine (T1 _).out.mono ?_; rintro e w' ⟨rfl, rfl⟩)
              | (go_at_call 10; with_reducible refine (T2 _).out.mono ?_; rintro e w' ⟨rfl, rfl⟩))
          have HX := Lib.hid (Aes.mix_int m0 m1 m2 m3 n2 n3)
          clear T1 T2 c0 c1 c2 c3 cG fr1 hr1 hr2 hr3 d1 d2 d3 e0 e1 e2 e3 b0 b1 b2 b3 w0 w1 w2 w3
          go_wp2_with fail
          refine ⟨?_, by simp [intOf]; omega⟩
          exact ⟨r + 1, by omega, by go_num, (HBi.out.upd (by simp; omega) (HX.out.trans HM.out.symm)).drew, (HKi.out.setCell (.inl (List.mem_singleton.2 rfl)) _).drew⟩
        · obtain rfl : r = 4 := by omega
          go_wp2_with fail
          exact ⟨⟨c + 4, by omega, by omega, by go_num, HBi.out, HKi.out⟩, by simp only [intOf]; omega⟩
    · obtain rfl : c = 16 := by omega
      go_wp2_with fail
      go_ret
      refine ⟨G, rfl, by rw [HG.out]; exact Nat.le_refl _, ?_, HK2.out.trans' HK.out (fun x hx => by right; have := HG.out; simp at hx; omega)⟩
      have := HB.out
      rw [upd_full _ _ _ (by simp)] at this
      exact this
end Go.Proofs.Ytpjkicbfdknjcaa
