/-
  Frames of the document's functions' sizes, opened (aes).
  The document's answer to a column's mixing.
  The document's round keys: its drawn regions.
  The document's round keys: its last drawn region.
  The document's round keys.
  The document's round keys, whole.
  The document's answer to a key's words.
-/
import Derived.Test.YtlkjngbelckgkaaGen
import Derived.Test.YtlkjngbelckgkaaAesT
import Derived.Test.YtlkjngbelckgkaaRBox
namespace Go.Proofs.Ytlkjngbelckgkaa
open Go.RowKit

set_option maxRecDepth 100000 in
theorem letters95 (f : Nat → Value) : (List.range 95).map f = [f 0, f 1, f 2, f 3, f 4, f 5, f 6, f 7, f 8, f 9, f 10, f 11, f 12, f 13, f 14, f 15, f 16, f 17, f 18, f 19, f 20, f 21, f 22, f 23, f 24, f 25, f 26, f 27, f 28, f 29, f 30, f 31, f 32, f 33, f 34, f 35, f 36, f 37, f 38, f 39, f 40, f 41, f 42, f 43, f 44, f 45, f 46, f 47, f 48, f 49, f 50, f 51, f 52, f 53, f 54, f 55, f 56, f 57, f 58, f 59, f 60, f 61, f 62, f 63, f 64, f 65, f 66, f 67, f 68, f 69, f 70, f 71, f 72, f 73, f 74, f 75, f 76, f 77, f 78, f 79, f 80, f 81, f 82, f 83, f 84, f 85, f 86, f 87, f 88, f 89, f 90, f 91, f 92, f 93, f 94] := by kernel_rfl
set_option maxRecDepth 100000 in
theorem Fr.open95 {l : List (Nat × Value)} {a : Act} (h : Fr 95 l a) : ∃ f : Nat → Value, Holds f l ∧ a = ⟨#[f 0, f 1, f 2, f 3, f 4, f 5, f 6, f 7, f 8, f 9, f 10, f 11, f 12, f 13, f 14, f 15, f 16, f 17, f 18, f 19, f 20, f 21, f 22, f 23, f 24, f 25, f 26, f 27, f 28, f 29, f 30, f 31, f 32, f 33, f 34, f 35, f 36, f 37, f 38, f 39, f 40, f 41, f 42, f 43, f 44, f 45, f 46, f 47, f 48, f 49, f 50, f 51, f 52, f 53, f 54, f 55, f 56, f 57, f 58, f 59, f 60, f 61, f 62, f 63, f 64, f 65, f 66, f 67, f 68, f 69, f 70, f 71, f 72, f 73, f 74, f 75, f 76, f 77, f 78, f 79, f 80, f 81, f 82, f 83, f 84, f 85, f 86, f 87, f 88, f 89, f 90, f 91, f 92, f 93, f 94], []⟩ := by
  refine ⟨fun k => a.tmps.getD k undef, h.slot, ?_⟩
  obtain ⟨t, d⟩ := a
  obtain ⟨h1, h2, _⟩ := h
  simp only at h1 h2
  subst h1
  have e := arr_letters t 95 h2
  rw [letters95 (fun k => t.getD k undef)] at e
  exact congrArg (fun t => Act.mk t []) e

theorem rt2 (y : Nat) (w : World) (hy : y < 256) : Calls Try.prog 37 #[.int .u8 2, .int .u8 y] w fun e w' => e = .returned (.int .u8 (Aes.tm 2 y : Nat)) ∧ w' = w := rtimes_any 2 y w (by decide) hy
theorem rt3 (y : Nat) (w : World) (hy : y < 256) : Calls Try.prog 37 #[.int .u8 3, .int .u8 y] w fun e w' => e = .returned (.int .u8 (Aes.tm 3 y : Nat)) ∧ w' = w := rtimes_any 3 y w (by decide) hy

set_option maxRecDepth 100000 in
set_option maxHeartbeats 8000000 in
theorem rmixed_any (v : Value) (t : List Int) (w : World) (ht : Sl .u8 w v t) (hl : t.length = 16) :
    Calls Try.prog 35 #[v] w fun e w' => ∃ g, e = .returned (.slice (some ⟨g, 0, none⟩) 16 16) ∧ w.heap.size ≤ g ∧ Blk w' g 5 ((Aes.mixed t).map (Value.int .u8)).toArray ∧ Keep [] w w' := by
  have HTW := Lib.hid ht.wf
  have HTL := Lib.hid (ht.lt (by omega))
  obtain ⟨b, off, tc, rfl, htc1, htc2, hcell⟩ := ht.cells (by omega)
  rw [hl] at hcell htc1 ⊢
  have HC := Lib.hid hcell
  have hb : b < w.heap.size := HTL.out b rfl
  clear hcell ht
  go_enter Try.func35, Try.ntmps35
  go_upto_block 0 with (at_make; refine wl_make _ rfl _ _ 26 rfl 5 (.int .u8 0) 1 Try.underlying26 u8infB rfl _ _ _ _ 16 16 rfl rfl rfl rfl (Nat.le_refl _) (by omega) (by omega) ?_; intro w2 hB2 hk2 hz2; have HB2 := Lib.hid hB2; have HK2 := Lib.hid hk2; clear hB2 hk2 hz2)
  obtain ⟨G, hG⟩ : ∃ G, G = w.heap.size := ⟨_, rfl⟩
  have HB2' := Lib.hid (show Blk w2 G 5 ((upd (Aes.mixAt t) (List.replicate 16 0) 0).map (Value.int .u8)).toArray by rw [hG, upd_zero]; simpa using HB2.out)
  have HG := Lib.hid hG
  have hbG : b ≠ G := by omega
  have hGb : G ≠ b := fun h => hbG h.symm
  rw [← hG]
  clear hG HB2
  go_wp2_with fail
  go_loopw [4] (fun s4 wr => ∃ c : Nat, c ≤ 16 ∧ c % 4 = 0 ∧ s4 = .int .i64 c ∧ Blk wr G 5 ((upd (Aes.mixAt t) (List.replicate 16 0) c).map (Value.int .u8)).toArray ∧ Keep [G] w2 wr) (fun s4 _ => 16 - (intOf s4).toNat)
  case atStart => exact ⟨0, by omega, rfl, rfl, HB2'.out, Keep.refl _ _⟩
  case round =>
    obtain ⟨c, hc, hc4, rfl, hB, hK⟩ := hrel
    have HB := Lib.hid hB
    have HK := Lib.hid hK
    clear hB hK
    by_cases hlt : c < 16
    · go_upto_block 2 with fail
      go_wp2_with fail
      rw [show decide ((c : Int) < 16) = true from decide_eq_true (by omega)]
      go_loopw [5] (fun s5 wi => ∃ r : Nat, r ≤ 4 ∧ s5 = .int .i64 r ∧ Blk wi G 5 ((upd (Aes.mixAt t) (List.replicate 16 0) (c + r)).map (Value.int .u8)).toArray ∧ Keep [G] w2 wi) (fun s5 _ => 4 - (intOf s5).toNat)
      case atStart => exact ⟨0, by omega, rfl, HB.out, HK.out⟩
      case round =>
        obtain ⟨r, hr, rfl, hB, hK⟩ := hrel
        have HBi := Lib.hid hB
        have HKi := Lib.hid hK
        clear hB hK
        by_cases hlt2 : r < 4
        · go_upto_region 8 with fail
          have HKw := Lib.hid (HK2.out.more0.trans HKi.out)
          have hcc : ∀ j, j < 16 → wr.cell? ⟨b, off + j, none⟩ = some (.int .u8 ((nb t j : Nat) : Int)) := fun j hj => by
            rw [← nb_int HTW.out j]
            exact (HKw.out.cell (p := ⟨b, off + j, none⟩) hb (by simpa using hbG)).trans (HC.out j hj)
          obtain ⟨j1, hj1⟩ : ∃ j1, j1 = (r + 1) % 4 := ⟨_, rfl⟩
          obtain ⟨j2, hj2⟩ : ∃ j2, j2 = (r + 2) % 4 := ⟨_, rfl⟩
          obtain ⟨j3, hj3⟩ : ∃ j3, j3 = (r + 3) % 4 := ⟨_, rfl⟩
          have hm : Aes.mixAt t (c + r) = ((Aes.mixN (nb t (c + r)) (nb t (c + j1)) (nb t (c + j2)) (nb t (c + j3)) : Nat) : Int) := by
            unfold Aes.mixAt
            rw [show (c + r) / 4 * 4 = c by omega, show (c + r) % 4 = r by omega, hj1, hj2, hj3]
          have HM := Lib.hid hm
          have n0 := nb_lt HTW.out (c + r)
          have n1 := nb_lt HTW.out (c + j1)
          have n2 := nb_lt HTW.out (c + j2)
          have n3 := nb_lt HTW.out (c + j3)
          have c0 := hcc (c + r) (by omega)
          have c1 := hcc (c + j1) (by omega)
          have c2 := hcc (c + j2) (by omega)
          have c3 := hcc (c + j3) (by omega)
          have fr1 := HBi.out.frozen (c + r)
          have cG : wr.cell? ⟨G, c + r, none⟩ = some (.int .u8 0) := by
            rw [HBi.out.cell]
            exact upd_put _ _ _ (Nat.le_refl _) (by omega)
          have hr1 : IntKind.i64.wrap ((r : Int) + 1) = (r : Int) + 1 := IntWalk.i64_in _ ⟨by omega, by omega⟩
          have hr2 : IntKind.i64.wrap ((r : Int) + 2) = (r : Int) + 2 := IntWalk.i64_in _ ⟨by omega, by omega⟩
          have hr3 : IntKind.i64.wrap ((r : Int) + 3) = (r : Int) + 3 := IntWalk.i64_in _ ⟨by omega, by omega⟩
          have d1 : ((r : Int) + 1).tmod 4 = (j1 : Int) := by rw [Int.tmod_eq_emod_of_nonneg (by omega)]; omega
          have d2 : ((r : Int) + 2).tmod 4 = (j2 : Int) := by rw [Int.tmod_eq_emod_of_nonneg (by omega)]; omega
          have d3 : ((r : Int) + 3).tmod 4 = (j3 : Int) := by rw [Int.tmod_eq_emod_of_nonneg (by omega)]; omega
          have q1 : j1 < 4 := by omega
          have q2 : j2 < 4 := by omega
          have q3 : j3 < 4 := by omega
          have hc12 : c ≤ 12 := by omega
          clear hcc hm hj1 hj2 hj3
          have e0 : ((c : Int) + (r : Int)).toNat = c + r := by omega
          have e1 : ((c : Int) + (j1 : Int)).toNat = c + j1 := by omega
          have e2 : ((c : Int) + (j2 : Int)).toNat = c + j2 := by omega
          have e3 : ((c : Int) + (j3 : Int)).toNat = c + j3 := by omega
          have b0 : (0 : Int) ≤ (c : Int) + r ∧ (c : Int) + r < 16 := ⟨by omega, by omega⟩
          have b1 : (0 : Int) ≤ (c : Int) + j1 ∧ (c : Int) + j1 < 16 := ⟨by omega, by omega⟩
          have b2 : (0 : Int) ≤ (c : Int) + j2 ∧ (c : Int) + j2 < 16 := ⟨by omega, by omega⟩
          have b3 : (0 : Int) ≤ (c : Int) + j3 ∧ (c : Int) + j3 < 16 := ⟨by omega, by omega⟩
          have w0 : IntKind.i64.wrap ((c : Int) + r) = (c : Int) + r := IntWalk.i64_in _ ⟨by omega, by omega⟩
          have w1 : IntKind.i64.wrap ((c : Int) + j1) = (c : Int) + j1 := IntWalk.i64_in _ ⟨by omega, by omega⟩
          have w2 : IntKind.i64.wrap ((c : Int) + j2) = (c : Int) + j2 := IntWalk.i64_in _ ⟨by omega, by omega⟩
          have w3 : IntKind.i64.wrap ((c : Int) + j3) = (c : Int) + j3 := IntWalk.i64_in _ ⟨by omega, by omega⟩
          generalize nb t (c + r) = m0 at *
          generalize nb t (c + j1) = m1 at *
          generalize nb t (c + j2) = m2 at *
          generalize nb t (c + j3) = m3 at *
          have T1 := fun w => Lib.hid (rt2 m0 w n0)
          have T2 := fun w => Lib.hid (rt3 m1 w n1)
          go_region_held3 (fun w' => w'.cell? ⟨b, off + (c + r), none⟩ = some (.int .u8 (m0 : Int)) ∧ w'.cell? ⟨b, off + (c + j1), none⟩ = some (.int .u8 (m1 : Int)) ∧ w'.cell? ⟨b, off + (c + j2), none⟩ = some (.int .u8 (m2 : Int)) ∧ w'.cell? ⟨b, off + (c + j3), none⟩ = some (.int .u8 (m3 : Int)))
            (go_keep)
            (first
              | (go_at_call 37; with_reducible refine (T1 _).out.mono ?_; rintro e w' ⟨rfl, rfl⟩)
              | (go_at_call 37; with_reducible refine (T2 _).out.mono ?_; rintro e w' ⟨rfl, rfl⟩))
          have HX := Lib.hid (Aes.mix_int m0 m1 m2 m3 n2 n3)
          clear T1 T2 c0 c1 c2 c3 cG fr1 hr1 hr2 hr3 d1 d2 d3 e0 e1 e2 e3 b0 b1 b2 b3 w0 w1 w2 w3
          go_wp2_with fail
          refine ⟨?_, by simp [intOf]; omega⟩
          exact ⟨r + 1, by omega, by go_num, (HBi.out.upd (by simp; omega) (HX.out.trans HM.out.symm)).drew, (HKi.out.setCell (.inl (List.mem_singleton.2 rfl)) _).drew⟩
        · obtain rfl : r = 4 := by omega
          go_wp2_with fail
          exact ⟨⟨c + 4, by omega, by omega, by go_num, HBi.out, HKi.out⟩, by simp only [intOf]; omega⟩
    · obtain rfl : c = 16 := by omega
      go_wp2_with fail
      go_ret
      refine ⟨G, rfl, by rw [HG.out]; exact Nat.le_refl _, ?_, HK2.out.trans' HK.out (fun x hx => by right; have := HG.out; simp at hx; omega)⟩
      have := HB.out
      rw [upd_full _ _ _ (by simp)] at this
      exact this

theorem wf_i64' (x : Int) (h0 : -1000000 ≤ x) (h1 : x ≤ 1000000) : IntKind.i64.wrap x = x := IntWalk.i64_in _ ⟨by omega, by omega⟩
theorem sl_cell {w : World} {g off L c : Nat} {l : List Int} (h : Sl .u8 w (.slice (some ⟨g, off, none⟩) L c) l) (j : Nat) (hj : j < l.length) : w.cell? ⟨g, off + j, none⟩ = some (.int .u8 ((nb l j : Nat) : Int)) := by
  obtain ⟨b, o, c', e, _, _, hc⟩ := h.cells (by omega)
  simp only [Value.slice.injEq, Option.some.injEq, Addr.mk.injEq, and_true] at e
  obtain ⟨⟨rfl, rfl⟩, rfl, rfl⟩ := e
  rw [hc j hj, ← nb_int h.wf j, List.getD_eq_getElem?_getD]

noncomputable def hkeys6 : Code := regionOf Try.f34 6
set_option maxRecDepth 100000 in
set_option maxHeartbeats 8000000 in
theorem keys_reg6 (R : Act → World → Prop) (a : Act) (w2 : World) (gb ob bc g off oc i cc : Nat) (l : List Int) (hl : Hid (l.length = 4 * i)) (hi4 : 4 ≤ i) (hi : i ≤ 43) (hS : Hid (Sl .u8 w2 (.slice (some ⟨g, off, none⟩) (4 * i) oc) l))
    (hF : Fr 95 [(0, .slice (some ⟨gb, ob, none⟩) 256 bc), (5, .slice (some ⟨g, off, none⟩) (4 * i) oc), (6, .int .u8 (cc : Nat)), (7, .int .i64 i)] a)
    (hR : Hid (∀ a' w' T, Fr 95 [(0, .slice (some ⟨gb, ob, none⟩) 256 bc), (5, .slice (some ⟨g, off, none⟩) (4 * i) oc), (6, .int .u8 (cc : Nat)), (7, .int .i64 i), (8, .slice (some ⟨T, 0, none⟩) 4 4)] a' → w2.heap.size ≤ T → Blk w' T 5 #[.int .u8 ((nb l (4 * i - 4) : Nat) : Int), .int .u8 ((nb l (4 * i - 3) : Nat) : Int), .int .u8 ((nb l (4 * i - 2) : Nat) : Int), .int .u8 ((nb l (4 * i - 1) : Nat) : Int)] → Keep [] w2 w' → R a' w')) :
    Code.wp Try.prog hkeys6 (OutN R) a w2 := by
  have LD : ∀ y, Keep [] w2 y → ∀ j, j < 4 * i → y.cell? ⟨g, off + j, none⟩ = some (.int .u8 ((nb l j : Nat) : Int)) := fun y hk j hj => sl_cell (hS.out.keep0 hk) j (by rw [hl.out]; exact hj)
  have m1 : IntKind.i64.wrap (4 * (i : Int)) = 4 * i := wf_i64' _ (by omega) (by omega)
  have s4 : IntKind.i64.wrap (4 * (i : Int) - 4) = 4 * i - 4 := wf_i64' _ (by omega) (by omega)
  have e4 : (4 * (i : Int) - 4).toNat = 4 * i - 4 := by omega
  have g4 : (4 : Int) ≤ 4 * (i : Int) := by omega
  have b4 : (0 : Int) ≤ 4 * (i : Int) - 4 ∧ 4 * (i : Int) - 4 < 4 * i := ⟨by omega, by omega⟩
  have s3 : IntKind.i64.wrap (4 * (i : Int) - 3) = 4 * i - 3 := wf_i64' _ (by omega) (by omega)
  have e3 : (4 * (i : Int) - 3).toNat = 4 * i - 3 := by omega
  have g3 : (3 : Int) ≤ 4 * (i : Int) := by omega
  have b3 : (0 : Int) ≤ 4 * (i : Int) - 3 ∧ 4 * (i : Int) - 3 < 4 * i := ⟨by omega, by omega⟩
  have s2 : IntKind.i64.wrap (4 * (i : Int) - 2) = 4 * i - 2 := wf_i64' _ (by omega) (by omega)
  have e2 : (4 * (i : Int) - 2).toNat = 4 * i - 2 := by omega
  have g2 : (2 : Int) ≤ 4 * (i : Int) := by omega
  have b2 : (0 : Int) ≤ 4 * (i : Int) - 2 ∧ 4 * (i : Int) - 2 < 4 * i := ⟨by omega, by omega⟩
  have s1 : IntKind.i64.wrap (4 * (i : Int) - 1) = 4 * i - 1 := wf_i64' _ (by omega) (by omega)
  have e1 : (4 * (i : Int) - 1).toNat = 4 * i - 1 := by omega
  have g1 : (1 : Int) ≤ 4 * (i : Int) := by omega
  have b1 : (0 : Int) ≤ 4 * (i : Int) - 1 ∧ 4 * (i : Int) - 1 < 4 * i := ⟨by omega, by omega⟩
  obtain ⟨f, ⟨f0, f5, f6, f7, -⟩, rfl⟩ := hF.open95
  simp only [f0, f5, f6, f7]
  clear f0 f5 f6 f7 hF
  conv => arg 2; whnf
  refine wp_region_held_drew (S := fun y => Keep [] w2 y) (by kernel_rfl) ((Keep.refl [] w2).drew) (fun hk0 => ?_)
  obtain ⟨W0, hW0⟩ : ∃ W0, W0 = w2.drew := ⟨_, rfl⟩
  rw [← hW0] at hk0 ⊢
  clear hW0
  go_simp
  refine wpAnyH_take (i := 0) (v := ?_) rfl (by kernel_rfl) (by kernel_rfl) (by kernel_rfl) (fun _ _ _ h => h) (Or.inl ⟨by rfl, fun y hy => ?_⟩) hk0 ?_
  rotate_left
  · go_simp; try (with_reducible rfl)
  rotate_left
  go_simp
  refine wpAnyH_take (i := 1) (v := ?_) rfl (by kernel_rfl) (by kernel_rfl) (by kernel_rfl) (fun _ _ _ h => h) (Or.inl ⟨by rfl, fun y hy => ?_⟩) hk0 ?_
  rotate_left
  · go_simp; try (with_reducible rfl)
  rotate_left
  go_simp
  refine wpAnyH_take (i := 2) (v := ?_) rfl (by kernel_rfl) (by kernel_rfl) (by kernel_rfl) (fun _ _ _ h => h) (Or.inl ⟨by rfl, fun y hy => ?_⟩) hk0 ?_
  rotate_left
  · go_simp; try (with_reducible rfl)
  rotate_left
  go_simp
  refine wpAnyH_take (i := 3) (v := ?_) rfl (by kernel_rfl) (by kernel_rfl) (by kernel_rfl) (fun _ _ _ h => h) (Or.inl ⟨by rfl, fun y hy => ?_⟩) hk0 ?_
  rotate_left
  · go_simp; try (with_reducible rfl)
  rotate_left
  go_simp
  refine wpAnyH_take (i := 4) (v := ?_) rfl (by kernel_rfl) (by kernel_rfl) (by kernel_rfl) (fun _ _ _ h => h) (Or.inl ⟨by rfl, fun y hy => ?_⟩) hk0 ?_
  rotate_left
  · go_simp; try (with_reducible rfl)
  rotate_left
  go_simp
  refine wpAnyH_take (i := 5) (v := ?_) rfl (by kernel_rfl) (by kernel_rfl) (by kernel_rfl) (fun _ _ _ h => h) (Or.inl ⟨by rfl, fun y hy => ?_⟩) hk0 ?_
  rotate_left
  · have q := LD y hy (4 * i - 4) (by omega); go_simp; try (with_reducible rfl)
  rotate_left
  go_simp
  refine wpAnyH_take (i := 6) (v := ?_) rfl (by kernel_rfl) (by kernel_rfl) (by kernel_rfl) (fun _ _ _ h => h) (Or.inl ⟨by rfl, fun y hy => ?_⟩) hk0 ?_
  rotate_left
  · go_simp; try (with_reducible rfl)
  rotate_left
  go_simp
  refine wpAnyH_take (i := 7) (v := ?_) rfl (by kernel_rfl) (by kernel_rfl) (by kernel_rfl) (fun _ _ _ h => h) (Or.inl ⟨by rfl, fun y hy => ?_⟩) hk0 ?_
  rotate_left
  · go_simp; try (with_reducible rfl)
  rotate_left
  go_simp
  refine wpAnyH_take (i := 8) (v := ?_) rfl (by kernel_rfl) (by kernel_rfl) (by kernel_rfl) (fun _ _ _ h => h) (Or.inl ⟨by rfl, fun y hy => ?_⟩) hk0 ?_
  rotate_left
  · go_simp; try (with_reducible rfl)
  rotate_left
  go_simp
  refine wpAnyH_take (i := 9) (v := ?_) rfl (by kernel_rfl) (by kernel_rfl) (by kernel_rfl) (fun _ _ _ h => h) (Or.inl ⟨by rfl, fun y hy => ?_⟩) hk0 ?_
  rotate_left
  · go_simp; try (with_reducible rfl)
  rotate_left
  go_simp
  refine wpAnyH_take (i := 10) (v := ?_) rfl (by kernel_rfl) (by kernel_rfl) (by kernel_rfl) (fun _ _ _ h => h) (Or.inl ⟨by rfl, fun y hy => ?_⟩) hk0 ?_
  rotate_left
  · go_simp; try (with_reducible rfl)
  rotate_left
  go_simp
  refine wpAnyH_take (i := 11) (v := ?_) rfl (by kernel_rfl) (by kernel_rfl) (by kernel_rfl) (fun _ _ _ h => h) (Or.inl ⟨by rfl, fun y hy => ?_⟩) hk0 ?_
  rotate_left
  · have q := LD y hy (4 * i - 3) (by omega); go_simp; try (with_reducible rfl)
  rotate_left
  go_simp
  refine wpAnyH_take (i := 12) (v := ?_) rfl (by kernel_rfl) (by kernel_rfl) (by kernel_rfl) (fun _ _ _ h => h) (Or.inl ⟨by rfl, fun y hy => ?_⟩) hk0 ?_
  rotate_left
  · go_simp; try (with_reducible rfl)
  rotate_left
  go_simp
  refine wpAnyH_take (i := 13) (v := ?_) rfl (by kernel_rfl) (by kernel_rfl) (by kernel_rfl) (fun _ _ _ h => h) (Or.inl ⟨by rfl, fun y hy => ?_⟩) hk0 ?_
  rotate_left
  · go_simp; try (with_reducible rfl)
  rotate_left
  go_simp
  refine wpAnyH_take (i := 14) (v := ?_) rfl (by kernel_rfl) (by kernel_rfl) (by kernel_rfl) (fun _ _ _ h => h) (Or.inl ⟨by rfl, fun y hy => ?_⟩) hk0 ?_
  rotate_left
  · go_simp; try (with_reducible rfl)
  rotate_left
  go_simp
  refine wpAnyH_take (i := 15) (v := ?_) rfl (by kernel_rfl) (by kernel_rfl) (by kernel_rfl) (fun _ _ _ h => h) (Or.inl ⟨by rfl, fun y hy => ?_⟩) hk0 ?_
  rotate_left
  · go_simp; try (with_reducible rfl)
  rotate_left
  go_simp
  refine wpAnyH_take (i := 16) (v := ?_) rfl (by kernel_rfl) (by kernel_rfl) (by kernel_rfl) (fun _ _ _ h => h) (Or.inl ⟨by rfl, fun y hy => ?_⟩) hk0 ?_
  rotate_left
  · go_simp; try (with_reducible rfl)
  rotate_left
  go_simp
  refine wpAnyH_take (i := 17) (v := ?_) rfl (by kernel_rfl) (by kernel_rfl) (by kernel_rfl) (fun _ _ _ h => h) (Or.inl ⟨by rfl, fun y hy => ?_⟩) hk0 ?_
  rotate_left
  · have q := LD y hy (4 * i - 2) (by omega); go_simp; try (with_reducible rfl)
  rotate_left
  go_simp
  refine wpAnyH_take (i := 18) (v := ?_) rfl (by kernel_rfl) (by kernel_rfl) (by kernel_rfl) (fun _ _ _ h => h) (Or.inl ⟨by rfl, fun y hy => ?_⟩) hk0 ?_
  rotate_left
  · go_simp; try (with_reducible rfl)
  rotate_left
  go_simp
  refine wpAnyH_take (i := 19) (v := ?_) rfl (by kernel_rfl) (by kernel_rfl) (by kernel_rfl) (fun _ _ _ h => h) (Or.inl ⟨by rfl, fun y hy => ?_⟩) hk0 ?_
  rotate_left
  · go_simp; try (with_reducible rfl)
  rotate_left
  go_simp
  refine wpAnyH_take (i := 20) (v := ?_) rfl (by kernel_rfl) (by kernel_rfl) (by kernel_rfl) (fun _ _ _ h => h) (Or.inl ⟨by rfl, fun y hy => ?_⟩) hk0 ?_
  rotate_left
  · go_simp; try (with_reducible rfl)
  rotate_left
  go_simp
  refine wpAnyH_take (i := 21) (v := ?_) rfl (by kernel_rfl) (by kernel_rfl) (by kernel_rfl) (fun _ _ _ h => h) (Or.inl ⟨by rfl, fun y hy => ?_⟩) hk0 ?_
  rotate_left
  · go_simp; try (with_reducible rfl)
  rotate_left
  go_simp
  refine wpAnyH_take (i := 22) (v := ?_) rfl (by kernel_rfl) (by kernel_rfl) (by kernel_rfl) (fun _ _ _ h => h) (Or.inl ⟨by rfl, fun y hy => ?_⟩) hk0 ?_
  rotate_left
  · go_simp; try (with_reducible rfl)
  rotate_left
  go_simp
  refine wpAnyH_take (i := 23) (v := ?_) rfl (by kernel_rfl) (by kernel_rfl) (by kernel_rfl) (fun _ _ _ h => h) (Or.inl ⟨by rfl, fun y hy => ?_⟩) hk0 ?_
  rotate_left
  · have q := LD y hy (4 * i - 1) (by omega); go_simp; try (with_reducible rfl)
  rotate_left
  go_simp
  refine wpAnyH_ready (rs := [24]) (by kernel_rfl) (by simp) ?_
  refine AllReadyH.cons rfl (fun K hK => ?_) AllReadyH.nil
  apply step_wp
  · rfl
  refine ow_slice _ 5 4 _ rfl Try.underlying26 #[.int .u8 ((nb l (4 * i - 4) : Nat) : Int), .int .u8 ((nb l (4 * i - 3) : Nat) : Int), .int .u8 ((nb l (4 * i - 2) : Nat) : Int), .int .u8 ((nb l (4 * i - 1) : Nat) : Int)] [(0, .int .u8 ((nb l (4 * i - 4) : Nat) : Int)), (1, .int .u8 ((nb l (4 * i - 3) : Nat) : Int)), (2, .int .u8 ((nb l (4 * i - 2) : Nat) : Int)), (3, .int .u8 ((nb l (4 * i - 1) : Nat) : Int))] (by kernel_rfl) (by kernel_rfl) ?_
  intro T W1 hT hbT hs1
  replace hT : w2.heap.size ≤ T := by rw [hT]; exact hk0.size
  have hk1 : Keep [] w2 W1 := hk0.trans hs1
  refine hK.out _ _ hk1 (fun _ => ?_)
  clear hK K
  go_simp
  refine wpAnyH_take (i := 25) (v := ?_) rfl (by kernel_rfl) (by kernel_rfl) (by kernel_rfl) (fun _ _ _ h => h) (Or.inl ⟨by rfl, fun y hy => ?_⟩) hk1 ?_
  rotate_left
  · go_simp; try (with_reducible rfl)
  rotate_left
  go_simp
  exact wpAnyH_done (by kernel_rfl) (hR.out _ _ T ⟨rfl, rfl, by repeat (first | exact trivial | refine ⟨rfl, ?_⟩)⟩ hT hbT hk1) _

theorem box_cell {y : World} {gb ob bc : Nat} (h : Sl .u8 y (.slice (some ⟨gb, ob, none⟩) 256 bc) (boxL 256)) (x : Nat) (hx : x < 256) : y.cell? ⟨gb, ob + x, none⟩ = some (.int .u8 ((Aes.box x : Nat) : Int)) := by
  have := sl_cell h x (by rw [boxL_length]; exact hx)
  rw [this]
  have h1 : nb (boxL 256) x = Aes.box x := by
    unfold nb boxL
    rw [List.getD_eq_getElem?_getD, List.getElem?_map, List.getElem?_range hx]
    simp
  rw [h1]
noncomputable def hkeys8 : Code := regionOf Try.f34 8
set_option maxRecDepth 100000 in
set_option maxHeartbeats 8000000 in
theorem keys_reg8 (R : Act → World → Prop) (a : Act) (w2 : World) (gb ob bc g off oc i cc T n0 n1 n2 n3 : Nat) (hb : Hid (Sl .u8 w2 (.slice (some ⟨gb, ob, none⟩) 256 bc) (boxL 256))) (hT : Hid (Blk w2 T 5 #[.int .u8 (n0 : Int), .int .u8 (n1 : Int), .int .u8 (n2 : Int), .int .u8 (n3 : Int)]))
    (h0 : n0 < 256) (h1 : n1 < 256) (h2 : n2 < 256) (h3 : n3 < 256) (hcc : cc < 256)
    (hF : Fr 95 [(0, .slice (some ⟨gb, ob, none⟩) 256 bc), (5, .slice (some ⟨g, off, none⟩) (4 * i) oc), (6, .int .u8 (cc : Nat)), (8, .slice (some ⟨T, 0, none⟩) 4 4), (7, .int .i64 i)] a)
    (hR : Hid (∀ a' w' T, Fr 95 [(0, .slice (some ⟨gb, ob, none⟩) 256 bc), (5, .slice (some ⟨g, off, none⟩) (4 * i) oc), (6, .int .u8 (cc : Nat)), (8, .slice (some ⟨T, 0, none⟩) 4 4), (7, .int .i64 i)] a' → w2.heap.size ≤ T → Blk w' T 5 #[.int .u8 ((Aes.box n1 ^^^ cc : Nat) : Int), .int .u8 ((Aes.box n2 : Nat) : Int), .int .u8 ((Aes.box n3 : Nat) : Int), .int .u8 ((Aes.box n0 : Nat) : Int)] → Keep [] w2 w' → R a' w')) :
    Code.wp Try.prog hkeys8 (OutN R) a w2 := by
  have LB : ∀ y, Keep [] w2 y → ∀ x, x < 256 → y.cell? ⟨gb, ob + x, none⟩ = some (.int .u8 ((Aes.box x : Nat) : Int)) := fun y hk x hx => box_cell (hb.out.keep0 hk) x hx
  have LT : ∀ y, Keep [] w2 y → y.cell? ⟨T, 0, none⟩ = some (.int .u8 (n0 : Int)) ∧ y.cell? ⟨T, 1, none⟩ = some (.int .u8 (n1 : Int)) ∧ y.cell? ⟨T, 2, none⟩ = some (.int .u8 (n2 : Int)) ∧ y.cell? ⟨T, 3, none⟩ = some (.int .u8 (n3 : Int)) := fun y hk => by
    have h := hT.out.keep hk (by simp)
    exact ⟨h.cell 0, h.cell 1, h.cell 2, h.cell 3⟩
  have X := Lib.hid (u8_xor_nat (Aes.box n1) cc (Aes.box_lt n1) hcc)
  have y0 : (0 : Int) ≤ (n0 : Int) ∧ (n0 : Int) < 256 := ⟨by omega, by omega⟩
  have y1 : (0 : Int) ≤ (n1 : Int) ∧ (n1 : Int) < 256 := ⟨by omega, by omega⟩
  have y2 : (0 : Int) ≤ (n2 : Int) ∧ (n2 : Int) < 256 := ⟨by omega, by omega⟩
  have y3 : (0 : Int) ≤ (n3 : Int) ∧ (n3 : Int) < 256 := ⟨by omega, by omega⟩
  obtain ⟨f, ⟨f0, f5, f6, f8, f7, -⟩, rfl⟩ := hF.open95
  simp only [f0, f5, f6, f8, f7]
  clear f0 f5 f6 f8 f7 hF
  conv => arg 2; whnf
  refine wp_region_held_drew (S := fun y => Keep [] w2 y) (by kernel_rfl) ((Keep.refl [] w2).drew) (fun hk0 => ?_)
  obtain ⟨W0, hW0⟩ : ∃ W0, W0 = w2.drew := ⟨_, rfl⟩
  rw [← hW0] at hk0 ⊢
  clear hW0
  go_simp
  refine wpAnyH_take (i := 0) (v := ?_) rfl (by kernel_rfl) (by kernel_rfl) (by kernel_rfl) (fun _ _ _ h => h) (Or.inl ⟨by rfl, fun y hy => ?_⟩) hk0 ?_
  rotate_left
  · go_simp; try (with_reducible rfl)
  rotate_left
  go_simp
  refine wpAnyH_take (i := 1) (v := ?_) rfl (by kernel_rfl) (by kernel_rfl) (by kernel_rfl) (fun _ _ _ h => h) (Or.inl ⟨by rfl, fun y hy => ?_⟩) hk0 ?_
  rotate_left
  · go_simp; try (with_reducible rfl)
  rotate_left
  go_simp
  refine wpAnyH_take (i := 2) (v := ?_) rfl (by kernel_rfl) (by kernel_rfl) (by kernel_rfl) (fun _ _ _ h => h) (Or.inl ⟨by rfl, fun y hy => ?_⟩) hk0 ?_
  rotate_left
  · go_simp; try (with_reducible rfl)
  rotate_left
  go_simp
  refine wpAnyH_take (i := 3) (v := ?_) rfl (by kernel_rfl) (by kernel_rfl) (by kernel_rfl) (fun _ _ _ h => h) (Or.inl ⟨by rfl, fun y hy => ?_⟩) hk0 ?_
  rotate_left
  · have q := (LT y hy).2.1; go_simp; try (with_reducible rfl)
  rotate_left
  go_simp
  refine wpAnyH_take (i := 4) (v := ?_) rfl (by kernel_rfl) (by kernel_rfl) (by kernel_rfl) (fun _ _ _ h => h) (Or.inl ⟨by rfl, fun y hy => ?_⟩) hk0 ?_
  rotate_left
  · go_simp; try (with_reducible rfl)
  rotate_left
  go_simp
  refine wpAnyH_take (i := 5) (v := ?_) rfl (by kernel_rfl) (by kernel_rfl) (by kernel_rfl) (fun _ _ _ h => h) (Or.inl ⟨by rfl, fun y hy => ?_⟩) hk0 ?_
  rotate_left
  · have q := LB y hy n1 h1; go_simp; try (with_reducible rfl)
  rotate_left
  go_simp
  refine wpAnyH_take (i := 6) (v := ?_) rfl (by kernel_rfl) (by kernel_rfl) (by kernel_rfl) (fun _ _ _ h => h) (Or.inl ⟨by rfl, fun y hy => ?_⟩) hk0 ?_
  rotate_left
  · go_simp; try (with_reducible rfl)
  rotate_left
  go_simp
  refine wpAnyH_take (i := 7) (v := ?_) rfl (by kernel_rfl) (by kernel_rfl) (by kernel_rfl) (fun _ _ _ h => h) (Or.inl ⟨by rfl, fun y hy => ?_⟩) hk0 ?_
  rotate_left
  · go_simp; try (with_reducible rfl)
  rotate_left
  go_simp
  refine wpAnyH_take (i := 8) (v := ?_) rfl (by kernel_rfl) (by kernel_rfl) (by kernel_rfl) (fun _ _ _ h => h) (Or.inl ⟨by rfl, fun y hy => ?_⟩) hk0 ?_
  rotate_left
  · go_simp; try (with_reducible rfl)
  rotate_left
  go_simp
  refine wpAnyH_take (i := 9) (v := ?_) rfl (by kernel_rfl) (by kernel_rfl) (by kernel_rfl) (fun _ _ _ h => h) (Or.inl ⟨by rfl, fun y hy => ?_⟩) hk0 ?_
  rotate_left
  · go_simp; try (with_reducible rfl)
  rotate_left
  go_simp
  refine wpAnyH_take (i := 10) (v := ?_) rfl (by kernel_rfl) (by kernel_rfl) (by kernel_rfl) (fun _ _ _ h => h) (Or.inl ⟨by rfl, fun y hy => ?_⟩) hk0 ?_
  rotate_left
  · go_simp; try (with_reducible rfl)
  rotate_left
  go_simp
  refine wpAnyH_take (i := 11) (v := ?_) rfl (by kernel_rfl) (by kernel_rfl) (by kernel_rfl) (fun _ _ _ h => h) (Or.inl ⟨by rfl, fun y hy => ?_⟩) hk0 ?_
  rotate_left
  · have q := (LT y hy).2.2.1; go_simp; try (with_reducible rfl)
  rotate_left
  go_simp
  refine wpAnyH_take (i := 12) (v := ?_) rfl (by kernel_rfl) (by kernel_rfl) (by kernel_rfl) (fun _ _ _ h => h) (Or.inl ⟨by rfl, fun y hy => ?_⟩) hk0 ?_
  rotate_left
  · go_simp; try (with_reducible rfl)
  rotate_left
  go_simp
  refine wpAnyH_take (i := 13) (v := ?_) rfl (by kernel_rfl) (by kernel_rfl) (by kernel_rfl) (fun _ _ _ h => h) (Or.inl ⟨by rfl, fun y hy => ?_⟩) hk0 ?_
  rotate_left
  · have q := LB y hy n2 h2; go_simp; try (with_reducible rfl)
  rotate_left
  go_simp
  refine wpAnyH_take (i := 14) (v := ?_) rfl (by kernel_rfl) (by kernel_rfl) (by kernel_rfl) (fun _ _ _ h => h) (Or.inl ⟨by rfl, fun y hy => ?_⟩) hk0 ?_
  rotate_left
  · go_simp; try (with_reducible rfl)
  rotate_left
  go_simp
  refine wpAnyH_take (i := 15) (v := ?_) rfl (by kernel_rfl) (by kernel_rfl) (by kernel_rfl) (fun _ _ _ h => h) (Or.inl ⟨by rfl, fun y hy => ?_⟩) hk0 ?_
  rotate_left
  · go_simp; try (with_reducible rfl)
  rotate_left
  go_simp
  refine wpAnyH_take (i := 16) (v := ?_) rfl (by kernel_rfl) (by kernel_rfl) (by kernel_rfl) (fun _ _ _ h => h) (Or.inl ⟨by rfl, fun y hy => ?_⟩) hk0 ?_
  rotate_left
  · go_simp; try (with_reducible rfl)
  rotate_left
  go_simp
  refine wpAnyH_take (i := 17) (v := ?_) rfl (by kernel_rfl) (by kernel_rfl) (by kernel_rfl) (fun _ _ _ h => h) (Or.inl ⟨by rfl, fun y hy => ?_⟩) hk0 ?_
  rotate_left
  · have q := (LT y hy).2.2.2; go_simp; try (with_reducible rfl)
  rotate_left
  go_simp
  refine wpAnyH_take (i := 18) (v := ?_) rfl (by kernel_rfl) (by kernel_rfl) (by kernel_rfl) (fun _ _ _ h => h) (Or.inl ⟨by rfl, fun y hy => ?_⟩) hk0 ?_
  rotate_left
  · go_simp; try (with_reducible rfl)
  rotate_left
  go_simp
  refine wpAnyH_take (i := 19) (v := ?_) rfl (by kernel_rfl) (by kernel_rfl) (by kernel_rfl) (fun _ _ _ h => h) (Or.inl ⟨by rfl, fun y hy => ?_⟩) hk0 ?_
  rotate_left
  · have q := LB y hy n3 h3; go_simp; try (with_reducible rfl)
  rotate_left
  go_simp
  refine wpAnyH_take (i := 20) (v := ?_) rfl (by kernel_rfl) (by kernel_rfl) (by kernel_rfl) (fun _ _ _ h => h) (Or.inl ⟨by rfl, fun y hy => ?_⟩) hk0 ?_
  rotate_left
  · go_simp; try (with_reducible rfl)
  rotate_left
  go_simp
  refine wpAnyH_take (i := 21) (v := ?_) rfl (by kernel_rfl) (by kernel_rfl) (by kernel_rfl) (fun _ _ _ h => h) (Or.inl ⟨by rfl, fun y hy => ?_⟩) hk0 ?_
  rotate_left
  · go_simp; try (with_reducible rfl)
  rotate_left
  go_simp
  refine wpAnyH_take (i := 22) (v := ?_) rfl (by kernel_rfl) (by kernel_rfl) (by kernel_rfl) (fun _ _ _ h => h) (Or.inl ⟨by rfl, fun y hy => ?_⟩) hk0 ?_
  rotate_left
  · go_simp; try (with_reducible rfl)
  rotate_left
  go_simp
  refine wpAnyH_take (i := 23) (v := ?_) rfl (by kernel_rfl) (by kernel_rfl) (by kernel_rfl) (fun _ _ _ h => h) (Or.inl ⟨by rfl, fun y hy => ?_⟩) hk0 ?_
  rotate_left
  · have q := (LT y hy).1; go_simp; try (with_reducible rfl)
  rotate_left
  go_simp
  refine wpAnyH_take (i := 24) (v := ?_) rfl (by kernel_rfl) (by kernel_rfl) (by kernel_rfl) (fun _ _ _ h => h) (Or.inl ⟨by rfl, fun y hy => ?_⟩) hk0 ?_
  rotate_left
  · go_simp; try (with_reducible rfl)
  rotate_left
  go_simp
  refine wpAnyH_take (i := 25) (v := ?_) rfl (by kernel_rfl) (by kernel_rfl) (by kernel_rfl) (fun _ _ _ h => h) (Or.inl ⟨by rfl, fun y hy => ?_⟩) hk0 ?_
  rotate_left
  · have q := LB y hy n0 h0; go_simp; try (with_reducible rfl)
  rotate_left
  go_simp
  refine wpAnyH_ready (rs := [26]) (by kernel_rfl) (by simp) ?_
  refine AllReadyH.cons rfl (fun K hK => ?_) AllReadyH.nil
  apply step_wp
  · rfl
  refine ow_slice _ 5 4 _ rfl Try.underlying26 #[.int .u8 (bits .xor .u8 ((Aes.box n1 : Nat) : Int) (cc : Int)), .int .u8 ((Aes.box n2 : Nat) : Int), .int .u8 ((Aes.box n3 : Nat) : Int), .int .u8 ((Aes.box n0 : Nat) : Int)] [(0, .int .u8 (bits .xor .u8 ((Aes.box n1 : Nat) : Int) (cc : Int))), (1, .int .u8 ((Aes.box n2 : Nat) : Int)), (2, .int .u8 ((Aes.box n3 : Nat) : Int)), (3, .int .u8 ((Aes.box n0 : Nat) : Int))] (by kernel_rfl) (by kernel_rfl) ?_
  intro T1 W1 hT1 hbT hs1
  replace hT1 : w2.heap.size ≤ T1 := by rw [hT1]; exact hk0.size
  have hk1 : Keep [] w2 W1 := hk0.trans hs1
  refine hK.out _ _ hk1 (fun _ => ?_)
  clear hK K
  go_simp
  refine wpAnyH_take (i := 27) (v := ?_) rfl (by kernel_rfl) (by kernel_rfl) (by kernel_rfl) (fun _ _ _ h => h) (Or.inl ⟨by rfl, fun y hy => ?_⟩) hk1 ?_
  rotate_left
  · go_simp; try (with_reducible rfl)
  rotate_left
  go_simp
  rw [X.out] at hbT
  exact wpAnyH_done (by kernel_rfl) (hR.out _ _ T1 ⟨rfl, rfl, by repeat (first | exact trivial | refine ⟨rfl, ?_⟩)⟩ hT1 hbT hk1) _

/-- Appended, in a region. -/
theorem ow_append {P : Program} {o : Oper} {a : Act} {w : World} {K : Act → World → Prop} {Q : Exit → Act → World → Prop}
    (s x : Operand) (t : TypeId) (hop : o.op = Op.call { callee := Callee.builtin Builtin.append, args := #[s, x], argTypes := #[t, t] })
    (base : Nat) (e : TypeId) (z : Value) (size bytes : Nat) (ht : P.underlying t = some (.slice e)) (hinfo : (P.info? e).map (fun i => (i.zero, i.size, i.bytes)) = some (some z, size, bytes))
    (hzs : z.cells.size = size) (hsz : 0 < size) (v : Value) (n : Nat) (xs : List Value) (hs : a.eval s = v) (hown : w.ownsRow base e size v n xs)
    (A : Option Addr) (m c : Nat) (news : List Value) (hx : a.eval x = .slice A m c) (hl : news.length = m * size) (hr : Rd w A news) (h1 : ∀ u ∈ news, u.oneCell' = true)
    (h63 : n + m ≤ maxLen) (hbytes : (n + m) * bytes ≤ 140737488355328) (hbase : base ≤ w.heap.size)
    (h : ∀ v' w', w'.ownsRow base e size v' (n + m) (xs ++ news) → Keep v.ownBlock.toList w w' → (v'.ownBlock = v.ownBlock ∨ v'.ownBlock = some w.heap.size) → K (a.put o.dst v') w') : o.wp P a w K Q := by
  obtain ⟨v', w', hrun, h2, h3, h4⟩ := run_app (P := P) w base t o.type e z size bytes ht hinfo hzs hsz v n xs hown A m c news hl hr h1 h63 hbytes hbase
  unfold Oper.wp
  simp [execOp, hop, resolve, invoke, builtin, hs, hx, hrun, Result.andThen]
  exact h v' w' h2 h3 h4

noncomputable def hkeys13 : Code := regionOf Try.f34 13
set_option maxRecDepth 100000 in
set_option maxHeartbeats 8000000 in
theorem keys_reg13 (R : Act → World → Prop) (a : Act) (w2 : World) (base gb ob bc g off oc i k cc T x y : Nat) (xs : List Value) (hi4 : 4 ≤ i) (hi : i ≤ 43) (hk4 : k < 4) (hx : x < 256) (hy : y < 256) (hO : Hid (w2.ownsRow base 5 1 (.slice (some ⟨g, off, none⟩) (4 * i + k) oc) (4 * i + k) xs)) (hbase : Hid (base ≤ w2.heap.size))
    (hcx : Hid (w2.cell? ⟨g, off + (4 * i - 16 + k), none⟩ = some (.int .u8 (x : Int)))) (hcy : Hid (w2.cell? ⟨T, k, none⟩ = some (.int .u8 (y : Int))))
    (hF : Fr 95 [(5, .slice (some ⟨g, off, none⟩) (4 * i + k) oc), (0, .slice (some ⟨gb, ob, none⟩) 256 bc), (6, .int .u8 (cc : Nat)), (7, .int .i64 i), (8, .slice (some ⟨T, 0, none⟩) 4 4), (9, .int .i64 k)] a)
    (hR : Hid (∀ a' w' v', Fr 95 [(5, v'), (0, .slice (some ⟨gb, ob, none⟩) 256 bc), (6, .int .u8 (cc : Nat)), (7, .int .i64 i), (8, .slice (some ⟨T, 0, none⟩) 4 4), (9, .int .i64 k)] a' → w'.ownsRow base 5 1 v' (4 * i + k + 1) (xs ++ [.int .u8 ((x ^^^ y : Nat) : Int)]) → Keep [g] w2 w' → (∀ q, v'.ownBlock = some q → q = g ∨ w2.heap.size ≤ q) → R a' w')) :
    Code.wp Try.prog hkeys13 (OutN R) a w2 := by
  have X := u8_xor_nat x y hx hy
  have LX : ∀ W, Keep [] w2 W → W.cell? ⟨g, off + (4 * i - 16 + k), none⟩ = some (.int .u8 (x : Int)) := fun W hk => (hk.cell (World.block_lt_of_cell? _ _ hcx.out) (by simp)).trans hcx.out
  have LY : ∀ W, Keep [] w2 W → W.cell? ⟨T, k, none⟩ = some (.int .u8 (y : Int)) := fun W hk => (hk.cell (World.block_lt_of_cell? _ _ hcy.out) (by simp)).trans hcy.out
  have LO : ∀ W, Keep [] w2 W → W.ownsRow base 5 1 (.slice (some ⟨g, off, none⟩) (4 * i + k) oc) (4 * i + k) xs := fun W hk => own_keep0 hO.out hk
  have m1 : IntKind.i64.wrap (4 * (i : Int)) = 4 * i := wf_i64' _ (by omega) (by omega)
  have s1 : IntKind.i64.wrap (4 * (i : Int) - 16) = 4 * i - 16 := wf_i64' _ (by omega) (by omega)
  have s2 : IntKind.i64.wrap (4 * (i : Int) - 16 + k) = 4 * i - 16 + k := wf_i64' _ (by omega) (by omega)
  have e1 : (4 * (i : Int) - 16 + k).toNat = 4 * i - 16 + k := by omega
  have b1 : (0 : Int) ≤ 4 * (i : Int) - 16 + k ∧ 4 * (i : Int) - 16 + k < 4 * i + k := ⟨by omega, by omega⟩
  have b2 : (16 : Int) ≤ 4 * (i : Int) := by omega
  have b3 : (0 : Int) ≤ (k : Int) ∧ (k : Int) < 4 := ⟨by omega, by omega⟩
  obtain ⟨f, ⟨f5, f0, f6, f7, f8, f9, -⟩, rfl⟩ := hF.open95
  simp only [f5, f0, f6, f7, f8, f9]
  clear f5 f0 f6 f7 f8 f9 hF
  conv => arg 2; whnf
  refine wp_region_any (by kernel_rfl) ?_
  change wpAny _ _ _ _ _ _ _ (World.drew _)
  obtain ⟨W0, hW0⟩ : ∃ W0, W0 = w2.drew := ⟨_, rfl⟩
  rw [← hW0]
  have hk0 : Keep [] w2 W0 := by rw [hW0]; exact (Keep.refl [] w2).drew
  clear hW0
  go_simp
  refine wpAny_take (i := 0) (v := ?_) rfl (by kernel_rfl) (by kernel_rfl) (by kernel_rfl) (fun _ _ _ h => h) (Or.inl ⟨by rfl, ?_⟩) ?_
  rotate_left
  · intro y; go_simp; try (with_reducible rfl)
  rotate_left
  go_simp
  refine wpAny_take (i := 1) (v := ?_) rfl (by kernel_rfl) (by kernel_rfl) (by kernel_rfl) (fun _ _ _ h => h) (Or.inl ⟨by rfl, ?_⟩) ?_
  rotate_left
  · intro y; go_simp; try (with_reducible rfl)
  rotate_left
  go_simp
  refine wpAny_take (i := 2) (v := ?_) rfl (by kernel_rfl) (by kernel_rfl) (by kernel_rfl) (fun _ _ _ h => h) (Or.inl ⟨by rfl, ?_⟩) ?_
  rotate_left
  · intro y; go_simp; try (with_reducible rfl)
  rotate_left
  go_simp
  refine wpAny_take (i := 3) (v := ?_) rfl (by kernel_rfl) (by kernel_rfl) (by kernel_rfl) (fun _ _ _ h => h) (Or.inl ⟨by rfl, ?_⟩) ?_
  rotate_left
  · intro y; go_simp; try (with_reducible rfl)
  rotate_left
  go_simp
  refine wpAny_take (i := 4) (v := ?_) rfl (by kernel_rfl) (by kernel_rfl) (by kernel_rfl) (fun _ _ _ h => h) (Or.inl ⟨by rfl, ?_⟩) ?_
  rotate_left
  · intro y; go_simp; try (with_reducible rfl)
  rotate_left
  go_simp
  refine wpAny_take (i := 5) (v := ?_) rfl (by kernel_rfl) (by kernel_rfl) (by kernel_rfl) (fun _ _ _ h => h) (Or.inl ⟨by rfl, ?_⟩) ?_
  rotate_left
  · intro y; go_simp; try (with_reducible rfl)
  rotate_left
  go_simp
  refine wpAny_take (i := 6) (v := ?_) rfl (by kernel_rfl) (by kernel_rfl) (by kernel_rfl) (fun _ _ _ h => h) (Or.inl ⟨by rfl, ?_⟩) ?_
  rotate_left
  · intro y; go_simp; try (with_reducible rfl)
  rotate_left
  go_simp
  refine wpAny_take (i := 7) (v := ?_) rfl (by kernel_rfl) (by kernel_rfl) (by kernel_rfl) (fun _ _ _ h => h) (Or.inl ⟨by rfl, ?_⟩) ?_
  rotate_left
  · intro y; go_simp; try (with_reducible rfl)
  rotate_left
  go_simp
  refine wpAny_take (i := 9) (v := ?_) rfl (by kernel_rfl) (by kernel_rfl) (by kernel_rfl) (fun _ _ _ h => h) (Or.inl ⟨by rfl, ?_⟩) ?_
  rotate_left
  · intro y; go_simp; try (with_reducible rfl)
  rotate_left
  go_simp
  refine wpAny_take (i := 10) (v := ?_) rfl (by kernel_rfl) (by kernel_rfl) (by kernel_rfl) (fun _ _ _ h => h) (Or.inl ⟨by rfl, ?_⟩) ?_
  rotate_left
  · intro y; go_simp; try (with_reducible rfl)
  rotate_left
  go_simp
  refine wpAny_take (i := 11) (v := ?_) rfl (by kernel_rfl) (by kernel_rfl) (by kernel_rfl) (fun _ _ _ h => h) (Or.inl ⟨by rfl, ?_⟩) ?_
  rotate_left
  · intro y; go_simp; try (with_reducible rfl)
  rotate_left
  go_simp
  refine wpAny_ready (rs := [8, 12]) (by kernel_rfl) (by simp) ?_
  refine AllReady.cons rfl (fun K hK => ?_) ?_
  ·
    apply step_wp
    · rfl
    have q := LX _ hk0
    refine ow_load1 _ _ rfl _ rfl (.int .u8 (x : Int)) (by simp [go_sem, q]) ?_
    clear q
    apply hK
    clear hK K
    go_simp
    refine wpAny_ready (rs := [12]) (by kernel_rfl) (by simp) ?_
    refine AllReady.cons rfl (fun K hK => ?_) ?_
    ·
      apply step_wp
      · rfl
      have q := LY _ hk0
      refine ow_load1 _ _ rfl _ rfl (.int .u8 (y : Int)) (by simp [go_sem, q]) ?_
      clear q
      apply hK
      clear hK K
      go_simp
      refine wpAny_take (i := 13) (v := ?_) rfl (by kernel_rfl) (by kernel_rfl) (by kernel_rfl) (fun _ _ _ h => h) (Or.inl ⟨by rfl, ?_⟩) ?_
      rotate_left
      · intro y; go_simp; try (with_reducible rfl)
      rotate_left
      go_simp
      refine wpAny_ready (rs := [14]) (by kernel_rfl) (by simp) ?_
      refine AllReady.cons rfl (fun K hK => ?_) ?_
      ·
        apply step_wp
        · rfl
        refine ow_slice _ 5 1 _ rfl Try.underlying26 #[.int .u8 ((x ^^^ y : Nat) : Int)] [(0, .int .u8 ((x ^^^ y : Nat) : Int))] (by kernel_rfl) (by kernel_rfl) ?_
        intro n8 W8 hn8 hb8 hs8
        replace hn8 : w2.heap.size ≤ n8 := by rw [hn8]; exact hk0.size
        have hk8 : Keep [] w2 W8 := hk0.trans0 hs8
        apply hK
        clear hK K
        go_simp
        refine wpAny_ready (rs := [15]) (by kernel_rfl) (by simp) ?_
        refine AllReady.cons rfl (fun K hK => ?_) ?_
        ·
          apply step_wp
          · rfl
          refine ow_append _ _ _ rfl base 5 (.int .u8 0) 1 1 Try.underlying26 u8infB rfl (by decide) (.slice (some ⟨g, off, Option.none⟩) (4 * i + k) oc) (4 * i + k) xs rfl (LO _ hk8) (some ⟨n8, 0, none⟩) 1 1 [.int .u8 ((x ^^^ y : Nat) : Int)] rfl rfl (by simpa using Rd.of_blk hb8) (by simp [Value.oneCell']) (by simp only [maxLen]; omega) (by omega) (by have := hbase.out; have := hk8.size; omega) ?_
          intro v9 W9 ho9 hs9 hat9
          have hk9 : Keep [g] w2 W9 := hk8.more0.trans' hs9 (fun q hq => by left; simpa [Value.ownBlock, eq_comm] using hq)
          apply hK
          clear hK K
          go_simp
          refine wpAny_take (i := 16) (v := ?_) rfl (by kernel_rfl) (by kernel_rfl) (by kernel_rfl) (fun _ _ _ h => h) (Or.inl ⟨by rfl, ?_⟩) ?_
          rotate_left
          · intro y; go_simp; try (with_reducible rfl)
          rotate_left
          go_simp
          refine wpAny_done (by kernel_rfl) ?_ _
          refine hR.out _ _ v9 ⟨rfl, rfl, by repeat (first | exact trivial | refine ⟨rfl, ?_⟩)⟩ ho9 hk9 (fun q hq => ?_)
          rcases hat9 with h | h
          · left; rw [h] at hq; simpa [Value.ownBlock, eq_comm] using hq
          · right; rw [h] at hq; have := Option.some.inj hq; have := hk8.size; omega
        exact AllReady.nil
      exact AllReady.nil
    exact AllReady.nil
  refine AllReady.cons rfl (fun K hK => ?_) ?_
  ·
    apply step_wp
    · rfl
    have q := LY _ hk0
    refine ow_load1 _ _ rfl _ rfl (.int .u8 (y : Int)) (by simp [go_sem, q]) ?_
    clear q
    apply hK
    clear hK K
    go_simp
    refine wpAny_ready (rs := [8]) (by kernel_rfl) (by simp) ?_
    refine AllReady.cons rfl (fun K hK => ?_) ?_
    ·
      apply step_wp
      · rfl
      have q := LX _ hk0
      refine ow_load1 _ _ rfl _ rfl (.int .u8 (x : Int)) (by simp [go_sem, q]) ?_
      clear q
      apply hK
      clear hK K
      go_simp
      refine wpAny_take (i := 13) (v := ?_) rfl (by kernel_rfl) (by kernel_rfl) (by kernel_rfl) (fun _ _ _ h => h) (Or.inl ⟨by rfl, ?_⟩) ?_
      rotate_left
      · intro y; go_simp; try (with_reducible rfl)
      rotate_left
      go_simp
      refine wpAny_ready (rs := [14]) (by kernel_rfl) (by simp) ?_
      refine AllReady.cons rfl (fun K hK => ?_) ?_
      ·
        apply step_wp
        · rfl
        refine ow_slice _ 5 1 _ rfl Try.underlying26 #[.int .u8 ((x ^^^ y : Nat) : Int)] [(0, .int .u8 ((x ^^^ y : Nat) : Int))] (by kernel_rfl) (by kernel_rfl) ?_
        intro n8 W8 hn8 hb8 hs8
        replace hn8 : w2.heap.size ≤ n8 := by rw [hn8]; exact hk0.size
        have hk8 : Keep [] w2 W8 := hk0.trans0 hs8
        apply hK
        clear hK K
        go_simp
        refine wpAny_ready (rs := [15]) (by kernel_rfl) (by simp) ?_
        refine AllReady.cons rfl (fun K hK => ?_) ?_
        ·
          apply step_wp
          · rfl
          refine ow_append _ _ _ rfl base 5 (.int .u8 0) 1 1 Try.underlying26 u8infB rfl (by decide) (.slice (some ⟨g, off, Option.none⟩) (4 * i + k) oc) (4 * i + k) xs rfl (LO _ hk8) (some ⟨n8, 0, none⟩) 1 1 [.int .u8 ((x ^^^ y : Nat) : Int)] rfl rfl (by simpa using Rd.of_blk hb8) (by simp [Value.oneCell']) (by simp only [maxLen]; omega) (by omega) (by have := hbase.out; have := hk8.size; omega) ?_
          intro v9 W9 ho9 hs9 hat9
          have hk9 : Keep [g] w2 W9 := hk8.more0.trans' hs9 (fun q hq => by left; simpa [Value.ownBlock, eq_comm] using hq)
          apply hK
          clear hK K
          go_simp
          refine wpAny_take (i := 16) (v := ?_) rfl (by kernel_rfl) (by kernel_rfl) (by kernel_rfl) (fun _ _ _ h => h) (Or.inl ⟨by rfl, ?_⟩) ?_
          rotate_left
          · intro y; go_simp; try (with_reducible rfl)
          rotate_left
          go_simp
          refine wpAny_done (by kernel_rfl) ?_ _
          refine hR.out _ _ v9 ⟨rfl, rfl, by repeat (first | exact trivial | refine ⟨rfl, ?_⟩)⟩ ho9 hk9 (fun q hq => ?_)
          rcases hat9 with h | h
          · left; rw [h] at hq; simpa [Value.ownBlock, eq_comm] using hq
          · right; rw [h] at hq; have := Option.some.inj hq; have := hk8.size; omega
        exact AllReady.nil
      exact AllReady.nil
    exact AllReady.nil
  exact AllReady.nil

theorem own_some {w : World} {base n : Nat} {e : TypeId} {v : Value} {xs : List Value} (h : w.ownsRow base e 1 v n xs) (hn : 0 < n) : ∃ g c, v = .slice (some ⟨g, 0, none⟩) n c ∧ base ≤ g ∧ g < w.heap.size := by
  have hlt := h.lt
  rcases h.2 with ⟨hv, h0⟩ | ⟨g, cap, cur, hv, hb, _⟩
  · omega
  · exact ⟨g, cap, hv, hb, (hlt g (by rw [hv]; rfl)).2⟩
theorem nb_app (l m : List Int) (j : Nat) (h : j < l.length) : nb (l ++ m) j = nb l j := by
  unfold nb
  rw [List.getD_eq_getElem?_getD, List.getElem?_append_left h, List.getD_eq_getElem?_getD]
/-- The word so far. -/
def kpart (l : List Int) (n : Nat → Nat) (i k : Nat) : List Int := l ++ (List.range k).map fun j => ((nb l (4 * i - 16 + j) ^^^ n j : Nat) : Int)
theorem kpart_length (l : List Int) (n : Nat → Nat) (i k : Nat) (hl : l.length = 4 * i) : (kpart l n i k).length = 4 * i + k := by simp [kpart, hl]
theorem kpart_succ (l : List Int) (n : Nat → Nat) (i k : Nat) : kpart l n i (k + 1) = kpart l n i k ++ [((nb l (4 * i - 16 + k) ^^^ n k : Nat) : Int)] := by simp [kpart, List.range_succ]
theorem kpart_wf {l : List Int} (h : ∀ x ∈ l, (Lit.int .u8 x).wf = true) (n : Nat → Nat) (hn : ∀ j, n j < 256) (i k : Nat) : ∀ x ∈ kpart l n i k, (Lit.int .u8 x).wf = true := by
  intro x hx
  rcases List.mem_append.1 hx with h1 | h1
  · exact h x h1
  · obtain ⟨j, _, rfl⟩ := List.mem_map.1 h1
    have := Nat.xor_lt_two_pow (n := 8) (nb_lt h (4 * i - 16 + j)) (hn j)
    exact u8_wf (by omega) (by omega)

noncomputable def hkeysI : Code := loopOf Try.f34 1

set_option maxRecDepth 100000 in
set_option maxHeartbeats 4000000 in
theorem keys_inner (R : Act → World → Prop) (a : Act) (w0 w : World) (gb ob bc i cc T : Nat) (v5 : Value) (l : List Int) (n : Nat → Nat) (hl : Hid (l.length = 4 * i)) (hwf : Hid (∀ x ∈ l, (Lit.int .u8 x).wf = true)) (hi4 : 4 ≤ i) (hi : i ≤ 43) (hn : Hid (∀ j, n j < 256))
    (hO : Hid (w.ownsRow w0.heap.size 5 1 v5 (4 * i) (l.map (Value.int .u8)))) (hT : Hid (Blk w T 5 #[.int .u8 (n 0 : Nat), .int .u8 (n 1 : Nat), .int .u8 (n 2 : Nat), .int .u8 (n 3 : Nat)])) (hTv : Hid (∀ q, v5.ownBlock = some q → q ≠ T)) (hk : Hid (Keep [] w0 w))
    (hF : Fr 95 [(0, .slice (some ⟨gb, ob, none⟩) 256 bc), (5, v5), (6, .int .u8 (cc : Nat)), (7, .int .i64 i), (8, .slice (some ⟨T, 0, none⟩) 4 4), (9, .int .i64 0)] a)
    (hQ : ∀ a' w' v', Fr 95 [(0, .slice (some ⟨gb, ob, none⟩) 256 bc), (5, v'), (6, .int .u8 (cc : Nat)), (7, .int .i64 i)] a' → w'.ownsRow w0.heap.size 5 1 v' (4 * i + 4) ((kpart l n i 4).map (Value.int .u8)) → Keep [] w0 w' → R a' w') :
    Code.wp Try.prog (.loop hkeysI) (OutX 2 R) a w := by
  refine wp_loop_ghost_k (fun m a wr => ∃ (k : Nat) (v : Value), m + k = 4 ∧ Fr 95 [(0, .slice (some ⟨gb, ob, none⟩) 256 bc), (5, v), (6, .int .u8 (cc : Nat)), (7, .int .i64 i), (8, .slice (some ⟨T, 0, none⟩) 4 4), (9, .int .i64 k)] a ∧
      wr.ownsRow w0.heap.size 5 1 v (4 * i + k) ((kpart l n i k).map (Value.int .u8)) ∧ Blk wr T 5 #[.int .u8 (n 0 : Nat), .int .u8 (n 1 : Nat), .int .u8 (n 2 : Nat), .int .u8 (n 3 : Nat)] ∧ (∀ q, v.ownBlock = some q → q ≠ T) ∧ Keep [] w0 wr)
    4 ⟨0, v5, rfl, hF, by simpa [kpart] using hO.out, hT.out, hTv.out, hk.out⟩ ?_
  clear hF hO hT hTv hk
  rintro m a wr ⟨k, v, hmk, hFr, hO, hT, hTv, hk⟩ J K hJ hK1
  have HJ := Lib.hid hJ
  have HMK := Lib.hid hmk
  have HO := Lib.hid hO
  have HT := Lib.hid hT
  have HTV := Lib.hid hTv
  have HK := Lib.hid hk
  have HQ := Lib.hid hQ
  obtain ⟨f, ⟨f0, f5, f6, f7, f8, f9, -⟩, rfl⟩ := hFr.open95
  by_cases hlt : k < 4
  · obtain ⟨g, c, rfl, hg1, hg2⟩ := own_some hO (by omega)
    have hwk := kpart_wf hwf.out n hn.out i k
    have hsl := Sl.of_own hO hwk
    have hxc := sl_cell hsl (4 * i - 16 + k) (by rw [kpart_length _ _ _ _ hl.out]; omega)
    have hxe : nb (kpart l n i k) (4 * i - 16 + k) = nb l (4 * i - 16 + k) := nb_app _ _ _ (by rw [hl.out]; omega)
    rw [hxe] at hxc
    have hyc : wr.cell? ⟨T, k, none⟩ = some (.int .u8 ((n k : Nat) : Int)) := by
      rw [hT.cell]
      rcases (show k = 0 ∨ k = 1 ∨ k = 2 ∨ k = 3 by omega) with rfl | rfl | rfl | rfl <;> rfl
    have hgT := hTv g rfl
    have HGT := Lib.hid hgT
    have HKS := Lib.hid (kpart_succ l n i k)
    have HXC := Lib.hid hxc
    have HYC := Lib.hid hyc
    have R13 := keys_reg13 (fun a' w' => ∃ v', Fr 95 [(5, v'), (0, .slice (some ⟨gb, ob, none⟩) 256 bc), (6, .int .u8 (cc : Nat)), (7, .int .i64 i), (8, .slice (some ⟨T, 0, none⟩) 4 4), (9, .int .i64 k)] a' ∧ w'.ownsRow w0.heap.size 5 1 v' (4 * i + k + 1) ((kpart l n i k).map (Value.int .u8) ++ [.int .u8 ((nb l (4 * i - 16 + k) ^^^ n k : Nat) : Int)]) ∧ Keep [g] wr w' ∧ (∀ q, v'.ownBlock = some q → q = g ∨ wr.heap.size ≤ q))
    simp only [f0, f5, f6, f7, f8, f9]
    clear f0 f5 f6 f7 f8 f9 hFr hJ hO hT hTv hk hQ hmk hwk hsl hxc hxe hyc
    conv => arg 2; whnf
    go_upto_region 13 with fail
    refine OutN.use (R13 _ wr w0.heap.size gb ob bc g 0 c i k cc T (nb l (4 * i - 16 + k)) (n k) ((kpart l n i k).map (Value.int .u8)) hi4 hi hlt (nb_lt hwf.out _) (hn.out k) HO (Lib.hid HK.out.size) HXC HYC
      ⟨rfl, rfl, by repeat (first | exact trivial | refine ⟨rfl, ?_⟩)⟩ (Lib.hid fun a' w' v' h1 h2 h3 h4 => ⟨v', h1, h2, h3, h4⟩)) ?_
    rintro a' w3 ⟨v', hF3, hO3, hk3, hown⟩
    have HO3 := Lib.hid (show w3.ownsRow w0.heap.size 5 1 v' (4 * i + (k + 1)) ((kpart l n i (k + 1)).map (Value.int .u8)) by rw [HKS.out, List.map_append]; exact hO3)
    have HT3 := Lib.hid (HT.out.keep hk3 (by have := HGT.out; simp; omega))
    have HTV3 := Lib.hid (show ∀ q, v'.ownBlock = some q → q ≠ T from fun q hq => by
      rcases hown q hq with rfl | h
      · exact HGT.out
      · have := HT.out.lt
        omega)
    have HK3 := Lib.hid (HK.out.trans' hk3 (fun x hx => by right; simp at hx; omega))
    obtain ⟨f, ⟨f5, f0, f6, f7, f8, f9, -⟩, rfl⟩ := hF3.open95
    simp only [f0, f5, f6, f7, f8, f9]
    clear f0 f5 f6 f7 f8 f9 hF3 hO3 hk3 hown R13
    go_wp2_with fail
    exact Handed.intro (m - 1) (by have := HMK.out; omega) (HJ.out _ _ _ ⟨k + 1, v', by have := HMK.out; omega, ⟨rfl, rfl, by repeat (first | exact trivial | refine ⟨rfl, ?_⟩)⟩, HO3.out, HT3.out, HTV3.out, HK3.out⟩)
  · obtain rfl : k = 4 := by omega
    simp only [f0, f5, f6, f7, f8, f9]
    clear f0 f5 f6 f7 f8 f9 hFr hJ hO hT hTv hk hQ hmk
    conv => arg 2; whnf
    go_wp2_with fail
    exact ⟨rfl, HQ.out _ _ v ⟨rfl, rfl, by repeat (first | exact trivial | refine ⟨rfl, ?_⟩)⟩ HO.out HK.out⟩

theorem rtx2 (x : Nat) (w : World) (hx : x < 256) : Calls Try.prog 37 #[.int .u8 x, .int .u8 2] w fun e w' => e = .returned (.int .u8 (Aes.tm x 2 : Nat)) ∧ w' = w := rtimes_any x 2 w hx (by decide)
theorem kpart_keys (key : List Int) (n : Nat) : kpart (Aes.keys key n) (Aes.kt (Aes.keys key n) (n + 4)) (n + 4) 4 = Aes.keys key (n + 1) := rfl

noncomputable def hkeysO : Code := loopOf Try.f34 0

set_option maxRecDepth 100000 in
set_option maxHeartbeats 8000000 in
theorem keys_outer (R : Act → World → Prop) (a : Act) (w0 w : World) (gb ob bc : Nat) (v5 : Value) (key : List Int) (hkl : Hid (key.length = 16)) (hwf : Hid (∀ x ∈ key, (Lit.int .u8 x).wf = true)) (hb : Hid (Sl .u8 w0 (.slice (some ⟨gb, ob, none⟩) 256 bc) (boxL 256)))
    (hO : Hid (w.ownsRow w0.heap.size 5 1 v5 16 (key.map (Value.int .u8)))) (hk : Hid (Keep [] w0 w))
    (hF : Fr 95 [(0, .slice (some ⟨gb, ob, none⟩) 256 bc), (5, v5), (6, .int .u8 1), (7, .int .i64 4)] a)
    (hQ : ∀ a' w' v', Fr 95 [(5, v')] a' → w'.ownsRow w0.heap.size 5 1 v' 176 ((Aes.keys key 40).map (Value.int .u8)) → Keep [] w0 w' → R a' w') :
    Code.wp Try.prog (.loop hkeysO) (OutX 0 R) a w := by
  refine wp_loop_ghost_k (fun m a wr => ∃ (n : Nat) (v : Value), m + n = 40 ∧ Fr 95 [(0, .slice (some ⟨gb, ob, none⟩) 256 bc), (5, v), (6, .int .u8 (Aes.rcon ((n + 3) / 4) : Nat)), (7, .int .i64 ((n + 4 : Nat) : Int))] a ∧
      wr.ownsRow w0.heap.size 5 1 v (4 * (n + 4)) ((Aes.keys key n).map (Value.int .u8)) ∧ Keep [] w0 wr)
    40 ⟨0, v5, rfl, hF, hO.out, hk.out⟩ ?_
  clear hF hO hk
  rintro m a wr ⟨n, v, hmn, hFr, hO, hk⟩ J K hJ hK1
  have HJ := Lib.hid hJ
  have HMN := Lib.hid hmn
  have HK := Lib.hid hk
  have HQ := Lib.hid hQ
  obtain ⟨f, ⟨f0, f5, f6, f7, -⟩, rfl⟩ := hFr.open95
  by_cases hlt : n < 40
  · obtain ⟨g, c, rfl, hg1, hg2⟩ := own_some hO (by omega)
    have HO := Lib.hid hO
    obtain ⟨l, hl⟩ : ∃ l, l = Aes.keys key n := ⟨_, rfl⟩
    obtain ⟨i, hi⟩ : ∃ i, i = n + 4 := ⟨_, rfl⟩
    obtain ⟨cc, hcc⟩ : ∃ cc, cc = Aes.rcon ((n + 3) / 4) := ⟨_, rfl⟩
    have HNEXT := Lib.hid (show kpart l (Aes.kt l i) i 4 = Aes.keys key (n + 1) by rw [hl, hi]; exact kpart_keys key n)
    have hll : l.length = 4 * i := by rw [hl, Aes.keys_length, hkl.out, hi]; omega
    have hlw : ∀ x ∈ l, (Lit.int .u8 x).wf = true := by rw [hl]; exact Aes.keys_wf hwf.out n
    have HLL := Lib.hid hll
    have HLW := Lib.hid hlw
    have hcc1 : cc < 256 := by rw [hcc]; exact Aes.rcon_lt _
    have HCR := Lib.hid (show cc = Aes.rcon ((i - 1) / 4) by rw [hcc, hi]; rfl)
    have HI := Lib.hid hi
    have hi4 : 4 ≤ i := by omega
    have hi43 : i ≤ 43 := by omega
    rw [← hi, ← hl] at HO
    rw [← hcc] at f6
    rw [← hi] at f5 f7
    have HSL := Lib.hid (Sl.of_own HO.out hlw)
    have HKT := Lib.hid (Aes.kt_lt hlw i)
    have HGW := Lib.hid hg2
    have R6 := keys_reg6 (fun a' w' => ∃ T, Fr 95 [(0, .slice (some ⟨gb, ob, none⟩) 256 bc), (5, .slice (some ⟨g, 0, none⟩) (4 * i) c), (6, .int .u8 (cc : Nat)), (7, .int .i64 i), (8, .slice (some ⟨T, 0, none⟩) 4 4)] a' ∧ wr.heap.size ≤ T ∧
      Blk w' T 5 #[.int .u8 ((nb l (4 * i - 4) : Nat) : Int), .int .u8 ((nb l (4 * i - 3) : Nat) : Int), .int .u8 ((nb l (4 * i - 2) : Nat) : Int), .int .u8 ((nb l (4 * i - 1) : Nat) : Int)] ∧ Keep [] wr w')
    simp only [f0, f5, f6, f7]
    clear f0 f5 f6 f7 hFr hJ hO hk hQ hmn hl hi hcc hll hlw hg1 hg2
    conv => arg 2; whnf
    go_upto_region 6 with fail
    refine OutN.use (R6 _ wr gb ob bc g 0 c i cc l HLL hi4 hi43 HSL ⟨rfl, rfl, by repeat (first | exact trivial | refine ⟨rfl, ?_⟩)⟩ (Lib.hid fun a' w' T h1 h2 h3 h4 => ⟨T, h1, h2, h3, h4⟩)) ?_
    rintro a' w3 ⟨T, hF3, hT, hB3, hk3⟩
    have HB3 := Lib.hid hB3
    have HK3 := Lib.hid hk3
    have HTN := Lib.hid hT
    have HO3 := Lib.hid (own_keep0 HO.out hk3)
    have HK03 := Lib.hid (HK.out.trans hk3)
    have HSB := Lib.hid (hb.out.keep0 HK03.out)
    obtain ⟨f, ⟨f0, f5, f6, f7, f8, -⟩, rfl⟩ := hF3.open95
    simp only [f0, f5, f6, f7, f8]
    clear f0 f5 f6 f7 f8 hF3 hT hB3 hk3 R6
    by_cases hmod : i % 4 = 0
    · have HCC := Lib.hid (show cc = Aes.rcon (i / 4 - 1) by rw [HCR.out]; congr 1; omega)
      have hm : Int.tmod (i : Int) 4 = 0 := by rw [Int.tmod_eq_emod_of_nonneg (by omega)]; omega
      have R8 := keys_reg8 (fun a' w' => ∃ T', Fr 95 [(0, .slice (some ⟨gb, ob, none⟩) 256 bc), (5, .slice (some ⟨g, 0, none⟩) (4 * i) c), (6, .int .u8 (cc : Nat)), (8, .slice (some ⟨T', 0, none⟩) 4 4), (7, .int .i64 i)] a' ∧ w3.heap.size ≤ T' ∧
        Blk w' T' 5 #[.int .u8 ((Aes.box (nb l (4 * i - 3)) ^^^ cc : Nat) : Int), .int .u8 ((Aes.box (nb l (4 * i - 2)) : Nat) : Int), .int .u8 ((Aes.box (nb l (4 * i - 1)) : Nat) : Int), .int .u8 ((Aes.box (nb l (4 * i - 4)) : Nat) : Int)] ∧ Keep [] w3 w')
      go_upto_region 8 with fail
      refine OutN.use (R8 _ w3 gb ob bc g 0 c i cc T _ _ _ _ HSB HB3 (nb_lt HLW.out _) (nb_lt HLW.out _) (nb_lt HLW.out _) (nb_lt HLW.out _) hcc1 ⟨rfl, rfl, by repeat (first | exact trivial | refine ⟨rfl, ?_⟩)⟩ (Lib.hid fun a' w' T h1 h2 h3 h4 => ⟨T, h1, h2, h3, h4⟩)) ?_
      rintro a' w4 ⟨T', hF4, hT', hB4, hk4⟩
      have HO4 := Lib.hid (own_keep0 HO3.out hk4)
      have HK04 := Lib.hid (HK03.out.trans hk4)
      have HB4 := Lib.hid (show Blk w4 T' 5 #[.int .u8 ((Aes.kt l i 0 : Nat) : Int), .int .u8 ((Aes.kt l i 1 : Nat) : Int), .int .u8 ((Aes.kt l i 2 : Nat) : Int), .int .u8 ((Aes.kt l i 3 : Nat) : Int)] by
        simp only [Aes.kt, if_pos hmod]
        rw [← HCC.out]
        exact hB4)
      have HTV := Lib.hid (show ∀ q, (Value.slice (some ⟨g, 0, none⟩) (4 * i) c).ownBlock = some q → q ≠ T' from fun q hq => by
        have h1 := HGW.out
        have h2 := HK3.out.size
        have h3 : g = q := by simpa [Value.ownBlock] using hq
        omega)
      have TM := fun w => Lib.hid (rtx2 cc w hcc1)
      obtain ⟨f, ⟨f0, f5, f6, f8, f7, -⟩, rfl⟩ := hF4.open95
      simp only [f0, f5, f6, f7, f8]
      clear f0 f5 f6 f7 f8 hF4 hT' hB4 hk4 R8
      go_upto_block 2 with (go_at_call 37; with_reducible refine (TM w4).out.mono ?_; rintro e w5 ⟨rfl, rfl⟩)
      go_wp2_with fail
      refine OutX.use (keys_inner (fun a' w' => ∃ v', Fr 95 [(0, .slice (some ⟨gb, ob, none⟩) 256 bc), (5, v'), (6, .int .u8 (Aes.tm cc 2 : Nat)), (7, .int .i64 i)] a' ∧ w'.ownsRow w0.heap.size 5 1 v' (4 * i + 4) ((kpart l (Aes.kt l i) i 4).map (Value.int .u8)) ∧ Keep [] w0 w') _ w0 w5 gb ob bc i (Aes.tm cc 2) T' _ l (Aes.kt l i) HLL HLW hi4 hi43 HKT HO4 HB4 HTV HK04
        ⟨rfl, rfl, by repeat (first | exact trivial | refine ⟨rfl, ?_⟩)⟩ (fun a' w' v' h1 h2 h3 => ⟨v', h1, h2, h3⟩)) ?_
      rintro a' w6 ⟨v', hF6, hO6, hk6⟩
      have HO6 := Lib.hid hO6
      have HK6 := Lib.hid hk6
      obtain ⟨f, ⟨f0, f5, f6, f7, -⟩, rfl⟩ := hF6.open95
      simp only [f0, f5, f6, f7]
      clear f0 f5 f6 f7 hF6 hO6 hk6
      go_wp2_with fail
      have hi := HI.out
      refine Handed.intro (m - 1) (by have := HMN.out; omega) (HJ.out _ _ _ ⟨n + 1, v', by have := HMN.out; omega, ⟨rfl, rfl, rfl, rfl, ?_, ?_, trivial⟩, ?_, HK6.out⟩)
      · show Value.int .u8 _ = Value.int .u8 _
        congr 2
        rw [HCC.out, show (n + 1 + 3) / 4 = (i / 4 - 1) + 1 by omega]
        rfl
      · show Value.int .i64 _ = Value.int .i64 _
        congr 1
        omega
      · have := HO6.out
        rw [HNEXT.out, show 4 * i + 4 = 4 * (n + 1 + 4) by omega] at this
        exact this
    · have hm : (Int.tmod (i : Int) 4 == 0) = false := beq_eq_false_iff_ne.2 (by rw [Int.tmod_eq_emod_of_nonneg (by omega)]; omega)
      have hmz : ¬ Int.tmod (i : Int) 4 = 0 := by rw [Int.tmod_eq_emod_of_nonneg (by omega)]; omega
      have HB4 := Lib.hid (show Blk w3 T 5 #[.int .u8 ((Aes.kt l i 0 : Nat) : Int), .int .u8 ((Aes.kt l i 1 : Nat) : Int), .int .u8 ((Aes.kt l i 2 : Nat) : Int), .int .u8 ((Aes.kt l i 3 : Nat) : Int)] by
        simp only [Aes.kt, if_neg hmod]
        rw [show 4 * i - 4 + 0 = 4 * i - 4 by omega, show 4 * i - 4 + 1 = 4 * i - 3 by omega, show 4 * i - 4 + 2 = 4 * i - 2 by omega, show 4 * i - 4 + 3 = 4 * i - 1 by omega]
        exact HB3.out)
      have HTV := Lib.hid (show ∀ q, (Value.slice (some ⟨g, 0, none⟩) (4 * i) c).ownBlock = some q → q ≠ T from fun q hq => by
        have h1 := HGW.out
        have h2 := HTN.out
        have h3 : g = q := by simpa [Value.ownBlock] using hq
        omega)
      go_upto_block 2 with fail
      go_wp2_with fail
      refine OutX.use (keys_inner (fun a' w' => ∃ v', Fr 95 [(0, .slice (some ⟨gb, ob, none⟩) 256 bc), (5, v'), (6, .int .u8 (cc : Nat)), (7, .int .i64 i)] a' ∧ w'.ownsRow w0.heap.size 5 1 v' (4 * i + 4) ((kpart l (Aes.kt l i) i 4).map (Value.int .u8)) ∧ Keep [] w0 w') _ w0 w3 gb ob bc i cc T _ l (Aes.kt l i) HLL HLW hi4 hi43 HKT HO3 HB4 HTV HK03
        ⟨rfl, rfl, by repeat (first | exact trivial | refine ⟨rfl, ?_⟩)⟩ (fun a' w' v' h1 h2 h3 => ⟨v', h1, h2, h3⟩)) ?_
      rintro a' w6 ⟨v', hF6, hO6, hk6⟩
      have HO6 := Lib.hid hO6
      have HK6 := Lib.hid hk6
      obtain ⟨f, ⟨f0, f5, f6, f7, -⟩, rfl⟩ := hF6.open95
      simp only [f0, f5, f6, f7]
      clear f0 f5 f6 f7 hF6 hO6 hk6
      go_wp2_with fail
      have hi := HI.out
      refine Handed.intro (m - 1) (by have := HMN.out; omega) (HJ.out _ _ _ ⟨n + 1, v', by have := HMN.out; omega, ⟨rfl, rfl, rfl, rfl, ?_, ?_, trivial⟩, ?_, HK6.out⟩)
      · show Value.int .u8 _ = Value.int .u8 _
        congr 2
        rw [HCR.out, show (n + 1 + 3) / 4 = (i - 1) / 4 by omega]
      · show Value.int .i64 _ = Value.int .i64 _
        congr 1
        omega
      · have := HO6.out
        rw [HNEXT.out, show 4 * i + 4 = 4 * (n + 1 + 4) by omega] at this
        exact this
  · obtain rfl : n = 40 := by omega
    have HO := Lib.hid hO
    simp only [f0, f5, f6, f7]
    clear f0 f5 f6 f7 hFr hJ hO hk hQ hmn
    conv => arg 2; whnf
    go_wp2_with fail
    exact ⟨rfl, HQ.out _ _ v ⟨rfl, rfl, rfl, trivial⟩ HO.out HK.out⟩

set_option maxRecDepth 100000 in
set_option maxHeartbeats 4000000 in
theorem rkeys_any (bv kv : Value) (key : List Int) (w : World) (hb : Sl .u8 w bv (boxL 256)) (hk : Sl .u8 w kv key) (hkl : key.length = 16) :
    Calls Try.prog 34 #[bv, kv] w fun e w' => ∃ v', e = .returned v' ∧ w'.ownsRow w.heap.size 5 1 v' 176 ((Aes.keys key 40).map (Value.int .u8)) ∧ Keep [] w w' := by
  obtain ⟨gb, ob, bc, rfl, hbc1, hbc2, -⟩ := hb.cells (by rw [boxL_length]; decide)
  rw [boxL_length] at hb hbc1 ⊢
  have HB := Lib.hid hb
  have HK := Lib.hid hk
  have HKW := Lib.hid hk.wf
  have HKL := Lib.hid hkl
  obtain ⟨kA, kc, rfl, hkc1, hkc2, -, -⟩ := hk
  have HKD := Lib.hid (HK.out.rd)
  rw [hkl] at hkc1 ⊢
  clear hb
  go_enter Try.func34, Try.ntmps34
  have HR1 : Hid (Rd (w.alloc (.cells #[] 5)) kA (key.map (Value.int .u8))) := HKD.out.keep0 ((Keep.refl [] w).alloc _)
  go_upto_block 0 with (first
    | (at_builtin
       refine wl_append _ rfl _ _ _ rfl w.heap.size 5 (.int .u8 0) 1 1 Try.underlying26 u8infB rfl (by decide) (.slice (some ⟨w.heap.size, 0, Option.none⟩) 0 0) 0 [] rfl (own_of_blk (Blk.new w _ _) rfl (Nat.le_refl _) (by omega) rfl) kA 16 kc (key.map (Value.int .u8)) rfl (by rw [List.length_map, HKL.out]) HR1.out (ints_one _ _) (by simp only [maxLen]; omega) (by omega) (by simp) ?_
       intro x1 w1 ho1 hk1 hat1
       simp only [Nat.zero_add, List.nil_append] at ho1
       have HX1 := Lib.hid ho1
       have HK1 := Lib.hid (show Keep [] w w1 from ((Keep.refl [] w).alloc (.cells #[] 5)).trans' hk1 (by intro y hy; right; simp [Value.ownBlock] at hy; omega))
       clear ho1 hk1 hat1))
  go_wp2_with fail
  refine OutX.use (keys_outer (fun a' w' => ∃ v', Fr 95 [(5, v')] a' ∧ w'.ownsRow w.heap.size 5 1 v' 176 ((Aes.keys key 40).map (Value.int .u8)) ∧ Keep [] w w') _ w w1 gb ob bc x1 key HKL HKW HB HX1 HK1
    ⟨rfl, rfl, by repeat (first | exact trivial | refine ⟨rfl, ?_⟩)⟩ (fun a' w' v' h1 h2 h3 => ⟨v', h1, h2, h3⟩)) ?_
  rintro a' w2 ⟨v', hF, hO, hk2⟩
  have HO := Lib.hid hO
  have HK2 := Lib.hid hk2
  obtain ⟨f, ⟨f5, -⟩, rfl⟩ := hF.open95
  simp only [f5]
  clear f5 hF hO hk2
  go_wp2_with fail
  go_ret
  exact ⟨_, rfl, HO.out, HK2.out⟩
end Go.Proofs.Ytlkjngbelckgkaa
