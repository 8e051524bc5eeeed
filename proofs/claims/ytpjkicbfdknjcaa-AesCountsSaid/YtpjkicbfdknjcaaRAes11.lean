/-
  The document's answer to a block: bytes exchanged and moved.
-/
import Derived.Test.YtpjkicbfdknjcaaRAes10
namespace Go.Proofs.Ytpjkicbfdknjcaa
open Go.RowKit

def z16 : List Int := List.replicate 16 0
noncomputable def hturnD : Code := loopOf Try.f16 3

set_option maxRecDepth 100000 in
set_option maxHeartbeats 4000000 in
theorem turn_l3 (R : Act → World → Prop) (a : Act) (w : World) (gb ob bc gw cw G c8 T r c : Nat) (hc : c < 4) (s : List Int) (hs : Hid (s.length = 16)) (hsw : Hid (∀ x ∈ s, (Lit.int .u8 x).wf = true)) (hb : Hid (∀ W, Keep [T] w W → Sl .u8 W (.slice (some ⟨gb, ob, none⟩) 256 bc) (boxL 256)))
    (hG : Hid (Row w G s)) (hT : Hid (Row w T (upd (Aes.subAt s) z16 (4 * c)))) (hne : Hid (G ≠ T))
    (hF : Fr 93 [(0, .slice (some ⟨gb, ob, none⟩) 256 bc), (7, .slice (some ⟨gw, 0, none⟩) 176 cw), (8, .slice (some ⟨G, 0, none⟩) 16 c8), (10, .int .i64 r), (11, .slice (some ⟨T, 0, none⟩) 16 16), (12, .int .i64 c), (13, .int .i64 0)] a)
    (hQ : ∀ a' w', Fr 93 [(0, .slice (some ⟨gb, ob, none⟩) 256 bc), (7, .slice (some ⟨gw, 0, none⟩) 176 cw), (8, .slice (some ⟨G, 0, none⟩) 16 c8), (10, .int .i64 r), (11, .slice (some ⟨T, 0, none⟩) 16 16), (12, .int .i64 c)] a' → Row w' T (upd (Aes.subAt s) z16 (4 * c + 4)) → Keep [T] w w' → R a' w') :
    Code.wp Try.prog (.loop hturnD) (OutX 6 R) a w := by
  refine wp_loop_ghost_k (fun m a wr => ∃ j : Nat, m + j = 4 ∧ Fr 93 [(0, .slice (some ⟨gb, ob, none⟩) 256 bc), (7, .slice (some ⟨gw, 0, none⟩) 176 cw), (8, .slice (some ⟨G, 0, none⟩) 16 c8), (10, .int .i64 r), (11, .slice (some ⟨T, 0, none⟩) 16 16), (12, .int .i64 c), (13, .int .i64 j)] a ∧ Row wr T (upd (Aes.subAt s) z16 (4 * c + j)) ∧ Keep [T] w wr)
    4 ⟨0, rfl, hF, hT.out, Keep.refl _ _⟩ ?_
  clear hF
  rintro m a wr ⟨j, hmj, hFr, hB, hk⟩ J K hJ hK1
  have HJ := Lib.hid hJ
  have HMJ := Lib.hid hmj
  have HB := Lib.hid hB
  have HK := Lib.hid hk
  have HQ := Lib.hid hQ
  obtain ⟨f, ⟨f0, f7, f8, f10, f11, f12, f13, -⟩, rfl⟩ := hFr.open93
  by_cases hlt : j < 4
  · have hGr : Row wr G s := hG.out.keep hk (by simpa using hne.out)
    obtain ⟨q, hq⟩ : ∃ q, q = (c + j) % 4 := ⟨_, rfl⟩
    have hq4 : q < 4 := by omega
    have cT := hB.cell (4 * c + j) (by rw [upd_length _ _ _ (by simp [z16]; omega)]; simp [z16]; omega)
    have fT := hB.frozen (4 * c + j)
    have cS : wr.cell? ⟨G, 4 * q + j, none⟩ = some (.int .u8 ((nb s (4 * q + j) : Nat) : Int)) := by
      rw [hGr.cell _ (by rw [hs.out]; omega), nb_int hsw.out]
    have hx := nb_lt hsw.out (4 * q + j)
    have HSUB := Lib.hid (show Aes.subAt s (4 * c + j) = ((Aes.box (nb s (4 * q + j)) : Nat) : Int) by
      unfold Aes.subAt
      rw [show (4 * c + j) / 4 = c by omega, show (4 * c + j) % 4 = j by omega, ← hq])
    generalize nb s (4 * q + j) = x at *
    have cB := box_cell (hb.out wr hk) x hx
    have bx : (0 : Int) ≤ (x : Int) ∧ (x : Int) < 256 := ⟨by omega, by omega⟩
    have d1 : Int.tmod ((c : Int) + j) 4 = (q : Int) := by rw [Int.tmod_eq_emod_of_nonneg (by omega)]; omega
    have b1 : (0 : Int) ≤ 4 * (q : Int) + j ∧ 4 * (q : Int) + j < 16 := ⟨by omega, by omega⟩
    have b2 : (0 : Int) ≤ 4 * (c : Int) + j ∧ 4 * (c : Int) + j < 16 := ⟨by omega, by omega⟩
    have e1 : (4 * (q : Int) + (j : Int)).toNat = 4 * q + j := by omega
    have e2 : (4 * (c : Int) + (j : Int)).toNat = 4 * c + j := by omega
    simp only [f0, f7, f8, f10, f11, f12, f13]
    clear f0 f7 f8 f10 f11 f12 f13 hFr hJ hB hk hQ hmj hGr hq
    conv => arg 2; whnf
    go_wp2_with fail
    exact Handed.intro (m - 1) (by have := HMJ.out; omega) (HJ.out _ _ _ ⟨j + 1, by have := HMJ.out; omega, ⟨rfl, rfl, by repeat (first | exact trivial | refine ⟨rfl, ?_⟩)⟩, HB.out.upd (by simp [z16]; omega) HSUB.out.symm, HK.out.cellset (List.mem_singleton.2 rfl) _⟩)
  · obtain rfl : j = 4 := by omega
    simp only [f0, f7, f8, f10, f11, f12, f13]
    clear f0 f7 f8 f10 f11 f12 f13 hFr hJ hB hk hQ hmj
    conv => arg 2; whnf
    go_wp2_with fail
    exact ⟨rfl, HQ.out _ _ ⟨rfl, rfl, by repeat (first | exact trivial | refine ⟨rfl, ?_⟩)⟩ HB.out HK.out⟩

noncomputable def hturnC : Code := loopOf Try.f16 2

set_option maxRecDepth 100000 in
set_option maxHeartbeats 4000000 in
theorem turn_l2 (R : Act → World → Prop) (a : Act) (w : World) (gb ob bc gw cw G c8 T r : Nat) (s : List Int) (hs : Hid (s.length = 16)) (hsw : Hid (∀ x ∈ s, (Lit.int .u8 x).wf = true)) (hb : Hid (∀ W, Keep [T] w W → Sl .u8 W (.slice (some ⟨gb, ob, none⟩) 256 bc) (boxL 256)))
    (hG : Hid (Row w G s)) (hT : Hid (Row w T z16)) (hne : Hid (G ≠ T))
    (hF : Fr 93 [(0, .slice (some ⟨gb, ob, none⟩) 256 bc), (7, .slice (some ⟨gw, 0, none⟩) 176 cw), (8, .slice (some ⟨G, 0, none⟩) 16 c8), (10, .int .i64 r), (11, .slice (some ⟨T, 0, none⟩) 16 16), (12, .int .i64 0)] a)
    (hQ : ∀ a' w', Fr 93 [(0, .slice (some ⟨gb, ob, none⟩) 256 bc), (7, .slice (some ⟨gw, 0, none⟩) 176 cw), (8, .slice (some ⟨G, 0, none⟩) 16 c8), (10, .int .i64 r), (11, .slice (some ⟨T, 0, none⟩) 16 16)] a' → Row w' T (Aes.sub s) → Keep [T] w w' → R a' w') :
    Code.wp Try.prog (.loop hturnC) (OutX 4 R) a w := by
  refine wp_loop_ghost_k (fun m a wr => ∃ j : Nat, m + j = 4 ∧ Fr 93 [(0, .slice (some ⟨gb, ob, none⟩) 256 bc), (7, .slice (some ⟨gw, 0, none⟩) 176 cw), (8, .slice (some ⟨G, 0, none⟩) 16 c8), (10, .int .i64 r), (11, .slice (some ⟨T, 0, none⟩) 16 16), (12, .int .i64 j)] a ∧ Row wr T (upd (Aes.subAt s) z16 (4 * j)) ∧ Keep [T] w wr)
    4 ⟨0, rfl, hF, by rw [Nat.mul_zero, upd_zero]; exact hT.out, Keep.refl _ _⟩ ?_
  clear hF
  rintro m a wr ⟨j, hmj, hFr, hB, hk⟩ J K hJ hK1
  have HJ := Lib.hid hJ
  have HMJ := Lib.hid hmj
  have HB := Lib.hid hB
  have HK := Lib.hid hk
  have HQ := Lib.hid hQ
  obtain ⟨f, ⟨f0, f7, f8, f10, f11, f12, -⟩, rfl⟩ := hFr.open93
  by_cases hlt : j < 4
  · have HGr := Lib.hid (hG.out.keep hk (by simpa using hne.out))
    have HBX := Lib.hid (show ∀ W, Keep [T] wr W → Sl .u8 W (.slice (some ⟨gb, ob, none⟩) 256 bc) (boxL 256) from fun W h => hb.out W (HK.out.trans h))
    have L3 := turn_l3 (fun a' w' => Fr 93 [(0, .slice (some ⟨gb, ob, none⟩) 256 bc), (7, .slice (some ⟨gw, 0, none⟩) 176 cw), (8, .slice (some ⟨G, 0, none⟩) 16 c8), (10, .int .i64 r), (11, .slice (some ⟨T, 0, none⟩) 16 16), (12, .int .i64 j)] a' ∧ Row w' T (upd (Aes.subAt s) z16 (4 * j + 4)) ∧ Keep [T] wr w')
    simp only [f0, f7, f8, f10, f11, f12]
    clear f0 f7 f8 f10 f11 f12 hFr hJ hB hk hQ hmj
    conv => arg 2; whnf
    go_upto_block 6 with fail
    go_wp2_with fail
    refine OutX.use (L3 _ wr gb ob bc gw cw G c8 T r j hlt s hs hsw HBX HGr HB hne
      ⟨rfl, rfl, by repeat (first | exact trivial | refine ⟨rfl, ?_⟩)⟩ (fun a' w' h1 h2 h3 => ⟨h1, h2, h3⟩)) ?_
    rintro a' w3 ⟨hF3, hB3, hk3⟩
    have HB3 := Lib.hid (show Row w3 T (upd (Aes.subAt s) z16 (4 * (j + 1))) from hB3)
    have HK3 := Lib.hid (HK.out.trans hk3)
    obtain ⟨f, ⟨f0, f7, f8, f10, f11, f12, -⟩, rfl⟩ := hF3.open93
    simp only [f0, f7, f8, f10, f11, f12]
    clear f0 f7 f8 f10 f11 f12 hF3 hB3 hk3 L3
    go_wp2_with fail
    exact Handed.intro (m - 1) (by have := HMJ.out; omega) (HJ.out _ _ _ ⟨j + 1, by have := HMJ.out; omega, ⟨rfl, rfl, by repeat (first | exact trivial | refine ⟨rfl, ?_⟩)⟩, HB3.out, HK3.out⟩)
  · obtain rfl : j = 4 := by omega
    simp only [f0, f7, f8, f10, f11, f12]
    clear f0 f7 f8 f10 f11 f12 hFr hJ hB hk hQ hmj
    conv => arg 2; whnf
    go_wp2_with fail
    refine ⟨rfl, HQ.out _ _ ⟨rfl, rfl, by repeat (first | exact trivial | refine ⟨rfl, ?_⟩)⟩ ?_ HK.out⟩
    have := HB.out
    rw [show 4 * 4 = 16 from rfl, upd_full _ _ _ (by simp [z16])] at this
    exact this
end Go.Proofs.Ytpjkicbfdknjcaa
