/-
  The document's answer to a block: its loops.
-/
import Derived.Test.YtpjkicbfdknjcaaRAes9
namespace Go.Proofs.Ytpjkicbfdknjcaa
open Go.RowKit

theorem fr_out {w W : World} {G j : Nat} {l : List Int} (h : Row w G l) (k : Keep [] w W) : W.frozen? ⟨G, j, none⟩ = false := (h.keep k (by simp)).frozen j
theorem Keep.cellset {S : List Nat} {w W : World} {G j : Nat} (k : Keep S w W) (h : G ∈ S) (v : Value) : Keep S w (W.setCell ⟨G, j, none⟩ v) := k.setCell (.inl h) v

noncomputable def hturnA : Code := loopOf Try.f16 0

set_option maxRecDepth 100000 in
set_option maxHeartbeats 4000000 in
theorem turn_l0 (R : Act → World → Prop) (a : Act) (w : World) (gb ob bc gw cw G c8 : Nat) (s wl : List Int) (hs : s.length = 16) (hsw : Hid (∀ x ∈ s, (Lit.int .u8 x).wf = true)) (hwl : Hid (wl.length = 176)) (hww : Hid (∀ x ∈ wl, (Lit.int .u8 x).wf = true))
    (hG : Hid (Row w G s)) (hW : Hid (Row w gw wl)) (hne : Hid (gw ≠ G))
    (hF : Fr 93 [(0, .slice (some ⟨gb, ob, none⟩) 256 bc), (7, .slice (some ⟨gw, 0, none⟩) 176 cw), (8, .slice (some ⟨G, 0, none⟩) 16 c8), (9, .int .i64 0)] a)
    (hQ : ∀ a' w', Fr 93 [(0, .slice (some ⟨gb, ob, none⟩) 256 bc), (7, .slice (some ⟨gw, 0, none⟩) 176 cw), (8, .slice (some ⟨G, 0, none⟩) 16 c8)] a' → Row w' G (Aes.add s wl 0) → Keep [G] w w' → R a' w') :
    Code.wp Try.prog (.loop hturnA) (OutX 0 R) a w := by
  refine wp_loop_ghost_k (fun m a wr => ∃ j : Nat, m + j = 16 ∧ Fr 93 [(0, .slice (some ⟨gb, ob, none⟩) 256 bc), (7, .slice (some ⟨gw, 0, none⟩) 176 cw), (8, .slice (some ⟨G, 0, none⟩) 16 c8), (9, .int .i64 j)] a ∧ Row wr G (upd (Aes.xorAt s wl 0) s j) ∧ Keep [G] w wr)
    16 ⟨0, rfl, hF, by rw [upd_zero]; exact hG.out, Keep.refl _ _⟩ ?_
  clear hF
  rintro m a wr ⟨j, hmj, hFr, hB, hk⟩ J K hJ hK1
  have HJ := Lib.hid hJ
  have HMJ := Lib.hid hmj
  have HB := Lib.hid hB
  have HK := Lib.hid hk
  have HQ := Lib.hid hQ
  obtain ⟨f, ⟨f0, f7, f8, f9, -⟩, rfl⟩ := hFr.open93
  by_cases hlt : j < 16
  · have hWr : Row wr gw wl := hW.out.keep hk (by simpa using hne.out)
    have HCX := Lib.hid (show wr.cell? ⟨G, j, none⟩ = some (.int .u8 ((nb s j : Nat) : Int)) by
      rw [hB.cell j (by rw [upd_length _ _ _ (by omega)]; omega), upd_get _ _ _ _ (Nat.le_refl j), nb_int hsw.out])
    have HCY := Lib.hid (show wr.cell? ⟨gw, j, none⟩ = some (.int .u8 ((nb wl j : Nat) : Int)) by
      rw [hWr.cell j (by rw [hwl.out]; omega), nb_int hww.out])
    have R6 := turn_reg6 (fun a' w' => ∃ W, w' = W.setCell ⟨G, j, none⟩ (.int .u8 ((nb s j ^^^ nb wl j : Nat) : Int)) ∧ Fr 93 [(0, .slice (some ⟨gb, ob, none⟩) 256 bc), (7, .slice (some ⟨gw, 0, none⟩) 176 cw), (8, .slice (some ⟨G, 0, none⟩) 16 c8), (9, .int .i64 j)] a' ∧ Keep [] wr W)
    simp only [f0, f7, f8, f9]
    clear f0 f7 f8 f9 hFr hJ hB hk hQ hmj hWr
    conv => arg 2; whnf
    go_upto_region 6 with fail
    refine OutN.use (R6 _ wr gb ob bc gw cw G c8 j _ _ HCX HCY (nb_lt hsw.out _) (nb_lt hww.out _) (Lib.hid ⟨_, HCX.out⟩) (Lib.hid fun W hk => fr_out HB.out hk) hlt
      ⟨rfl, rfl, by repeat (first | exact trivial | refine ⟨rfl, ?_⟩)⟩ (Lib.hid fun a' W h1 h2 => ⟨W, rfl, h1, h2⟩)) ?_
    rintro a' w3 ⟨W, rfl, hF3, hkW⟩
    have HB3 := Lib.hid ((HB.out.keep hkW (by simp)).upd (by omega) (v := ((nb s j ^^^ nb wl j : Nat) : Int)) (by unfold Aes.xorAt; rw [Nat.zero_add]))
    have HK3 := Lib.hid ((HK.out.trans0 hkW).cellset (List.mem_singleton.2 rfl) (G := G) (j := j) (.int .u8 ((nb s j ^^^ nb wl j : Nat) : Int)))
    obtain ⟨f, ⟨f0, f7, f8, f9, -⟩, rfl⟩ := hF3.open93
    obtain ⟨W', hW'⟩ : ∃ W', W' = W.setCell ⟨G, j, none⟩ (.int .u8 ((nb s j ^^^ nb wl j : Nat) : Int)) := ⟨_, rfl⟩
    rw [← hW'] at HB3 HK3 ⊢
    simp only [f0, f7, f8, f9]
    clear f0 f7 f8 f9 hF3 hkW R6 hW'
    go_wp2_with fail
    exact Handed.intro (m - 1) (by have := HMJ.out; omega) (HJ.out _ _ _ ⟨j + 1, by have := HMJ.out; omega, ⟨rfl, rfl, by repeat (first | exact trivial | refine ⟨rfl, ?_⟩)⟩, HB3.out, HK3.out⟩)
  · obtain rfl : j = 16 := by omega
    simp only [f0, f7, f8, f9]
    clear f0 f7 f8 f9 hFr hJ hB hk hQ hmj
    conv => arg 2; whnf
    go_wp2_with fail
    refine ⟨rfl, HQ.out _ _ ⟨rfl, rfl, by repeat (first | exact trivial | refine ⟨rfl, ?_⟩)⟩ ?_ HK.out⟩
    have := HB.out
    rw [upd_full _ _ _ hs] at this
    exact this

noncomputable def hturnE : Code := loopOf Try.f16 4

set_option maxRecDepth 100000 in
set_option maxHeartbeats 4000000 in
theorem turn_l4 (R : Act → World → Prop) (a : Act) (w : World) (gb ob bc gw cw G c8 T r : Nat) (hr : r ≤ 10) (s t wl : List Int) (hs : s.length = 16) (ht : Hid (t.length = 16)) (htw : Hid (∀ x ∈ t, (Lit.int .u8 x).wf = true)) (hwl : Hid (wl.length = 176)) (hww : Hid (∀ x ∈ wl, (Lit.int .u8 x).wf = true))
    (hG : Hid (Row w G s)) (hT : Hid (Row w T t)) (hW : Hid (Row w gw wl)) (hne : Hid (gw ≠ G ∧ T ≠ G))
    (hF : Fr 93 [(0, .slice (some ⟨gb, ob, none⟩) 256 bc), (7, .slice (some ⟨gw, 0, none⟩) 176 cw), (8, .slice (some ⟨G, 0, none⟩) 16 c8), (10, .int .i64 r), (11, .slice (some ⟨T, 0, none⟩) 16 16), (14, .int .i64 0)] a)
    (hQ : ∀ a' w', Fr 93 [(0, .slice (some ⟨gb, ob, none⟩) 256 bc), (7, .slice (some ⟨gw, 0, none⟩) 176 cw), (8, .slice (some ⟨G, 0, none⟩) 16 c8), (10, .int .i64 r)] a' → Row w' G (Aes.add t wl (16 * r)) → Keep [G] w w' → R a' w') :
    Code.wp Try.prog (.loop hturnE) (OutX 8 R) a w := by
  refine wp_loop_ghost_k (fun m a wr => ∃ j : Nat, m + j = 16 ∧ Fr 93 [(0, .slice (some ⟨gb, ob, none⟩) 256 bc), (7, .slice (some ⟨gw, 0, none⟩) 176 cw), (8, .slice (some ⟨G, 0, none⟩) 16 c8), (10, .int .i64 r), (11, .slice (some ⟨T, 0, none⟩) 16 16), (14, .int .i64 j)] a ∧ Row wr G (upd (Aes.xorAt t wl (16 * r)) s j) ∧ Keep [G] w wr)
    16 ⟨0, rfl, hF, by rw [upd_zero]; exact hG.out, Keep.refl _ _⟩ ?_
  clear hF
  rintro m a wr ⟨j, hmj, hFr, hB, hk⟩ J K hJ hK1
  have HJ := Lib.hid hJ
  have HMJ := Lib.hid hmj
  have HB := Lib.hid hB
  have HK := Lib.hid hk
  have HQ := Lib.hid hQ
  obtain ⟨f, ⟨f0, f7, f8, f10, f11, f14, -⟩, rfl⟩ := hFr.open93
  by_cases hlt : j < 16
  · have hWr : Row wr gw wl := hW.out.keep hk (by simpa using hne.out.1)
    have hTr : Row wr T t := hT.out.keep hk (by simpa using hne.out.2)
    have HCG := Lib.hid (show ∃ u, wr.cell? ⟨G, j, none⟩ = some u from ⟨_, hB.cell j (by rw [upd_length _ _ _ (by omega)]; omega)⟩)
    have HCX := Lib.hid (show wr.cell? ⟨T, j, none⟩ = some (.int .u8 ((nb t j : Nat) : Int)) by
      rw [hTr.cell j (by rw [ht.out]; omega), nb_int htw.out])
    have HCY := Lib.hid (show wr.cell? ⟨gw, 16 * r + j, none⟩ = some (.int .u8 ((nb wl (16 * r + j) : Nat) : Int)) by
      rw [hWr.cell (16 * r + j) (by rw [hwl.out]; omega), nb_int hww.out])
    have R23 := turn_reg23 (fun a' w' => ∃ W, w' = W.setCell ⟨G, j, none⟩ (.int .u8 ((nb t j ^^^ nb wl (16 * r + j) : Nat) : Int)) ∧ Fr 93 [(0, .slice (some ⟨gb, ob, none⟩) 256 bc), (7, .slice (some ⟨gw, 0, none⟩) 176 cw), (8, .slice (some ⟨G, 0, none⟩) 16 c8), (10, .int .i64 r), (11, .slice (some ⟨T, 0, none⟩) 16 16), (14, .int .i64 j)] a' ∧ Keep [] wr W)
    simp only [f0, f7, f8, f10, f11, f14]
    clear f0 f7 f8 f10 f11 f14 hFr hJ hB hk hQ hmj hWr hTr
    conv => arg 2; whnf
    go_upto_region 23 with fail
    refine OutN.use (R23 _ wr gb ob bc gw cw G c8 j _ _ T r hr HCX HCY (nb_lt htw.out _) (nb_lt hww.out _) HCG (Lib.hid fun W hk => fr_out HB.out hk) hlt
      ⟨rfl, rfl, by repeat (first | exact trivial | refine ⟨rfl, ?_⟩)⟩ (Lib.hid fun a' W h1 h2 => ⟨W, rfl, h1, h2⟩)) ?_
    rintro a' w3 ⟨W, rfl, hF3, hkW⟩
    have HB3 := Lib.hid ((HB.out.keep hkW (by simp)).upd (by omega) (v := ((nb t j ^^^ nb wl (16 * r + j) : Nat) : Int)) rfl)
    have HK3 := Lib.hid ((HK.out.trans0 hkW).cellset (List.mem_singleton.2 rfl) (G := G) (j := j) (.int .u8 ((nb t j ^^^ nb wl (16 * r + j) : Nat) : Int)))
    obtain ⟨f, ⟨f0, f7, f8, f10, f11, f14, -⟩, rfl⟩ := hF3.open93
    obtain ⟨W', hW'⟩ : ∃ W', W' = W.setCell ⟨G, j, none⟩ (.int .u8 ((nb t j ^^^ nb wl (16 * r + j) : Nat) : Int)) := ⟨_, rfl⟩
    rw [← hW'] at HB3 HK3 ⊢
    simp only [f0, f7, f8, f10, f11, f14]
    clear f0 f7 f8 f10 f11 f14 hF3 hkW R23 hW'
    go_wp2_with fail
    exact Handed.intro (m - 1) (by have := HMJ.out; omega) (HJ.out _ _ _ ⟨j + 1, by have := HMJ.out; omega, ⟨rfl, rfl, by repeat (first | exact trivial | refine ⟨rfl, ?_⟩)⟩, HB3.out, HK3.out⟩)
  · obtain rfl : j = 16 := by omega
    simp only [f0, f7, f8, f10, f11, f14]
    clear f0 f7 f8 f10 f11 f14 hFr hJ hB hk hQ hmj
    conv => arg 2; whnf
    go_wp2_with fail
    refine ⟨rfl, HQ.out _ _ ⟨rfl, rfl, by repeat (first | exact trivial | refine ⟨rfl, ?_⟩)⟩ ?_ HK.out⟩
    have := HB.out
    rw [upd_full _ _ _ hs] at this
    exact this
end Go.Proofs.Ytpjkicbfdknjcaa
