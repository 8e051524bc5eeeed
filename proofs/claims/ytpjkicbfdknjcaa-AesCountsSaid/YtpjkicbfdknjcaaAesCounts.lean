/-
  AesCounts, over what aes' functions keep.
-/
import Derived.Test.YtpjkicbfdknjcaaAesC2
namespace Go.Proofs.Ytpjkicbfdknjcaa
open Go.RowKit

noncomputable def hcntL : Code := loopOf Try.f6 0

set_option maxRecDepth 100000 in
set_option maxHeartbeats 8000000 in
theorem cnt_loop (hK : AKeyC) (hT : ATurnC) (R : Act → World → Prop) (a : Act) (w2 : World) (g gk ga gb : Nat) (many : Int) (kl al bl : List Int) (DK DA DB : Array Value) (hkl : B16 kl) (hal : B16 al) (hbl : B16 bl) (hDK : Hid (DK = (kl.map (Value.int .u8)).toArray)) (hDA : Hid (DA = (al.map (Value.int .u8)).toArray)) (hDB : Hid (DB = (bl.map (Value.int .u8)).toArray))
    (hBK : Hid (Blk w2 gk 29 DK)) (hBA : Hid (Blk w2 ga 29 DA)) (hBB : Hid (Blk w2 gb 29 DB)) (hne : Hid (gk ≠ g ∧ ga ≠ g ∧ gb ≠ g)) (p1 p2 c : Nat) (hc : c < 5) (hAT : Hid (AT w2 g 0)) (hA1 : Hid (AK w2 p1 g kl)) (hA2 : Hid (AK w2 p2 g al))
    (hF : Fr 92 [(3, .int .u8 many), (4, .pointer (some ⟨gk, 0, none⟩)), (5, .pointer (some ⟨ga, 0, none⟩)), (6, .pointer (some ⟨gb, 0, none⟩)), (9, .pointer (some ⟨g, 0, none⟩)), (10, .pointer (some ⟨p1, 0, none⟩)), (11, .pointer (some ⟨p2, 0, none⟩)), (25, .int .i64 (c : Nat)), (26, .int .i64 0)] a)
    (hQ : ∀ a' w', Fr 92 [(3, .int .u8 many), (4, .pointer (some ⟨gk, 0, none⟩)), (5, .pointer (some ⟨ga, 0, none⟩)), (6, .pointer (some ⟨gb, 0, none⟩)), (9, .pointer (some ⟨g, 0, none⟩)), (10, .pointer (some ⟨p1, 0, none⟩)), (11, .pointer (some ⟨p2, 0, none⟩))] a' → AK w' p1 g kl → AK w' p2 g al → AT w' g (2 * c) → Keep [g] w2 w' → R a' w') :
    Code.wp Try.prog (.loop hcntL) (OutX 0 R) a w2 := by
  refine wp_loop_ghost_k (fun m a wr => ∃ j : Nat, m + j = c ∧ Fr 92 [(3, .int .u8 many), (4, .pointer (some ⟨gk, 0, none⟩)), (5, .pointer (some ⟨ga, 0, none⟩)), (6, .pointer (some ⟨gb, 0, none⟩)), (9, .pointer (some ⟨g, 0, none⟩)), (10, .pointer (some ⟨p1, 0, none⟩)), (11, .pointer (some ⟨p2, 0, none⟩)), (25, .int .i64 (c : Nat)), (26, .int .i64 j)] a ∧ AK wr p1 g kl ∧ AK wr p2 g al ∧ AT wr g (2 * j) ∧ Keep [g] w2 wr)
    c ⟨0, by omega, hF, hA1.out, hA2.out, hAT.out, Keep.refl _ _⟩ ?_
  clear hF
  rintro m a wr ⟨j, hmj, hFr, h1, h2, h3, hk⟩ J K hJ hK1
  have HJ := Lib.hid hJ
  have HMJ := Lib.hid hmj
  have H1 := Lib.hid h1
  have H2 := Lib.hid h2
  have H3 := Lib.hid h3
  have HK := Lib.hid hk
  have HQ := Lib.hid hQ
  obtain ⟨f, ⟨f3, f4, f5, f6, f9, f10, f11, f25, f26, -⟩, rfl⟩ := hFr.open92
  by_cases hlt : j < c
  · have HBK := Lib.hid (hBK.out.keep hk (by simpa using hne.out.1))
    have HBA := Lib.hid (hBA.out.keep hk (by simpa using hne.out.2.1))
    have HBB := Lib.hid (hBB.out.keep hk (by simpa using hne.out.2.2))
    simp only [f3, f4, f5, f6, f9, f10, f11, f25, f26]
    clear f3 f4 f5 f6 f9 f10 f11 f25 f26 hFr hJ h1 h2 h3 hk hQ hmj
    conv => arg 2; whnf
    go_upto_region 7 with fail
    refine OutN.use (cnt_reg7 hK hT (fun a' w' => Fr 92 [(3, .int .u8 many), (4, .pointer (some ⟨gk, 0, none⟩)), (5, .pointer (some ⟨ga, 0, none⟩)), (6, .pointer (some ⟨gb, 0, none⟩)), (9, .pointer (some ⟨g, 0, none⟩)), (10, .pointer (some ⟨p1, 0, none⟩)), (11, .pointer (some ⟨p2, 0, none⟩)), (25, .int .i64 (c : Nat)), (26, .int .i64 j), (36, .bool false)] a' ∧ AK w' p1 g kl ∧ AK w' p2 g al ∧ AT w' g (2 * j + 2) ∧ Keep [g] wr w') _ wr g gk ga gb many kl al bl DK DA DB hkl hal hbl hDK hDA hDB HBK HBA HBB hne (2 * j) p1 p2 c j (by omega) H3 H1 H2
      ⟨rfl, rfl, by repeat (first | exact trivial | refine ⟨rfl, ?_⟩)⟩ (Lib.hid fun a' w' h1 h2 h3 h4 h5 => ⟨h1, h2, h3, h4, h5⟩)) ?_
    rintro a' w3 ⟨hF3, hp1, hp2, hat, hk3⟩
    have HP1 := Lib.hid hp1
    have HP2 := Lib.hid hp2
    have HAT := Lib.hid (show AT w3 g (2 * (j + 1)) from hat)
    have HK3 := Lib.hid (HK.out.trans hk3)
    obtain ⟨f, ⟨f3, f4, f5, f6, f9, f10, f11, f25, f26, f36, -⟩, rfl⟩ := hF3.open92
    simp only [f3, f4, f5, f6, f9, f10, f11, f25, f26, f36]
    clear f3 f4 f5 f6 f9 f10 f11 f25 f26 f36 hF3 hp1 hp2 hat hk3
    go_wp2_with fail
    exact Handed.intro (m - 1) (by have := HMJ.out; omega) (HJ.out _ _ _ ⟨j + 1, by have := HMJ.out; omega, ⟨rfl, rfl, by repeat (first | exact trivial | refine ⟨rfl, ?_⟩)⟩, HP1.out, HP2.out, HAT.out, HK3.out⟩)
  · obtain rfl : j = c := by omega
    simp only [f3, f4, f5, f6, f9, f10, f11, f25, f26]
    clear f3 f4 f5 f6 f9 f10 f11 f25 f26 hFr hJ h1 h2 h3 hk hQ hmj
    conv => arg 2; whnf
    go_wp2_with fail
    exact ⟨rfl, HQ.out _ _ ⟨rfl, rfl, by repeat (first | exact trivial | refine ⟨rfl, ?_⟩)⟩ H1.out H2.out H3.out HK.out⟩

set_option maxRecDepth 100000 in
set_option maxHeartbeats 8000000 in
theorem aesCounts_any (hN : ANewC) (hK : AKeyC) (hT : ATurnC) (hTd : ATurnedC) (hNi : ANilC) (kl al bl : List Int) (many : Int) (w : World) (hkl : B16 kl) (hal : B16 al) (hbl : B16 bl) (hm : (Lit.int .u8 many).wf = true) :
    Calls Try.prog 6 #[arr kl, arr al, arr bl, .int .u8 many] w fun e w' => e = .returned (.bool true) ∧ Keep [] w w' := by
  have A := fun w => Lib.hid (awake5_any hN hK hT w)
  have N := fun w => Lib.hid (hN w)
  obtain ⟨hm0, hm1⟩ := wf_u8 hm
  obtain ⟨c, hc'⟩ : ∃ c : Nat, c = (many % 5).toNat := ⟨_, rfl⟩
  have hmod : Int.tmod many 5 = (c : Int) := by rw [Int.tmod_eq_emod_of_nonneg hm0]; omega
  have hc : c < 5 := by omega
  obtain ⟨DK, hDK⟩ : ∃ DK, DK = (kl.map (Value.int .u8)).toArray := ⟨_, rfl⟩
  obtain ⟨DA, hDA⟩ : ∃ DA, DA = (al.map (Value.int .u8)).toArray := ⟨_, rfl⟩
  obtain ⟨DB, hDB⟩ : ∃ DB, DB = (bl.map (Value.int .u8)).toArray := ⟨_, rfl⟩
  obtain ⟨TB, hTB⟩ : ∃ TB, TB = Aes.turn al bl := ⟨_, rfl⟩
  have HDK := Lib.hid hDK
  have HDA := Lib.hid hDA
  have HDB := Lib.hid hDB
  rw [arr_agg, arr_agg, arr_agg, ← hDK, ← hDA, ← hDB]
  have hw1 : IntKind.i64.wrap (2 * (c : Int)) = 2 * c := IntWalk.i64_in _ ⟨by omega, by omega⟩
  have HDBs := Lib.hid (show DB.size = 16 by rw [hDB]; simp [hbl.1])
  clear hDK hDA hDB hc' hm hm0 hm1 hTB TB
  go_enter Try.func6, Try.ntmps6
  go_upto_region 4 with (first
    | (refine wl_box rfl _ _ rfl DK rfl ?_; intro w1 hB1 hk1 hz1; have HB1 := Lib.hid hB1; have HK1 := Lib.hid hk1; clear hB1 hk1 hz1)
    | (have _q := HB1; refine wl_box rfl _ _ rfl DA rfl ?_; intro w2 hB2 hk2 hz2; have HB2 := Lib.hid hB2; have HK2 := Lib.hid hk2; clear hB2 hk2 hz2)
    | (have _q := HB2; refine wl_box rfl _ _ rfl DB rfl ?_; intro w3 hB3 hk3 hz3; have HB3 := Lib.hid hB3; have HK3 := Lib.hid hk3; clear hB3 hk3 hz3)
    | (go_at_call 7; with_reducible refine (A w3).out.mono ?_; rintro e w4 ⟨rfl, hk4⟩; have HK4 := Lib.hid hk4; clear hk4)
    | (go_at_call 8; with_reducible refine (N w4).out.mono ?_; rintro e w5 ⟨g, rfl, hg, hat, hk5⟩; have HG5 := Lib.hid hg; have HAT5 := Lib.hid hat; have HK5 := Lib.hid hk5; clear hg hat hk5))
  obtain ⟨gk, hgk⟩ : ∃ gk, gk = w.heap.size := ⟨_, rfl⟩
  obtain ⟨ga, hga⟩ : ∃ ga, ga = w1.heap.size := ⟨_, rfl⟩
  obtain ⟨gb, hgb⟩ : ∃ gb, gb = w2.heap.size := ⟨_, rfl⟩
  have HK35 := Lib.hid (HK4.out.trans HK5.out)
  have HBK := Lib.hid (show Blk w5 gk 29 DK by rw [hgk]; exact ((HB1.out.keep HK2.out (by simp)).keep HK3.out (by simp)).keep HK35.out (by simp))
  have HBA := Lib.hid (show Blk w5 ga 29 DA by rw [hga]; exact (HB2.out.keep HK3.out (by simp)).keep HK35.out (by simp))
  have HBB := Lib.hid (show Blk w5 gb 29 DB by rw [hgb]; exact HB3.out.keep HK35.out (by simp))
  have HKW := Lib.hid (((HK1.out.trans HK2.out).trans HK3.out).trans HK35.out)
  have HNE := Lib.hid (show gk ≠ g ∧ ga ≠ g ∧ gb ≠ g by
    have h1 := HB1.out.lt
    have h2 := HB2.out.lt
    have h3 := HB3.out.lt
    have h4 := HK2.out.size
    have h5 := HK3.out.size
    have h6 := HK4.out.size
    have h7 := HG5.out
    exact ⟨by omega, by omega, by omega⟩)
  have HGW := Lib.hid (show w.heap.size ≤ g by
    have h1 := HK1.out.size
    have h4 := HK2.out.size
    have h5 := HK3.out.size
    have h6 := HK4.out.size
    have h7 := HG5.out
    omega)
  rw [← hgk, ← hga, ← hgb]
  clear hgk hga hgb HB1 HB2 HB3
  refine OutN.use (cnt_reg4 hK (fun a' w' => ∃ p1 p2, Fr 92 [(3, .int .u8 many), (4, .pointer (some ⟨gk, 0, none⟩)), (5, .pointer (some ⟨ga, 0, none⟩)), (6, .pointer (some ⟨gb, 0, none⟩)), (9, .pointer (some ⟨g, 0, none⟩)), (10, .pointer (some ⟨p1, 0, none⟩)), (11, .pointer (some ⟨p2, 0, none⟩))] a' ∧ AK w' p1 g kl ∧ AK w' p2 g al ∧ AT w' g 0 ∧ Keep [g] w5 w') _ w5 g gk ga gb many kl al bl DK DA DB hkl hal hbl HDK HDA HDB HBK HBA HBB HNE 0 HAT5
    ⟨rfl, rfl, by repeat (first | exact trivial | refine ⟨rfl, ?_⟩)⟩ (Lib.hid fun a' w' p1 p2 h1 h2 h3 h4 h5 => ⟨p1, p2, h1, h2, h3, h4, h5⟩)) ?_
  rintro a' w6 ⟨p1, p2, hF6, hp1, hp2, hat6, hk6⟩
  have HP1 := Lib.hid hp1
  have HP2 := Lib.hid hp2
  have HAT6 := Lib.hid hat6
  have HK6 := Lib.hid hk6
  have HBK6 := Lib.hid (HBK.out.keep hk6 (by simpa using HNE.out.1))
  have HBA6 := Lib.hid (HBA.out.keep hk6 (by simpa using HNE.out.2.1))
  have HBB6 := Lib.hid (HBB.out.keep hk6 (by simpa using HNE.out.2.2))
  obtain ⟨f, ⟨f3, f4, f5, f6, f9, f10, f11, -⟩, rfl⟩ := hF6.open92
  simp only [f3, f4, f5, f6, f9, f10, f11]
  clear f3 f4 f5 f6 f9 f10 f11 hF6 hp1 hp2 hat6 hk6
  go_upto_block 0 with fail
  go_wp2_with fail
  refine OutX.use (cnt_loop hK hT (fun a' w' => Fr 92 [(3, .int .u8 many), (4, .pointer (some ⟨gk, 0, none⟩)), (5, .pointer (some ⟨ga, 0, none⟩)), (6, .pointer (some ⟨gb, 0, none⟩)), (9, .pointer (some ⟨g, 0, none⟩)), (10, .pointer (some ⟨p1, 0, none⟩)), (11, .pointer (some ⟨p2, 0, none⟩))] a' ∧ AK w' p1 g kl ∧ AK w' p2 g al ∧ AT w' g (2 * c) ∧ Keep [g] w6 w') _ w6 g gk ga gb many kl al bl DK DA DB hkl hal hbl HDK HDA HDB HBK6 HBA6 HBB6 HNE p1 p2 c hc HAT6 HP1 HP2
    ⟨rfl, rfl, by repeat (first | exact trivial | refine ⟨rfl, ?_⟩)⟩ (fun a' w' h1 h2 h3 h4 h5 => ⟨h1, h2, h3, h4, h5⟩)) ?_
  rintro a' w7 ⟨hF7, hp1, hp2, hat7, hk7⟩
  have HP17 := Lib.hid hp1
  have HP27 := Lib.hid hp2
  have HAT7 := Lib.hid hat7
  have HK7 := Lib.hid (HK6.out.trans hk7)
  have TD := Lib.hid (hTd w7 g (2 * c) hat7 (by omega))
  have TT : ∀ W n, AK W p2 g al → AT W g n → n ≤ 1000000 → Hid (Calls Try.prog 15 #[.pointer (some ⟨p2, 0, none⟩), .agg DB] W fun e w' => ∃ v, e = .returned v ∧ AT w' g (n + 1) ∧ Keep [g] W w') := by
    intro W n h1 h2 h3
    have := hT W p2 g n al bl h1 h2 h3 hal hbl
    rw [arr_agg, ← HDB.out] at this
    refine Lib.hid (this.mono ?_)
    rintro e w' ⟨rfl, h4, h5⟩
    exact ⟨_, rfl, h4, h5⟩
  obtain ⟨f, ⟨f3, f4, f5, f6, f9, f10, f11, -⟩, rfl⟩ := hF7.open92
  simp only [f3, f4, f5, f6, f9, f10, f11]
  clear f3 f4 f5 f6 f9 f10 f11 hF7 hp1 hp2 hat7 hk7
  go_upto_region 15 with (first
    | (go_at_call 17; with_reducible refine TD.out.mono ?_; rintro e w8 ⟨rfl, hat8, hk8⟩; have HAT8 := Lib.hid hat8; have HK8 := Lib.hid (HK7.out.trans hk8); have HP18 := Lib.hid (HP17.out.keep hk8 (by simpa using HP17.out.ne)); have HP28 := Lib.hid (HP27.out.keep hk8 (by simpa using HP27.out.ne)); have HBB8 := Lib.hid (HBB.out.keep HK8.out (by simpa using HNE.out.2.2)); clear hat8 hk8)
    | (refine wl_load_row rfl _ _ rfl gb rfl 16 5 Try.underlying29 _ DB HBB8.out (by rw [HDBs.out]; exact blkCells) ?_)
    | (go_at_call 15; with_reducible refine (TT w8 (2 * c) HP28.out HAT8.out (by omega)).out.mono ?_; rintro e w9 ⟨v9, rfl, hat9, hk9⟩; have HAT9 := Lib.hid hat9; have HK9 := Lib.hid (HK8.out.trans hk9); have HP19 := Lib.hid (HP18.out.keep hk9 (by simpa using HP18.out.ne)); clear hat9 hk9))
  refine OutN.use (cnt_reg15 hT hTd hNi (fun a' w' => Fr 92 [(8, .bool true)] a' ∧ Keep [g] w9 w') _ w9 g gk ga gb many kl al bl DK DA DB hkl hal hbl HDK HDA HDB (Lib.hid (HBK.out.keep HK9.out (by simpa using HNE.out.1))) (Lib.hid (HBA.out.keep HK9.out (by simpa using HNE.out.2.1))) (Lib.hid (HBB.out.keep HK9.out (by simpa using HNE.out.2.2))) HNE (2 * c + 1) p1 (by omega) c hc hmod rfl HAT9 HP19
    ⟨rfl, rfl, by repeat (first | exact trivial | refine ⟨rfl, ?_⟩)⟩ (Lib.hid fun a' w' h1 h2 => ⟨h1, h2⟩)) ?_
  rintro a' w10 ⟨hF10, hk10⟩
  have HK10 := Lib.hid (HKW.out.trans' (HK9.out.trans hk10) (fun q hq => by right; have := HGW.out; simp at hq; omega))
  obtain ⟨f, ⟨f8, -⟩, rfl⟩ := hF10.open92
  simp only [f8]
  clear f8 hF10 hk10
  go_wp2_with fail
  go_ret
  exact ⟨rfl, HK10.out⟩
end Go.Proofs.Ytpjkicbfdknjcaa
