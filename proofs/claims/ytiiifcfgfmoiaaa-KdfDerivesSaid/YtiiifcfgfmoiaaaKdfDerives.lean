/-
  The law KdfDerives, over what kdf's functions keep.
-/
import Derived.Test.YtiiifcfgfmoiaaaKdf9
namespace Go.Proofs.Ytiiifcfgfmoiaaa
open Go.RowKit

set_option maxRecDepth 100000 in
set_option maxHeartbeats 8000000 in
theorem kdfDerives_any (hN : KNewC) (hX : ExtractC) (hDe : DeriveC) (hTa : TablesC) (kl : List Int) (sv : Value) (sl : List Int) (nv : Value) (nl : List Int) (dv : Value) (dl : List Int) (lab : ByteArray) (w : World) (hs : Secr kl) (h1 : Sl .u8 w sv sl) (h2 : Sl .u8 w nv nl) (h3 : Sl .u8 w dv dl) (hlab : lab.size ≤ maxLen) :
    Calls Try.prog 5 #[arr kl, sv, nv, dv, .string lab] w fun e w' => e = .returned (.bool true) ∧ Keep [] w w' := by
  have A := fun w => Lib.hid (awake4_any hN hX w)
  have N := fun w => Lib.hid (hN w)
  have TB := fun w k t h => Lib.hid (hTa w k t h)
  have HS := Lib.hid hs
  have H1 := Lib.hid h1
  have H2 := Lib.hid h2
  have H3 := Lib.hid h3
  have HLT3 := Lib.hid (fun hl => h3.lt hl)
  obtain ⟨D0, hD0⟩ : ∃ D0, D0 = (kl.map (Value.int .u8)).toArray := ⟨_, rfl⟩
  have HD0 := Lib.hid hD0
  rw [arr_agg, ← hD0]
  obtain ⟨Z2, hZ2, hZ2s, hZ2i⟩ := u8x32
  have HZ2S := Lib.hid hZ2s
  have HZ2I := Lib.hid hZ2i
  simp only [maxLen] at hlab
  obtain ⟨sA, sc, rfl, hsc1, hsc2, -, -⟩ := h1
  obtain ⟨nA, nc, rfl, hnc1, hnc2, -, -⟩ := h2
  obtain ⟨dA, dc, rfl, hdc1, hdc2, -, -⟩ := h3
  have hsz1 : (0 : Int) ≤ lab.size := Int.natCast_nonneg _
  clear hs hD0 hZ2 hZ2s hZ2i hsz1
  go_enter Try.func5, Try.ntmps5
  go_upto_region 3 with (first
    | (refine wl_box rfl _ _ rfl D0 rfl ?_; intro w1 hB1 hk1 hz1; have HB1 := Lib.hid hB1; have HK1 := Lib.hid hk1; clear hB1 hk1 hz1)
    | (go_at_call 7; with_reducible refine (A w1).out.mono ?_; rintro e w2 ⟨rfl, hk2⟩; have HK2 := Lib.hid hk2; clear hk2))
  obtain ⟨gb, hgb⟩ : ∃ gb, gb = w.heap.size := ⟨_, rfl⟩
  have HB1' : Hid (Blk w1 gb 23 D0) := Lib.hid (by rw [hgb]; exact HB1.out)
  rw [← hgb]
  have HGB := Lib.hid hgb
  clear HB1 hgb
  by_cases hb1 : 100 < sl.length
  · go_wp2_with fail
    go_ret
    exact ⟨rfl, HK1.out.trans HK2.out⟩
  by_cases hb2 : 100 < nl.length
  · go_wp2_with fail
    go_ret
    exact ⟨rfl, HK1.out.trans HK2.out⟩
  by_cases hb3 : 200 < dl.length
  · go_wp2_with fail
    go_ret
    exact ⟨rfl, HK1.out.trans HK2.out⟩
  by_cases hb4 : 100 < lab.size
  · go_wp2_with fail
    go_ret
    exact ⟨rfl, HK1.out.trans HK2.out⟩
  have HLS := Lib.hid (show sl.length ≤ 10000 by omega)
  have HLN := Lib.hid (show nl.length ≤ 10000 by omega)
  have HLD := Lib.hid (show dl.length ≤ 10000 by omega)
  have HLL := Lib.hid (show lab.size ≤ 249 by omega)
  go_upto_region 6 with (go_at_call 8; with_reducible refine (N w2).out.mono ?_; rintro e w3 ⟨k, t, rfl, hk3, ht3, hs3, hkk3⟩)
  have hw12 := (HK1.out.trans HK2.out).size
  have HK3 := Lib.hid ((HK1.out.trans HK2.out).trans hkk3)
  have HS3 := Lib.hid hs3
  have HB3 := Lib.hid (HB1'.out.keep (HK2.out.trans hkk3) (by simp))
  have HKT := Lib.hid (show w.heap.size ≤ k ∧ w.heap.size ≤ t from ⟨by omega, by omega⟩)
  have HG0 := Lib.hid (show gb ≠ k ∧ gb ≠ t by
    have h1 := HB1'.out.lt
    have h2 := HK2.out.size
    exact ⟨by omega, by omega⟩)
  have HAP := Lib.hid (show 0 < dl.length → ∀ g, (Value.slice dA dl.length dc).ownBlock = some g → g ∉ [k, t] from fun hl g hg => by
    have h1 := HLT3.out hl g hg
    have h2 := HKT.out
    simp; omega)
  obtain ⟨DX, hDX⟩ : ∃ DX, DX = ((Sha.mark sl nl).map (Value.int .u8)).toArray := ⟨_, rfl⟩
  obtain ⟨DD, hDD⟩ : ∃ DD, DD = ((Sha.label kl (sby lab) (Sha.sum dl) 32).map (Value.int .u8)).toArray := ⟨_, rfl⟩
  obtain ⟨DH, hDH⟩ : ∃ DH, DH = ((Sha.sum dl).map (Value.int .u8)).toArray := ⟨_, rfl⟩
  have HDX := Lib.hid hDX
  have HDD := Lib.hid hDD
  have HDH := Lib.hid hDH
  clear hk3 ht3 hs3 hkk3 hw12 hDX hDD hDH hb1 hb2 hb3 hb4 hlab
  refine OutN.use (der_reg6 hX hDe (fun a' w' => ∃ m12 m13, Fr 75 [(1, .slice sA sl.length sc), (2, .slice nA nl.length nc), (3, .slice dA dl.length dc), (4, .string lab), (5, .pointer (some ⟨gb, 0, none⟩)), (10, .bool false), (11, .pointer (some ⟨k, 0, none⟩)), (12, .pointer (some ⟨m12, 0, none⟩)), (13, .pointer (some ⟨m13, 0, none⟩))] a' ∧ w3.heap.size ≤ m12 ∧ w3.heap.size ≤ m13 ∧ Blk w' m12 23 DX ∧ Blk w' m13 23 DD ∧ KS w' k t ∧ Keep [k, t] w3 w') _ w3 k t gb sA nA dA sc nc dc sl nl dl kl lab D0 DX DD
    HS3 HB3 HG0 HD0 HS (Lib.hid (H1.out.keep0 HK3.out)) (Lib.hid (H2.out.keep0 HK3.out)) (Lib.hid (H3.out.keep0 HK3.out)) HAP HLS HLN HLD HLL HDX HDD
    ⟨rfl, rfl, by repeat (first | exact trivial | refine ⟨rfl, ?_⟩)⟩ (Lib.hid fun a' w' m12 m13 h1 h2 h3 h4 h5 h6 h7 => ⟨m12, m13, h1, h2, h3, h4, h5, h6, h7⟩)) ?_
  rintro a' w4 ⟨m12, m13, hF, hm12, hm13, hb12, hb13, hs4, hk4⟩
  have HK4 := Lib.hid (HK3.out.trans' hk4 (fun x hx => by right; have := HKT.out; simp at hx; omega))
  have HS4 := Lib.hid hs4
  have HM := Lib.hid (show m12 ≠ t ∧ m13 ≠ t ∧ gb ≠ t from ⟨by have := HS3.out.lt.2; omega, by have := HS3.out.lt.2; omega, HG0.out.2⟩)
  have HB12 := Lib.hid hb12
  have HB13 := Lib.hid hb13
  have HB4 := Lib.hid (HB3.out.keep hk4 (by have := HG0.out; simp; omega))
  have SM := Lib.hid (sum_any (w4.alloc (.cells #[.slice dA dl.length dc] 24)) t (.slice (some ⟨w4.heap.size, 0, none⟩) 1 1) [dl] (hs4.ts.keep ((Keep.refl [] w4).alloc _) (by simp))
    (Pl.one (Blk.new w4 24 #[.slice dA dl.length dc]) ((H3.out.keep0 HK4.out).keep0 ((Keep.refl [] w4).alloc _))) (by have := HLD.out; simp; omega) (by simp))
  rw [show ([dl] : List (List Int)).flatten = dl by simp] at SM
  simp only [arr_agg, ← HDH.out] at SM
  have HHS := Lib.hid (show DH.size = 32 by rw [HDH.out]; simp [sum_length])
  have HH1 := Lib.hid (show DH.all (·.oneCell') = true by rw [HDH.out]; exact arr_cell _)
  obtain ⟨f, ⟨f1, f2, f3, f4, f5, f10, f11, f12, f13, -⟩, rfl⟩ := hF.open75
  simp only [f1, f2, f3, f4, f5, f10, f11, f12, f13]
  clear f1 f2 f3 f4 f5 f10 f11 f12 f13 hF hm12 hm13 hb12 hb13 hs4 hk4
  go_upto_region 8 with (first
    | (go_at_call 15; with_reducible refine (TB w4 k t HS4.out).out.mono ?_; rintro e w5 ⟨rfl, rfl⟩)
    | (go_at_call 16; with_reducible refine SM.out.mono ?_; rintro e w5 ⟨rfl, hT5, hk5⟩; have HT5 := Lib.hid hT5; have HK5 := Lib.hid (((Keep.refl [t] w4).alloc _).trans hk5); clear hT5 hk5)
    | (refine wl_alloc_rowZ rfl _ rfl Z2 32 HZ2I.out ?_; intro w6 hB6 hk6 hz6; have HB6 := Lib.hid hB6; have HK6 := Lib.hid hk6; clear hB6 hk6 hz6)
    | (refine wl_store_row rfl _ _ _ rfl w5.heap.size rfl DH rfl _ _ HB6.out (by rw [HHS.out]; kernel_rfl) (by rw [HHS.out]; exact HZ2S.out) HH1.out ?_; intro w7 hB7 hk7 hz7; have HB7 := Lib.hid hB7; have HK7 := Lib.hid hk7; clear hB7 hk7 hz7))
  obtain ⟨m14, hm14⟩ : ∃ m14, m14 = w5.heap.size := ⟨_, rfl⟩
  have hw5 := HK5.out.size
  have hk47 : Keep [t] w4 w7 := (HK5.out.trans0 HK6.out).trans' HK7.out (fun x hx => by right; simp at hx; omega)
  have HKA := Lib.hid (show Keep [] w w7 from HK4.out.trans' hk47 (fun x hx => by right; have := HKT.out; simp at hx; omega))
  have hM := HM.out
  have R8 := der_reg8 (fun a' w' => Fr 75 [(10, .bool true)] a' ∧ Keep [] w7 w')
  have B12 := Lib.hid (HB12.out.keep hk47 (by simp; omega))
  have B13 := Lib.hid (HB13.out.keep hk47 (by simp; omega))
  have B4 := Lib.hid (HB4.out.keep hk47 (by simp; omega))
  have B14 := Lib.hid (show Blk w7 m14 22 DH by rw [hm14]; exact HB7.out)
  rw [← hm14]
  refine OutN.use (R8 _ w7 gb m12 m13 m14 sA nA dA sc nc dc sl nl dl kl lab D0 DX DD DH
    B4 HD0 HS (Lib.hid (H1.out.keep0 HKA.out)) (Lib.hid (H2.out.keep0 HKA.out)) (Lib.hid (H3.out.keep0 HKA.out)) HLS HLN HLD HLL HDX HDD HDH B12 B13 B14
    ⟨rfl, rfl, by repeat (first | exact trivial | refine ⟨rfl, ?_⟩)⟩ (Lib.hid fun a' w' h1 h2 => ⟨h1, h2⟩)) ?_
  rintro a' w8 ⟨hF, hk8⟩
  have HK8 := Lib.hid (HKA.out.trans hk8)
  obtain ⟨f, ⟨f10, -⟩, rfl⟩ := hF.open75
  simp only [f10]
  clear f10 hF hk8 hM hw5 hk47 hm14 R8
  go_wp2_with fail
  go_ret
  exact ⟨rfl, HK8.out⟩
end Go.Proofs.Ytiiifcfgfmoiaaa
