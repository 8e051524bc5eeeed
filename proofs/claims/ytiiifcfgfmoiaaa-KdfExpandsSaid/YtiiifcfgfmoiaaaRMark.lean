/-
  The document's answer to Mark.
-/
import Derived.Test.YtiiifcfgfmoiaaaRSum
namespace Go.Proofs.Ytiiifcfgfmoiaaa
open Go.RowKit

theorem sum_length (l : List Int) : (Sha.sum l).length = 32 := by
  unfold Sha.sum
  generalize Sha.blks (Sha.pad l) _ = s
  simp [Sha.bytes, Sha.St.list, bb_length]
theorem sum_wf (l : List Int) : ∀ x ∈ Sha.sum l, (Lit.int .u8 x).wf = true := by
  intro x hx
  simp only [Sha.sum, Sha.bytes, List.mem_flatMap] at hx
  obtain ⟨n, _, hx⟩ := hx
  exact u8_wf (bb_wf _ _ x hx).1 (bb_wf _ _ x hx).2
theorem key_length (l : List Int) : (Sha.key l).length ≤ 64 := by
  unfold Sha.key
  split
  · rw [sum_length]; decide
  · omega
theorem keyX_length (l : List Int) (c : Nat) : (Sha.keyX l c).length = 64 := by simp [Sha.keyX]
theorem keyX_wf (l : List Int) (c : Nat) (hc : c < 256) (h : ∀ x ∈ Sha.key l, (Lit.int .u8 x).wf = true) : ∀ x ∈ Sha.keyX l c, (Lit.int .u8 x).wf = true := by
  intro x hx
  simp only [Sha.keyX, List.mem_map] at hx
  obtain ⟨i, _, rfl⟩ := hx
  have hk : ((Sha.key l).getD i 0).toNat < 256 := by
    rw [List.getD_eq_getElem?_getD]
    by_cases hi : i < (Sha.key l).length
    · have := wf_u8 (wf_getD h i hi)
      omega
    · rw [List.getElem?_eq_none (by omega)]; decide
  have := Nat.xor_lt_two_pow (n := 8) hk hc
  exact u8_wf (by omega) (by omega)
/-- make's run, of elements of one cell. -/
theorem run_make1 {P : Program} (w : World) (t e : TypeId) (z : Value) (bytes : Nat) (ht : P.underlying t = some (.slice e)) (hinfo : (P.info? e).map (fun i => (i.zero, i.size, i.bytes)) = some (some z, 1, bytes)) (hz1 : z.cells = #[z])
    (kl kc : IntKind) (L C : Int) (n m : Nat) (hL : L = (n : Int)) (hC : C = (m : Int)) (hnm : n ≤ m) (hb : bytes * m ≤ 281474976710656) (hm : m ≤ 9223372036854775807) :
    (Instr.makeSlice t (.int kl L) (.int kc C)).run P w = .ok (.slice (some ⟨w.heap.size, 0, none⟩) n m) (w.alloc (.cells (List.replicate m z).toArray e)) := by
  obtain ⟨i, hi, hz, hs, hby⟩ := info_parts hinfo
  subst hL; subst hC
  have hb' : (i.bytes : Int) * (m : Int) ≤ 281474976710656 := by
    rw [hby]
    have h : ((bytes * m : Nat) : Int) ≤ 281474976710656 := by omega
    rwa [Int.natCast_mul] at h
  have hrun := run_make (P := P) w t e i z ht hi hz kl kc n m (by omega) (by omega) hb' (by omega)
  simp only [Int.toNat_natCast, hs, Nat.mul_one, hz1] at hrun
  have hcells : madeCells #[z] m = (List.replicate m z).toArray := by
    apply Array.toList_inj.1
    rw [toList_madeCells_one]
  rw [hcells] at hrun
  exact hrun
/-- The row, its first i bytes laid. -/
def keyR (l : List Int) (c i : Nat) : List Value := ((Sha.keyX l c).take i ++ List.replicate (64 - i) 0).map (Value.int .u8)
theorem keyR_set (l : List Int) (c i : Nat) (h : i < 64) : (keyR l c i).toArray.setIfInBounds i (.int .u8 (((Sha.key l).getD i 0).toNat ^^^ c : Nat)) = (keyR l c (i + 1)).toArray := by
  have hx : (Sha.keyX l c)[i]? = some ((((Sha.key l).getD i 0).toNat ^^^ c : Nat) : Int) := by simp [Sha.keyX, h]
  have ht : (Sha.keyX l c).take (i + 1) = (Sha.keyX l c).take i ++ [((((Sha.key l).getD i 0).toNat ^^^ c : Nat) : Int)] := by rw [List.take_add_one, hx]; rfl
  have hl : ((Sha.keyX l c).take i).length = i := by rw [List.length_take_of_le (by rw [keyX_length]; omega)]
  unfold keyR
  rw [ht, show 64 - i = (64 - (i + 1)) + 1 by omega, List.replicate_succ]
  simp only [List.map_append, List.map_cons, List.setIfInBounds_toArray]
  rw [List.set_append_right _ _ (by rw [List.length_map, hl]; exact Nat.le_refl _), List.length_map, hl, Nat.sub_self]
  simp
theorem keyR_at (l : List Int) (c i : Nat) (h : i < 64) : (keyR l c i)[i]? = some (.int .u8 0) := by
  have hl : ((Sha.keyX l c).take i).length = i := by rw [List.length_take_of_le (by rw [keyX_length]; omega)]
  unfold keyR
  rw [List.getElem?_map, List.getElem?_append_right (by omega), hl]
  simp [show 0 < 64 - i by omega]
theorem keyR_all (l : List Int) (c : Nat) : keyR l c 64 = (Sha.keyX l c).map (Value.int .u8) := by
  unfold keyR
  rw [List.take_of_length_le (by rw [keyX_length]; exact Nat.le_refl _)]
  simp

theorem wf_key {l : List Int} (h : ∀ x ∈ l, (Lit.int .u8 x).wf = true) : ∀ x ∈ Sha.key l, (Lit.int .u8 x).wf = true := by
  unfold Sha.key
  split
  · exact sum_wf l
  · exact h
set_option maxHeartbeats 4000000 in
theorem rmark_any (kv bv : Value) (kl bl : List Int) (w : World) (hk : Sl .u8 w kv kl) (hb : Sl .u8 w bv bl) (hkl : kl.length ≤ 1000000000000) (hbl : bl.length ≤ 1000000000000) :
    Calls Try.prog 17 #[kv, bv] w fun e w' => ∃ v', e = .returned v' ∧ w'.ownsRow w.heap.size 5 1 v' 32 ((Sha.mark kl bl).map (Value.int .u8)) ∧ Keep [] w w' := by
  have HKV := Lib.hid hk
  have HBV := Lib.hid hb
  have HKL := Lib.hid hkl
  have HBL := Lib.hid hbl
  have S := Lib.hid (rsum_any kv kl w hk (by omega))
  obtain ⟨kA, kc, rfl, hkc1, hkc2, -, -⟩ := hk
  obtain ⟨bA, bc, rfl, hbc1, hbc2, -, -⟩ := hb
  go_enter Try.func17, Try.ntmps17
  go_upto_if 11 with fail
  go_cut [0] (fun s0 wc => Sl .u8 wc s0 (Sha.key kl) ∧ Keep [] w wc)
  case first =>
    by_cases hlt : 64 < kl.length
    · have hkey : Sha.key kl = Sha.sum kl := by unfold Sha.key; rw [if_pos hlt]
      have HKEY := Lib.hid hkey
      clear hkey
      go_wp2_with (go_at_call 19; with_reducible refine S.out.mono ?_; rintro e w1 ⟨v1, rfl, ho1, hk1⟩)
      go_meet
      case rel => exact ⟨by rw [HKEY.out]; exact Sl.of_own ho1 (sum_wf kl), hk1⟩
    · have hkey : Sha.key kl = kl := by unfold Sha.key; rw [if_neg hlt]
      have HKEY := Lib.hid hkey
      clear hkey
      go_wp2_with fail
      go_meet
      case rel => exact ⟨by rw [HKEY.out]; exact HKV.out, Keep.refl _ _⟩
  case rest =>
    obtain ⟨hs0, hk0⟩ := hcut
    obtain ⟨wk, rfl⟩ : ∃ wk, wk = wc := ⟨_, rfl⟩
    go_upto_region 3 with fail
    go_cut [5, 6] (fun s5 s6 wx => ∃ gi go, s5 = .slice (some ⟨gi, 0, none⟩) 64 64 ∧ s6 = .slice (some ⟨go, 0, none⟩) 64 64 ∧ gi ≠ go ∧ wk.heap.size ≤ gi ∧ wk.heap.size ≤ go ∧ Blk wx gi 5 (keyR kl 54 0).toArray ∧ Blk wx go 5 (keyR kl 92 0).toArray ∧ Keep [] wk wx)
    case first =>
      have hmk := fun W => run_make1 (P := Try.prog) W 24 5 (.int .u8 0) 1 Try.underlying24 u8infB rfl .i64 .i64 64 64 64 64 rfl rfl (Nat.le_refl _) (by omega) (by omega)
      obtain ⟨Z, hZ⟩ : ∃ Z, Z = (List.replicate 64 (Value.int .u8 0)).toArray := ⟨_, rfl⟩
      have h54 : (keyR kl 54 0).toArray = Z := by rw [hZ]; rfl
      have h92 : (keyR kl 92 0).toArray = Z := by rw [hZ]; rfl
      rw [← hZ] at hmk
      have H54 := Lib.hid h54
      have H92 := Lib.hid h92
      clear hZ h54 h92
      obtain ⟨wz, hwz⟩ : ∃ wz, wz = (wk.alloc (.cells Z 5)).alloc (.cells Z 5) := ⟨_, rfl⟩
      have b1 : Blk wz.drew wk.heap.size 5 Z := by rw [hwz]; exact ((Blk.new wk 5 Z).alloc _).drew
      have b2 : Blk wz.drew (wk.heap.size + 1) 5 Z := by
        have := (Blk.new (wk.alloc (.cells Z 5)) 5 Z).drew
        rw [hwz]
        simpa using this
      have hkz : Keep [] wk wz.drew := by rw [hwz]; exact (((Keep.refl _ _).alloc _).alloc _).drew
      have B1 := Lib.hid b1
      have B2 := Lib.hid b2
      have HKZ := Lib.hid hkz
      have HWZ := Lib.hid hwz
      clear b1 b2 hkz hwz
      go_region_with (fail)
      · go_wp2_with fail
        go_meet
        case rel =>
          rw [← HWZ.out]
          exact ⟨_, _, rfl, rfl, by omega, Nat.le_refl _, by omega, by rw [H54.out]; exact B1.out, by rw [H92.out]; exact B2.out, HKZ.out⟩
      · go_wp2_with fail
        go_meet
        case rel =>
          rw [← HWZ.out]
          exact ⟨_, _, rfl, rfl, by omega, by omega, Nat.le_refl _, by rw [H54.out]; exact B2.out, by rw [H92.out]; exact B1.out, HKZ.out⟩
    case rest =>
      obtain ⟨wx, rfl⟩ : ∃ wx, wx = wc := ⟨_, rfl⟩
      obtain ⟨gi, go, rfl, rfl, hne, hgi, hgo, hBi, hBo, hkx⟩ := hcut
      obtain ⟨K, hK⟩ : ∃ K, K = Sha.key kl := ⟨_, rfl⟩
      have hKl := key_length kl
      rw [← hK] at hs0 hKl
      have HS0 := Lib.hid hs0
      have HKK := Lib.hid hK
      have HK0 := Lib.hid hk0
      have HKX := Lib.hid hkx
      have HBI := Lib.hid hBi
      have HBO := Lib.hid hBo
      have HNE := Lib.hid hne
      have HGI := Lib.hid hgi
      have HGO := Lib.hid hgo
      obtain ⟨A0, c0, rfl, hc1, hc2, -, -⟩ := hs0
      clear hk0 hne hgi hgo hBi hBo hkx hK hkl hbl hkc1 hkc2
      go_upto_block 0 with fail
      go_cut [5] (fun s5 wy => s5 = .slice (some ⟨gi, 0, none⟩) 64 64 ∧ Blk wy gi 5 (keyR kl 54 64).toArray ∧ Blk wy go 5 (keyR kl 92 64).toArray ∧ Keep [gi, go] wx wy)
      case first =>
        go_wp2_with fail
        go_loopw [7] (fun s7 wr => ∃ i : Nat, i ≤ 64 ∧ s7 = .int .i64 i ∧ Blk wr gi 5 (keyR kl 54 i).toArray ∧ Blk wr go 5 (keyR kl 92 i).toArray ∧ Keep [gi, go] wx wr) (fun s7 _ => 64 - (intOf s7).toNat)
        case atStart => exact ⟨0, by omega, rfl, HBI.out, HBO.out, Keep.refl _ _⟩
        case round =>
          obtain ⟨i, hi, rfl, hb1, hb2, hk⟩ := hrel
          by_cases hlt : i < 64
          · have R1 := Lib.hid (keyR_set kl 54 i hlt)
            have R2 := Lib.hid (keyR_set kl 92 i hlt)
            have c1 : wr.cell? ⟨gi, i, none⟩ = some (.int .u8 0) := by rw [hb1.cell]; simpa using keyR_at kl 54 i hlt
            have c2 : wr.cell? ⟨go, i, none⟩ = some (.int .u8 0) := by rw [hb2.cell]; simpa using keyR_at kl 92 i hlt
            have fr1 := hb1.frozen i
            have fr2 := hb2.frozen i
            rw [← HKK.out] at R1 R2
            have HB1 := Lib.hid hb1
            have HB2 := Lib.hid hb2
            have HK := Lib.hid hk
            have hne := HNE.out
            obtain ⟨x, hx⟩ : ∃ x, x = K.getD i 0 := ⟨_, rfl⟩
            rw [← hx] at R1 R2
            by_cases hin : i < K.length
            · have hsr := (HS0.out.keep0 HKX.out).keep HK.out (fun _ g hg => by
                have h1 := HS0.out.lt (by omega) g hg
                have h2 := HGI.out
                have h3 := HGO.out
                simp; omega)
              obtain ⟨b, off, c, e0, _, _, hcell⟩ := hsr.cells (by omega)
              simp only [Value.slice.injEq] at e0
              obtain ⟨rfl, -, rfl⟩ := e0
              have hcx := hcell i hin
              have hyy := wf_u8 (wf_getD hsr.wf i hin)
              rw [show K[i]?.getD 0 = x by rw [hx]; simp] at hcx hyy
              obtain ⟨x0, x1⟩ := hyy
              have e54 : bits .xor .u8 x 54 = ((x.toNat ^^^ 54 : Nat) : Int) := u8_xor x 54 x0 (by omega) (by decide) (by decide)
              have e92 : bits .xor .u8 x 92 = ((x.toNat ^^^ 92 : Nat) : Int) := u8_xor x 92 x0 (by omega) (by decide) (by decide)
              have E54 := Lib.hid e54
              have E92 := Lib.hid e92
              clear hb1 hb2 hk hsr hcell hx e54 e92
              go_wp2_with fail
              refine ⟨⟨i + 1, by omega, by go_num, ?_, ?_, (HK.out.setCell (.inl (by simp)) _).setCell (.inl (by simp)) _⟩, by simp [intOf]; omega⟩
              · have := (HB1.out.set_ i (.int .u8 (bits .xor .u8 x 54))).far (p := ⟨go, i, none⟩) HNE.out (.int .u8 (bits .xor .u8 x 92))
                rw [show (keyR kl 54 i).toArray.setIfInBounds i (.int .u8 (bits .xor .u8 x 54)) = (keyR kl 54 (i + 1)).toArray by rw [E54.out]; exact R1.out] at this
                exact this
              · have := (HB2.out.far (p := ⟨gi, i, none⟩) (Ne.symm HNE.out) (.int .u8 (bits .xor .u8 x 54))).set_ i (.int .u8 (bits .xor .u8 x 92))
                rw [show (keyR kl 92 i).toArray.setIfInBounds i (.int .u8 (bits .xor .u8 x 92)) = (keyR kl 92 (i + 1)).toArray by rw [E92.out]; exact R2.out] at this
                exact this
            · have hx0 : x = 0 := by rw [hx, List.getD_eq_getElem?_getD, List.getElem?_eq_none (by omega)]; rfl
              subst hx0
              clear hb1 hb2 hk hx
              have e54 : bits .xor .u8 0 54 = ((((0 : Int).toNat ^^^ 54 : Nat)) : Int) := by decide
              have e92 : bits .xor .u8 0 92 = ((((0 : Int).toNat ^^^ 92 : Nat)) : Int) := by decide
              have E54 := Lib.hid e54
              have E92 := Lib.hid e92
              clear e54 e92
              go_wp2_with fail
              refine ⟨⟨i + 1, by omega, by go_num, ?_, ?_, (HK.out.setCell (.inl (by simp)) _).setCell (.inl (by simp)) _⟩, by simp [intOf]; omega⟩
              · have := (HB1.out.set_ i (.int .u8 (bits .xor .u8 0 54))).far (p := ⟨go, i, none⟩) HNE.out (.int .u8 (bits .xor .u8 0 92))
                rw [show (keyR kl 54 i).toArray.setIfInBounds i (.int .u8 (bits .xor .u8 0 54)) = (keyR kl 54 (i + 1)).toArray by rw [E54.out]; exact R1.out] at this
                exact this
              · have := (HB2.out.far (p := ⟨gi, i, none⟩) (Ne.symm HNE.out) (.int .u8 (bits .xor .u8 0 54))).set_ i (.int .u8 (bits .xor .u8 0 92))
                rw [show (keyR kl 92 i).toArray.setIfInBounds i (.int .u8 (bits .xor .u8 0 92)) = (keyR kl 92 (i + 1)).toArray by rw [E92.out]; exact R2.out] at this
                exact this
          · obtain rfl : i = 64 := by omega
            have HB1 := Lib.hid hb1
            have HB2 := Lib.hid hb2
            have HK := Lib.hid hk
            clear hb1 hb2 hk
            go_wp2_with fail
            go_meet
            case rel => exact ⟨rfl, HB1.out, HB2.out, HK.out⟩
      case rest =>
        obtain ⟨wy, rfl⟩ : ∃ wy, wy = wc := ⟨_, rfl⟩
        obtain ⟨rfl, hb1, hb2, hky⟩ := hcut
        rw [keyR_all] at hb1 hb2
        have hwk := wf_key HKV.out.wf
        have hoi : wy.ownsRow w.heap.size 5 1 (.slice (some ⟨gi, 0, none⟩) 64 64) 64 ((Sha.keyX kl 54).map (Value.int .u8)) := by
          refine own_base (own_of_blk hb1 (by simp [keyX_length]) (Nat.le_refl _) (by omega) ?_) ?_
          · rw [List.take_of_length_le (by simp [keyX_length])]
          · have h1 := HGI.out; have h2 := HK0.out.size; omega
        have hrb := (((HBV.out.keep0 HK0.out).keep0 HKX.out).keep hky (fun hp g hg => by
          have h1 := HBV.out.lt hp g hg; have h2 := HK0.out.size; have h3 := HGI.out; have h4 := HGO.out; simp; omega)).rd
        have HWY := Lib.hid (show Keep [] w wy from (HK0.out.trans HKX.out).trans' hky (fun g hg => by
          right; have h2 := HK0.out.size; have h3 := HGI.out; have h4 := HGO.out; simp at hg; omega))
        have HOI := Lib.hid hoi
        have HB2 := Lib.hid hb2
        have HWF := Lib.hid hwk
        have HRB := Lib.hid hrb
        clear hb1 hb2 hky hoi hrb hwk S HBI HBO
        have HL1 := Lib.hid (show 64 + bl.length ≤ 1099511627776 by have := HBL.out; omega)
        go_wp2_with (first
          | (at_builtin
             refine wl_append _ rfl _ _ _ rfl w.heap.size 5 (.int .u8 0) 1 1 Try.underlying24 u8infB rfl (by decide) (.slice (some ⟨gi, 0, none⟩) 64 64) _ _ rfl HOI.out bA bl.length bc (bl.map (Value.int .u8)) rfl (by simp) HRB.out (ints_one _ _) (by simp only [maxLen]; have := HL1.out; omega) (by have := HL1.out; omega) HWY.out.size ?_
             intro v1 w1 ho1 hk1 hat1
             rw [← List.map_append] at ho1
             have HO1 := Lib.hid ho1
             have HK1 := Lib.hid hk1
             clear ho1 hk1 hat1)
          | (go_at_call 19
             with_reducible refine (rsum_any v1 (Sha.keyX kl 54 ++ bl) w1 (Sl.of_own HO1.out (fun x hx => (List.mem_append.1 hx).elim (keyX_wf kl 54 (by decide) HWF.out x) (HBV.out.wf x))) (by rw [List.length_append, keyX_length]; exact HL1.out)).mono ?_
             rintro e w2 ⟨v2, rfl, ho2, hk2⟩
             have HO2 := Lib.hid ho2
             have HK2 := Lib.hid hk2
             clear ho2 hk2
             obtain ⟨A2, c2, rfl⟩ := own_slice HO2.out)
          | (at_builtin
             refine wl_append _ rfl _ _ _ rfl w.heap.size 5 (.int .u8 0) 1 1 Try.underlying24 u8infB rfl (by decide) (.slice (some ⟨go, 0, none⟩) 64 64) 64 ((Sha.keyX kl 92).map (Value.int .u8)) rfl
               (own_base (own_of_blk ((HB2.out.keep HK1.out (by have := HNE.out; simp [Value.ownBlock]; omega)).keep HK2.out (by simp)) (by simp [keyX_length]) (Nat.le_refl _) (by omega) (by rw [List.take_of_length_le (by simp [keyX_length])])) (by have h1 := HGO.out; have h2 := HK0.out.size; omega))
               A2 32 c2 ((Sha.sum (Sha.keyX kl 54 ++ bl)).map (Value.int .u8)) rfl (by simp [sum_length]) (Rd.of_own HO2.out) (ints_one _ _) (by simp only [maxLen]; omega) (by omega) (by have h1 := HWY.out.size; have h2 := HK1.out.size; have h3 := HK2.out.size; omega) ?_
             intro v3 w3 ho3 hk3 hat3
             rw [← List.map_append] at ho3
             have HO3 := Lib.hid ho3
             have HK3 := Lib.hid hk3
             clear ho3 hk3 hat3)
          | (go_at_call 19
             with_reducible refine (rsum_any v3 (Sha.keyX kl 92 ++ Sha.sum (Sha.keyX kl 54 ++ bl)) w3 (Sl.of_own HO3.out (fun x hx => (List.mem_append.1 hx).elim (keyX_wf kl 92 (by decide) HWF.out x) (sum_wf _ x))) (by rw [List.length_append, keyX_length, sum_length]; omega)).mono ?_
             rintro e w4 ⟨v4, rfl, ho4, hk4⟩
             have HO4 := Lib.hid ho4
             have HK4 := Lib.hid hk4
             clear ho4 hk4))
        have h0 := HK0.out.size
        have hk3 : Keep [] w w3 := ((HWY.out.trans' HK1.out (fun g hg => by right; have := HGI.out; simp [Value.ownBlock] at hg; omega)).trans HK2.out).trans' HK3.out (fun g hg => by right; have := HGO.out; simp [Value.ownBlock] at hg; omega)
        go_ret
        exact ⟨v4, rfl, own_base HO4.out hk3.size, hk3.trans HK4.out⟩

end Go.Proofs.Ytiiifcfgfmoiaaa
