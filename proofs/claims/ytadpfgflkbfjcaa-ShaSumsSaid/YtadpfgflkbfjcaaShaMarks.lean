/-
  The law ShaMarks, over what New, Sum and Mark keep.
-/
import Derived.Test.YtadpfgflkbfjcaaShaKnown
import Derived.Deep.RegionHeld3
import Derived.Deep.AppendLies
namespace Go.Proofs.Ytadpfgflkbfjcaa
open Go.RowKit

/-- An array of bytes, sliced whole, as a string. -/
theorem conv_row {w : World} {g : Nat} {t : TypeId} (l : List Int) (hb : Blk w g t (l.map (Value.int .u8)).toArray) (hw : ∀ x ∈ l, (Lit.int .u8 x).wf = true) (hl : l.length = 32) :
    (convert 22 9 (.slice (some ⟨g, 0, Option.none⟩) 32 32)).run Try.prog w = .ok (.string (bstr l)) w :=
  run_bytes_str (l := l) ⟨_, 32, by rw [hl], by omega, by decide, by simpa using Rd.of_blk hb, hw⟩ Try.underlying22 Try.underlying5 Try.underlying9

set_option maxRecDepth 100000 in
set_option maxHeartbeats 4000000 in
theorem shaMarks_any (hN : NewC) (hS : SumC) (hM : MarkC) (kv bv cv : Value) (kl bl cl : List Int) (w : World) (hk : Sl .u8 w kv kl) (hb : Sl .u8 w bv bl) (hc : Sl .u8 w cv cl) :
    Calls Try.prog 4 #[kv, bv, cv] w fun e w' => e = .returned (.bool true) ∧ Keep [] w w' := by
  have A := Lib.hid (awake3_any hN hS w)
  have N := fun w => Lib.hid (hN w)
  have HKV := Lib.hid hk
  have HBV := Lib.hid hb
  have HCV := Lib.hid hc
  obtain ⟨kA, kc, rfl, hk1, hk2, -, -⟩ := hk
  obtain ⟨bA, bc, rfl, hb1, hb2, -, -⟩ := hb
  obtain ⟨cA, cc, rfl, hc1, hc2, -, -⟩ := hc
  by_cases hbig : 200 < kl.length ∨ 200 < bl.length ∨ 200 < cl.length
  · have hcase : 200 < kl.length ∨ (kl.length ≤ 200 ∧ 200 < bl.length) ∨ (kl.length ≤ 200 ∧ bl.length ≤ 200 ∧ 200 < cl.length) := by omega
    clear hbig
    rcases hcase with h | ⟨h, h'⟩ | ⟨h, h', h''⟩ <;>
    · go_enter Try.func4, Try.ntmps4
      go_upto_region 5 with (first
        | (go_at_call 7; with_reducible refine A.out.mono ?_; rintro e w1 ⟨rfl, hk1⟩; have HK1 := Lib.hid hk1; clear hk1))
      go_ret
      exact ⟨rfl, HK1.out⟩
  obtain ⟨hkl, hbl, hcl⟩ : kl.length ≤ 200 ∧ bl.length ≤ 200 ∧ cl.length ≤ 200 := by omega
  clear hbig
  go_enter Try.func4, Try.ntmps4
  go_upto_region 5 with (first
    | (go_at_call 7; with_reducible refine A.out.mono ?_; rintro e w1 ⟨rfl, hk1⟩; have HK1 := Lib.hid hk1; clear hk1))
  go_upto_region 6 with (first
    | (go_at_call 8; with_reducible refine (N w1).out.mono ?_; rintro e w2 ⟨g, rfl, hg, ht, hk⟩; have HG := Lib.hid hg; have HT := Lib.hid ht; have HK2 := Lib.hid (HK1.out.trans hk); clear hg ht hk))
  obtain ⟨w3, h3⟩ : ∃ w3, w3 = w2.alloc (.cells #[.slice bA bl.length bc, .slice cA cl.length cc] 22) := ⟨_, rfl⟩
  have hb3 : Blk w3 w2.heap.size 22 #[.slice bA bl.length bc, .slice cA cl.length cc] := by rw [h3]; exact Blk.new _ _ _
  have k3 : Keep [] w2 w3 := by rw [h3]; exact (Keep.refl _ _).alloc _
  have hc := hM w3 g _ _ kl [bl, cl] (HT.out.keep k3 (by simp)) ((HKV.out.keep0 HK2.out).keep0 k3) (Pl.two hb3 ((HBV.out.keep0 HK2.out).keep0 k3) ((HCV.out.keep0 HK2.out).keep0 k3)) (by omega) (by simp; omega) (by simp)
  rw [show ([bl, cl] : List (List Int)).flatten = bl ++ cl by simp] at hc
  obtain ⟨m, hm⟩ : ∃ m, m = Sha.mark kl (bl ++ cl) := ⟨_, rfl⟩
  rw [← hm] at hc
  have hml : m.length = 32 := by rw [hm]; simp [Sha.mark, sum_length]
  have hmw : ∀ x ∈ m, (Lit.int .u8 x).wf = true := by rw [hm]; exact sum_wf _
  obtain ⟨D, hD⟩ : ∃ D, D = (m.map (Value.int .u8)).toArray := ⟨_, rfl⟩
  have hDs : D.size = 32 := by rw [hD]; simp [hml]
  have hD1 : D.all (·.oneCell') = true := by rw [hD]; exact arr_cell _
  unfold arr at hc
  rw [← hD] at hc
  have HC := Lib.hid hc
  have HK3 := Lib.hid (HK2.out.trans k3)
  have H3 := Lib.hid h3
  have HM := Lib.hid hm
  have HD := Lib.hid hD
  have HML := Lib.hid hml
  have HMW := Lib.hid hmw
  clear hc k3 h3 hb3 hm hD hml hmw
  rw [← H3.out]
  go_upto_region 6 with (first
    | (go_at_call 11; with_reducible refine HC.out.mono ?_; rintro e w4 ⟨rfl, ht4, hk4⟩; have HK4 := Lib.hid (HK3.out.trans' hk4 (by intro x hx; right; simp at hx; have h1 := HG.out; have h2 := HK1.out.size; omega)); clear ht4 hk4)
    | (refine wl_store_row rfl _ _ _ rfl w4.heap.size rfl D rfl 28 _ (Blk.new w4 _ _) (by rw [hDs]; kernel_rfl) (by rw [hDs]; rfl) hD1 ?_; intro w5 hB5 hk5 hz5))
  have HK5 := Lib.hid ((HK4.out.trans ((Keep.refl [] w4).alloc _)).trans' hk5 (by intro x hx; right; simp at hx; have := HK4.out.size; omega))
  obtain ⟨G, hG⟩ : ∃ G, G = w4.heap.size := ⟨_, rfl⟩
  rw [← hG] at hB5 ⊢
  rw [HD.out] at hB5
  have HB5 := Lib.hid hB5
  have HGw := Lib.hid (show w.heap.size ≤ G by rw [hG]; exact HK4.out.size)
  have HGl := Lib.hid hB5.lt
  clear hB5 hk5 hz5 hG
  obtain ⟨s, hs⟩ : ∃ s, s = bstr m := ⟨_, rfl⟩
  have cv := conv_row m HB5.out HMW.out HML.out
  rw [← hs] at cv
  have HS := Lib.hid hs
  clear hs
  have CVS : Hid (∀ W', Blk W' G 28 (m.map (Value.int .u8)).toArray → (convert 22 9 (.slice (some ⟨G, 0, Option.none⟩) 32 32)).run Try.prog W' = .ok (.string s) W') := by
    intro W' hb
    rw [HS.out]
    exact conv_row m hb HMW.out HML.out
  have HRB := Lib.hid ((HBV.out.keep0 HK5.out).rd)
  have HRC := Lib.hid (HCV.out.keep0 HK5.out)
  have HRK := Lib.hid (HKV.out.keep0 HK5.out)
  have HL := Lib.hid (show bl.length ≤ 200 ∧ cl.length ≤ 200 ∧ kl.length ≤ 200 from ⟨hbl, hcl, hkl⟩)
  clear hk1 hk2 hb1 hb2 hc1 hc2 hkl hbl hcl A N HC HT
  have HO0 : Hid ((w5.alloc (.cells #[] 5)).drew.ownsRow w5.heap.size 5 1 (.slice (some ⟨w5.heap.size, 0, Option.none⟩) 0 0) 0 []) := own_of_blk (Blk.new w5 5 #[]) rfl (Nat.le_refl _) (by omega) rfl
  have HR0 : Hid (Rd (w5.alloc (.cells #[] 5)).drew bA (bl.map (Value.int .u8))) := HRB.out.keep0 ((Keep.refl _ _).alloc _).drew
  have HZ0 : Hid (w5.heap.size ≤ (w5.alloc (.cells #[] 5)).drew.heap.size) := by show w5.heap.size ≤ (w5.heap.push _).size; simp
  have HC0 : Hid (Sl .u8 (w5.alloc (.cells #[] 5)).drew (.slice cA cl.length cc) cl) := HRC.out.keep0 ((Keep.refl _ _).alloc _).drew
  have HBd : Hid (Blk (w5.alloc (.cells #[] 5)).drew G 28 (m.map (Value.int .u8)).toArray) := (HB5.out.alloc _).drew
  have HG6 : Hid (G ∉ (Value.slice (some ⟨w5.heap.size, 0, Option.none⟩) 0 0).ownBlock.toList) := by have := HGl.out; intro hm; simp [Value.ownBlock] at hm; omega
  have HK0 : Hid (Sl .u8 (w5.alloc (.cells #[] 5)).drew (.slice kA kl.length kc) kl) := HRK.out.keep0 ((Keep.refl _ _).alloc _).drew
  have HWW : Hid (∀ x ∈ bl ++ cl, (Lit.int .u8 x).wf = true) := fun x hx => (List.mem_append.1 hx).elim (HBV.out.wf x) (HCV.out.wf x)
  have cvd := CVS.out _ HB5.out.drew
  have cve := CVS.out _ HBd.out
  go_region_law (first
      | (refine step_app rfl _ _ _ rfl w5.heap.size 5 (.int .u8 0) 1 1 Try.underlying22 u8infB rfl (by decide) (.slice (some ⟨w5.heap.size, 0, Option.none⟩) 0 0) 0 [] (by rfl) HO0.out bA bl.length bc (bl.map (Value.int .u8)) (by rfl) (by simp) HR0.out (ints_one _ _) (by simp only [maxLen]; have := HL.out.1; omega) (by have := HL.out.1; omega) HZ0.out ?_
         intro v6 w6 ho6 hk6 hat6
         simp only [Nat.zero_add, List.nil_append] at ho6
         have HO6 := Lib.hid ho6
         have cv6 := CVS.out _ (HBd.out.keep hk6 HG6.out)
         obtain ⟨A6, c6, rfl⟩ := own_slice ho6)
      | (refine step_app rfl _ _ _ rfl w5.heap.size 5 (.int .u8 0) 1 1 Try.underlying22 u8infB rfl (by decide) (.slice A6 bl.length c6) _ _ (by rfl) HO6.out cA cl.length cc (cl.map (Value.int .u8)) (by rfl) (by simp) (HC0.out.keep hk6 (fun hp g hg => by have := HRC.out.lt hp g hg; simp [Value.ownBlock]; omega)).rd (ints_one _ _) (by simp only [maxLen]; have := HL.out; omega) (by have := HL.out; omega) (Nat.le_trans HZ0.out hk6.size) ?_
         intro v7 w7 ho7 hk7 hat7
         have HO7 := Lib.hid ho7
         have cv7 := CVS.out _ ((HBd.out.keep hk6 HG6.out).keep hk7 (by intro hm; have h1 := (HO6.out.lt G (by simpa using hm)).1; have := HGl.out; omega)))
      | (go_simp
         go_at_call 12
         refine (rmark_any (.slice kA kl.length kc) v7 kl (bl ++ cl) w7
           ((HK0.out.keep hk6 (fun hp g hg => by have := HRK.out.lt hp g hg; intro hm; simp [Value.ownBlock] at hm; omega)).keep hk7 (fun hp g hg => by have h1 := HRK.out.lt hp g hg; intro hm; have h2 := (HO6.out.lt g (by simpa using hm)).1; omega))
           (Sl.of_own (n := bl.length + cl.length) (by have := HO7.out; simpa using this) HWW.out) (by have := HL.out; omega) (by have := HL.out; simp; omega)).mono ?_
         rintro e w8 ⟨v8, rfl, ho8, hk8⟩
         have cv8 := CVS.out _ (((HBd.out.keep hk6 HG6.out).keep hk7 (by intro hm; have h1 := (HO6.out.lt G (by simpa using hm)).1; have := HGl.out; omega)).keep hk8 (by simp))
         have hcv8 : (convert 22 9 v8).run Try.prog w8 = .ok (.string s) w8 := by
           rw [HS.out, HM.out]
           exact run_bytes_str (Sl.of_own ho8 (sum_wf _)) Try.underlying22 Try.underlying5 Try.underlying9))
  all_goals
    have HKE := Lib.hid (show Keep [] w w8 from ((((HK5.out.alloc (.cells #[] 5)).drew).trans' hk6 (by intro x hx; right; simp [Value.ownBlock] at hx; have := HK5.out.size; omega)).trans' hk7 (by intro x hx; right; have h1 := (HO6.out.lt x (by simpa using hx)).1; have := HK5.out.size; omega)).trans hk8)
    clear ho6 hk6 hat6 ho7 hk7 hat7 ho8 hk8 cvd cve cv6 cv7 cv8 hcv8
    go_simp
    go_wp2_with fail
    go_ret
    exact ⟨rfl, HKE.out⟩

end Go.Proofs.Ytadpfgflkbfjcaa
