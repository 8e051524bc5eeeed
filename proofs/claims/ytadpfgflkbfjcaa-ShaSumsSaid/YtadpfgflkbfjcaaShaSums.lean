/-
  The law ShaSums, over what New and Sum keep.
-/
import Derived.Test.YtadpfgflkbfjcaaShaMarks
namespace Go.Proofs.Ytadpfgflkbfjcaa
open Go.RowKit

theorem getD_left {α : Type} (a b : List α) {i : Nat} (d : α) (h : i < a.length) : (a ++ b).getD i d = a.getD i d := by
  rw [List.getD_eq_getElem?_getD, List.getElem?_append_left h, List.getD_eq_getElem?_getD]
theorem getD_last {α : Type} (a : List α) (x d : α) {i : Nat} (h : a.length = i) : (a ++ [x]).getD i d = x := by
  rw [List.getD_eq_getElem?_getD, List.getElem?_append_right (by omega), h]; simp
theorem slinf : (Try.prog.info? 22).map (fun i => (i.zero, i.size, i.bytes)) = some (some (.slice Option.none 0 0), 1, 24) := by kernel_rfl

set_option maxRecDepth 100000 in
set_option maxHeartbeats 8000000 in
theorem shaSums_any (hN : NewC) (hS : SumC) (bv cv : Value) (bl cl : List Int) (n : Int) (w : World) (hb : Sl .u8 w bv bl) (hc : Sl .u8 w cv cl) (hn : (Lit.int .u16 n).wf = true) :
    Calls Try.prog 3 #[bv, cv, .int .u16 n] w fun e w' => e = .returned (.bool true) ∧ Keep [] w w' := by
  have A := Lib.hid (awake3_any hN hS w)
  have N := fun w => Lib.hid (hN w)
  have HBV := Lib.hid hb
  have HCV := Lib.hid hc
  have hn' : 0 ≤ n ∧ n ≤ 65535 := by simpa [Lit.wf, IntKind.min, IntKind.max, IntKind.signed, IntKind.bits] using hn
  obtain ⟨n0, n1⟩ := hn'
  clear hn
  obtain ⟨bA, bc, rfl, hb1, hb2, -, -⟩ := hb
  obtain ⟨cA, cc, rfl, hc1, hc2, -, -⟩ := hc
  by_cases hbig : 300 < bl.length ∨ 20 < cl.length
  · have hcase : 300 < bl.length ∨ (bl.length ≤ 300 ∧ 20 < cl.length) := by omega
    clear hbig
    rcases hcase with h | ⟨h, h'⟩ <;>
    · go_enter Try.func3, Try.ntmps3
      go_upto_region 5 with (first
        | (go_at_call 7; with_reducible refine A.out.mono ?_; rintro e w1 ⟨rfl, hk1⟩; have HK1 := Lib.hid hk1; clear hk1))
      go_ret
      exact ⟨rfl, HK1.out⟩
  obtain ⟨hbl, hcl⟩ : bl.length ≤ 300 ∧ cl.length ≤ 20 := by omega
  clear hbig
  go_enter Try.func3, Try.ntmps3
  go_upto_region 7 with (first
    | (go_at_call 7; with_reducible refine A.out.mono ?_; rintro e w1 ⟨rfl, hk1⟩; have HK1 := Lib.hid hk1; clear hk1)
    | (go_at_call 8; with_reducible refine (N w1).out.mono ?_; rintro e w2 ⟨g, rfl, hg, ht, hk⟩; have HG := Lib.hid hg; have HT := Lib.hid ht; have HK2 := Lib.hid (HK1.out.trans hk); clear hg ht hk)
    | (go_at_call 9; with_reducible refine (rsum_any _ bl w2 (HBV.out.keep0 HK2.out) (by omega)).mono ?_; rintro e w3 ⟨v3, rfl, ho3, hk3⟩; have HO3 := Lib.hid ho3; have HK3 := Lib.hid (HK2.out.trans hk3); have HT3 := Lib.hid (HT.out.keep hk3 (by simp)); clear ho3 hk3))
  obtain ⟨A3, c3, rfl⟩ := own_slice HO3.out
  obtain ⟨w4, h4⟩ : ∃ w4, w4 = w3.alloc (.cells #[.slice bA bl.length bc] 22) := ⟨_, rfl⟩
  have hb4 : Blk w4 w3.heap.size 22 #[.slice bA bl.length bc] := by rw [h4]; exact Blk.new _ _ _
  have k4 : Keep [] w3 w4 := by rw [h4]; exact (Keep.refl _ _).alloc _
  have hc := hS w4 g _ [bl] (HT3.out.keep k4 (by simp)) (Pl.one hb4 ((HBV.out.keep0 HK3.out).keep0 k4)) (by simp; omega) (by simp)
  rw [show ([bl] : List (List Int)).flatten = bl by simp] at hc
  obtain ⟨m, hm⟩ : ∃ m, m = Sha.sum bl := ⟨_, rfl⟩
  rw [← hm] at hc
  have hml : m.length = 32 := by rw [hm]; exact sum_length _
  have hmw : ∀ x ∈ m, (Lit.int .u8 x).wf = true := by rw [hm]; exact sum_wf _
  obtain ⟨D, hD⟩ : ∃ D, D = (m.map (Value.int .u8)).toArray := ⟨_, rfl⟩
  have hDs : D.size = 32 := by rw [hD]; simp [hml]
  have hD1 : D.all (·.oneCell') = true := by rw [hD]; exact arr_cell _
  unfold arr at hc
  rw [← hD] at hc
  have HC := Lib.hid hc
  have HGw := Lib.hid (show w.heap.size ≤ g by have h1 := HG.out; have h2 := HK1.out.size; omega)
  have HGT := Lib.hid (HT.out.lt)
  have HK4 := Lib.hid (HK3.out.trans k4)
  have HO4 := Lib.hid (own_keep0 HO3.out k4)
  have H4 := Lib.hid h4
  have HM := Lib.hid hm
  have HD := Lib.hid hD
  have HML := Lib.hid hml
  have HMW := Lib.hid hmw
  clear hc k4 h4 hb4 hm hD hml hmw HO3 HT3 HT A N
  rw [show (Sha.sum bl) = m from HM.out.symm] at HO4
  go_upto_region 8 with (first
    | (go_at_call 10; rw [← H4.out]; with_reducible refine HC.out.mono ?_; rintro e w5 ⟨rfl, ht5, hk5⟩; have HT5 := Lib.hid ht5; have HK45 := Lib.hid hk5; have HK5 := Lib.hid (HK4.out.trans' hk5 (by intro x hx; right; simp at hx; have h1 := HGw.out; omega)); clear ht5 hk5)
    | (refine wl_store_row rfl _ _ _ rfl w5.heap.size rfl D rfl 28 _ (Blk.new w5 _ _) (by rw [hDs]; kernel_rfl) (by rw [hDs]; rfl) hD1 ?_; intro w6 hB6 hk6 hz6))
  have HK6 := Lib.hid ((HK5.out.trans ((Keep.refl [] w5).alloc _)).trans' hk6 (by intro x hx; right; simp at hx; have := HK5.out.size; omega))
  have hk56 : Keep [] w5 w6 := ((Keep.refl [] w5).alloc (.cells _ 28)).trans' hk6 (by intro x hx; right; simp at hx; omega)
  have HT6 := Lib.hid (HT5.out.keep hk56 (by simp))
  have HO6 := Lib.hid ((own_keep HO4.out HK45.out (by intro x hx hm; simp at hm; have h1 := (HO4.out.lt x hx).1; have h2 := HGw.out; have h3 := HGT.out; omega)))
  have HB6 := Lib.hid hB6
  have HO66 := Lib.hid (own_keep0 HO6.out ((Keep.refl [] w5).alloc (.cells ((List.replicate 32 (Value.int .u8 0)).toArray) 28)))
  obtain ⟨G, hG⟩ : ∃ G, G = w5.heap.size := ⟨_, rfl⟩
  have hw6 : w6.ownsRow w2.heap.size 5 1 (.slice A3 32 c3) 32 (m.map (Value.int .u8)) := own_keep0 HO6.out hk56
  rw [← hG] at HB6 ⊢
  rw [HD.out] at HB6
  obtain ⟨s, hs⟩ : ∃ s, s = bstr m := ⟨_, rfl⟩
  have cvm : ∀ n, (convert 22 9 (.slice (some ⟨G, 0, Option.none⟩) 32 32)).run Try.prog (w6.drewN n) = .ok (.string s) (w6.drewN n) := fun n => by
    rw [hs]; exact conv_row m (HB6.out.drewN n) HMW.out HML.out
  have cvv : ∀ n, (convert 22 9 (.slice A3 32 c3)).run Try.prog (w6.drewN n) = .ok (.string s) (w6.drewN n) := fun n => by
    rw [hs]
    exact run_bytes_str ((Sl.of_own hw6 HMW.out).keep0 ((Keep.refl _ _).drewN n)) Try.underlying22 Try.underlying5 Try.underlying9
  have HW6 := Lib.hid hw6
  have HSS := Lib.hid hs
  clear hw6 hs hk56 hk6 hz6 hB6 hG HO6 HO66 HT5 HK45 HC
  go_simp
  go_quiet (fail)
  have HK8 := Lib.hid (HK6.out.drewN nq)
  have HT8 := Lib.hid (HT6.out.keep ((Keep.refl [] w6).drewN nq) (by simp))
  have HW8 := Lib.hid (own_keep0 HW6.out ((Keep.refl [] w6).drewN nq))
  have HGl := Lib.hid HB6.out.lt
  clear cvm cvv HK6 HT6 HW6 HB6
  have HGl8 : Hid (G < (w6.drewN nq).heap.size) := HGl.out
  generalize w6.drewN nq = W at *
  clear HGl nq
  go_upto_block 0 with fail
  go_cut [10, 11] (fun s10 s11 wc => ∃ (j : Nat) (ls : List (List Int)) (vs : List Value) (r : List Int), j ≤ 20 ∧ vs.length = j ∧ ls.length = j ∧ wc.ownsRow W.heap.size 22 1 s10 j vs ∧ (∀ i, i < j → Sl .u8 w (vs.getD i undef) (ls.getD i [])) ∧ Sl .u8 w s11 r ∧ ls.flatten ++ r = bl ∧ Keep [] W wc)
  case first =>
    go_wp2_with fail
    go_loopw [10, 11, 43] (fun s10 s11 s43 wr => ∃ (j : Nat) (ls : List (List Int)) (vs : List Value) (r : List Int), j ≤ cl.length ∧ s43 = .int .i64 j ∧ vs.length = j ∧ ls.length = j ∧ wr.ownsRow W.heap.size 22 1 s10 j vs ∧ (∀ i, i < j → Sl .u8 w (vs.getD i undef) (ls.getD i [])) ∧ Sl .u8 w s11 r ∧ ls.flatten ++ r = bl ∧ Keep [] W wr) (fun _ _ s43 _ => cl.length - (intOf s43).toNat)
    case atStart => exact ⟨0, [], [], bl, by omega, rfl, rfl, rfl, World.ownsRow_nil _ _ _ _, fun i hi => absurd hi (by omega), HBV.out, by simp, Keep.refl _ _⟩
    case round =>
      obtain ⟨j, ls, vs, r, hj, rfl, hvs, hls, hO, hSl, hr, hfl, hkr⟩ := hrel
      have HO := Lib.hid hO
      have HSL := Lib.hid hSl
      have HR := Lib.hid hr
      have HFL := Lib.hid hfl
      have HKR := Lib.hid hkr
      have HVS := Lib.hid hvs
      have HLS := Lib.hid hls
      have hrl : r.length ≤ 300 := by have := congrArg List.length hfl; simp at this; omega
      obtain ⟨rA, rc, rfl, hrc1, hrc2, -, -⟩ := hr
      obtain ⟨pA, pc, rfl⟩ := own_slice hO
      clear hO hSl hfl hkr hvs hls
      by_cases hlt : j < cl.length
      · obtain ⟨cb, co, cc', e0, _, _, hcell⟩ := ((HCV.out.keep0 HK8.out).keep0 HKR.out).cells (by omega)
        simp only [Value.slice.injEq] at e0
        obtain ⟨rfl, -, rfl⟩ := e0
        have hcx := hcell j hlt
        have hyy := wf_u8 (wf_getD HCV.out.wf j hlt)
        generalize cl[j]?.getD 0 = x at *
        obtain ⟨x0, x1⟩ := hyy
        obtain ⟨k, hk⟩ : ∃ k : Nat, x % ((r.length : Int) + 1) = k := ⟨(x % ((r.length : Int) + 1)).toNat, by have := Int.emod_nonneg x (show (r.length : Int) + 1 ≠ 0 by omega); omega⟩
        have hkl : k ≤ r.length := by have := Int.emod_lt_of_pos x (show 0 < (r.length : Int) + 1 by omega); omega
        clear hcell
        have HL1 := Lib.hid (show j + 1 ≤ 21 by omega)
        go_upto_region 16 with fail
        have bk : (0 : Int) ≤ k ∧ (k : Int) ≤ rc := ⟨by omega, by omega⟩
        have bk2 : (k : Int) ≤ r.length := by omega
        go_region_law (first
          | (refine step_app rfl _ _ _ rfl W.heap.size 22 (.slice Option.none 0 0) 1 24 Try.underlying30 slinf rfl (by decide) (.slice pA j pc) _ _ (by simp [Act.eval, Act.put]) (HO.out.alloc _) (some ⟨wr.heap.size, 0, Option.none⟩) 1 1 [.slice rA k rc] (by simp [Act.eval, Act.put]) rfl (Rd.one _ _ _) (by simp [Value.oneCell']) (by simp only [maxLen]; have := HL1.out; omega) (by have := HL1.out; omega) (by have := HKR.out.size; simp; omega) ?_
             intro v9 w9 ho9 hk9 hat9))
        have HO9 := Lib.hid ho9
        have HK9 := Lib.hid (show Keep [] W w9 from ((HKR.out.alloc (.cells #[.slice rA k rc] 22)).drew).trans' hk9 (by intro y hy; right; exact (HO.out.lt y (by simpa using hy)).1))
        clear ho9 hk9 hat9
        go_simp
        go_wp2_with fail
        go_roundw
        case rel =>
          refine ⟨j + 1, ls ++ [r.take k], vs ++ [.slice rA k rc], r.drop k, by omega, by go_num, by simp [HVS.out], by simp [HLS.out], HO9.out, ?_, ?_, ?_, HK9.out⟩
          · intro i hi
            by_cases hij : i < j
            · have := HSL.out i hij
              rw [getD_left _ _ _ (by rw [HVS.out]; exact hij), getD_left _ _ _ (by rw [HLS.out]; exact hij)]
              exact this
            · obtain rfl : i = j := by omega
              rw [getD_last _ _ _ HVS.out, getD_last _ _ _ HLS.out]
              have := HR.out.take hkl
              exact this
          · exact HR.out.drop hkl (fun h => by rw [if_neg (by omega)])
          · rw [List.flatten_append]
            simpa using HFL.out
        case measure => simp [intOf]; omega
      · obtain rfl : j = cl.length := by omega
        go_wp2_with fail
        go_meet
        case rel => exact ⟨cl.length, ls, vs, r, hcl, HVS.out, HLS.out, HO.out, HSL.out, HR.out, HFL.out, HKR.out⟩
  case rest =>
    obtain ⟨j, ls, vs, r, hj, hvs, hls, hO, hSl, hr, hfl, hkc⟩ := hcut
    have HSL := Lib.hid hSl
    have HR := Lib.hid hr
    have HFL := Lib.hid hfl
    have HKC := Lib.hid hkc
    have HVS := Lib.hid hvs
    have HLS := Lib.hid hls
    have HO := Lib.hid hO
    obtain ⟨rA, rc, rfl, hrc1, hrc2, -, -⟩ := hr
    obtain ⟨pA, pc, rfl⟩ := own_slice hO
    have HL1 := Lib.hid (show j + 1 ≤ 21 by omega)
    have HBL := Lib.hid hbl
    clear hO hSl hfl hkc hvs hls
    have NEW : Hid (∀ v9 w9, w9.ownsRow W.heap.size 22 1 v9 (j + 1) (vs ++ [.slice rA r.length rc]) → Keep [] W w9 →
        Calls Try.prog 10 #[.pointer (some ⟨g, 0, Option.none⟩), v9] w9 fun e w' => e = .returned (.agg D) ∧ TS w' g ∧ Keep [g] w9 w') := by
      intro v9 w9 ho hk
      obtain ⟨A9, c9, rfl⟩ := own_slice ho
      have hkw := HK8.out.trans hk
      have hp : Pl w9 (.slice A9 (j + 1) c9) (ls ++ [r]) := by
        obtain ⟨g9, cap9, rest9, e9, _, hn9, hm9, _⟩ := own_cells ho (by omega)
        simp only [Value.slice.injEq] at e9
        obtain ⟨rfl, -, rfl⟩ := e9
        refine ⟨vs ++ [.slice rA r.length rc], _, _, by simp [HVS.out, HLS.out], by simp [HLS.out], by simp [HLS.out]; exact hn9, hm9, Rd.of_own ho, fun i hi => ?_⟩
        have hi' : i < j + 1 := by simpa [HLS.out] using hi
        by_cases hij : i < j
        · rw [getD_left _ _ _ (by rw [HVS.out]; exact hij), getD_left _ _ _ (by rw [HLS.out]; exact hij)]
          exact (HSL.out i hij).keep0 hkw
        · obtain rfl : i = j := by omega
          rw [getD_last _ _ _ HVS.out, getD_last _ _ _ HLS.out]
          exact HR.out.keep0 hkw
      have hfl : (ls ++ [r]).flatten = bl := by rw [List.flatten_append]; simpa using HFL.out
      have := hS w9 g _ (ls ++ [r]) (HT8.out.keep hk (by simp)) hp (by rw [hfl]; have := HBL.out; omega) (by simp [HLS.out]; have := HL1.out; omega)
      rw [hfl, ← HM.out] at this
      unfold arr at this
      rw [← HD.out] at this
      exact this
    go_upto_region 19 with (first
      | (at_builtin
         refine wl_append _ rfl _ _ _ rfl W.heap.size 22 (.slice Option.none 0 0) 1 24 Try.underlying30 slinf rfl (by decide) (.slice pA j pc) _ _ rfl (HO.out.alloc _) (some ⟨wc.heap.size, 0, Option.none⟩) 1 1 [.slice rA r.length rc] rfl rfl (Rd.one _ _ _) (by simp [Value.oneCell']) (by simp only [maxLen]; have := HL1.out; omega) (by have := HL1.out; omega) (by have := HKC.out.size; simp; omega) ?_
         intro v9 w9 ho9 hk9 hat9
         have HO9 := Lib.hid ho9
         have HK9 := Lib.hid (show Keep [] W w9 from (HKC.out.alloc (.cells #[.slice rA r.length rc] 22)).trans' hk9 (by intro y hy; right; exact (HO.out.lt y (by simpa using hy)).1))
         clear ho9 hk9 hat9)
      | (go_at_call 10
         with_reducible refine (NEW.out v9 w9 HO9.out HK9.out).mono ?_
         rintro e wa ⟨rfl, hta, hka⟩
         have HTa := Lib.hid hta
         have HKa := Lib.hid hka
         clear hta hka)
      | (refine wl_store_row rfl _ _ _ rfl wa.heap.size rfl D rfl 28 _ (Blk.new wa _ _) (by rw [hDs]; kernel_rfl) (by rw [hDs]; rfl) hD1 ?_; intro wb hBb hkb hzb))
    have hka' : Keep [] w wa := (HK8.out.trans HK9.out).trans' HKa.out (by intro y hy; right; simp at hy; have h1 := HGw.out; omega)
    have hkb' : Keep [] wa wb := ((Keep.refl [] wa).alloc (.cells _ 28)).trans' hkb (by intro y hy; right; simp at hy; omega)
    have HKB := Lib.hid (hka'.trans hkb')
    have HTB := Lib.hid (HTa.out.keep hkb' (by simp))
    have hwb : wb.ownsRow w2.heap.size 5 1 (.slice A3 32 c3) 32 (m.map (Value.int .u8)) := own_keep0 (own_keep (own_keep0 HW8.out HK9.out) HKa.out (by intro y hy hm; simp at hm; have h1 := (HW8.out.lt y hy).1; have h2 := HGT.out; omega)) hkb'
    obtain ⟨Gb, hGb⟩ : ∃ Gb, Gb = wa.heap.size := ⟨_, rfl⟩
    rw [← hGb] at hBb ⊢
    rw [HD.out] at hBb
    have cvm : ∀ n, (convert 22 9 (.slice (some ⟨Gb, 0, Option.none⟩) 32 32)).run Try.prog (wb.drewN n) = .ok (.string s) (wb.drewN n) := fun n => by
      rw [HSS.out]; exact conv_row m (hBb.drewN n) HMW.out HML.out
    have cvv : ∀ n, (convert 22 9 (.slice A3 32 c3)).run Try.prog (wb.drewN n) = .ok (.string s) (wb.drewN n) := fun n => by
      rw [HSS.out]
      exact run_bytes_str ((Sl.of_own hwb HMW.out).keep0 ((Keep.refl _ _).drewN n)) Try.underlying22 Try.underlying5 Try.underlying9
    clear hka' hkb' hkb hzb hBb hwb hGb HTa HKa HK9 HO9 NEW HO HSL HR HFL HKC HVS HLS
    go_simp
    go_quiet (fail)
    have HKN := Lib.hid (HKB.out.drewN nq)
    have HTN := Lib.hid (HTB.out.keep ((Keep.refl [] wb).drewN nq) (by simp))
    clear cvm cvv HKB HTB
    generalize wb.drewN nq = X at *
    clear nq
    obtain ⟨q, hq⟩ : ∃ q : Nat, n % 300 = q := ⟨(n % 300).toNat, by omega⟩
    have hq3 : q < 300 := by omega
    obtain ⟨C0, hC0⟩ : ∃ C0, C0 = (List.replicate q (Value.int .u8 0)).toArray := ⟨_, rfl⟩
    have hmk : (Instr.makeSlice 22 (.int .i64 (q : Int)) (.int .i64 (q : Int))).run Try.prog X = .ok (.slice (some ⟨X.heap.size, 0, Option.none⟩) q q) (X.alloc (.cells C0 5)) := by
      rw [hC0]
      exact run_make1 (P := Try.prog) X 22 5 (.int .u8 0) 1 Try.underlying22 u8infB rfl .i64 .i64 q q q q rfl rfl (Nat.le_refl _) (by omega) (by omega)
    have HC0 := Lib.hid hC0
    clear hC0
    go_upto_region 22 with fail
    obtain ⟨x1, hx1e⟩ : ∃ x1, x1 = X.alloc (.cells C0 5) := ⟨_, rfl⟩
    have hx1 : Blk x1 X.heap.size 5 (List.replicate q (Value.int .u8 0)).toArray := by rw [hx1e, HC0.out]; exact Blk.new _ _ _
    have hkx : Keep [] X x1 := by rw [hx1e]; exact (Keep.refl _ _).alloc _
    rw [← hx1e]
    clear hx1e hmk
    obtain ⟨Z, hZ⟩ : ∃ Z : List Int, Z = List.replicate q 0 := ⟨_, rfl⟩
    have hZl : Z.length = q := by rw [hZ]; simp
    have hsz : Sl .u8 x1 (.slice (some ⟨X.heap.size, 0, Option.none⟩) q q) Z := by
      refine ⟨_, q, by rw [hZl], by omega, by omega, ?_, ?_⟩
      · rw [hZ, List.map_replicate]
        simpa using Rd.of_blk hx1
      · intro y hy
        rw [hZ] at hy
        rw [(List.mem_replicate.1 hy).2]
        decide
    obtain ⟨GX, hGX⟩ : ∃ GX, GX = X.heap.size := ⟨_, rfl⟩
    rw [← hGX] at hsz ⊢
    obtain ⟨x2, h2⟩ : ∃ x2, x2 = x1.alloc (.cells #[.slice (some ⟨GX, 0, Option.none⟩) q q] 22) := ⟨_, rfl⟩
    have hb2 : Blk x2 x1.heap.size 22 #[.slice (some ⟨GX, 0, Option.none⟩) q q] := by rw [h2]; exact Blk.new _ _ _
    have k2 : Keep [] x1 x2 := by rw [h2]; exact (Keep.refl _ _).alloc _
    have hc := hS x2 g _ [Z] ((HTN.out.keep hkx (by simp)).keep k2 (by simp)) (Pl.one hb2 (hsz.keep0 k2)) (by simp; omega) (by simp)
    rw [show ([Z] : List (List Int)).flatten = Z by simp] at hc
    obtain ⟨m2, hm2⟩ : ∃ m2, m2 = Sha.sum Z := ⟨_, rfl⟩
    rw [← hm2] at hc
    have hml2 : m2.length = 32 := by rw [hm2]; exact sum_length _
    have hmw2 : ∀ x ∈ m2, (Lit.int .u8 x).wf = true := by rw [hm2]; exact sum_wf _
    obtain ⟨D2, hD2⟩ : ∃ D2, D2 = (m2.map (Value.int .u8)).toArray := ⟨_, rfl⟩
    have hDs2 : D2.size = 32 := by rw [hD2]; simp [hml2]
    have hD12 : D2.all (·.oneCell') = true := by rw [hD2]; exact arr_cell _
    unfold arr at hc
    rw [← hD2] at hc
    have HC2 := Lib.hid hc
    have H2 := Lib.hid h2
    have HK2x := Lib.hid ((HKN.out.trans hkx).trans k2)
    have HSZ := Lib.hid (hsz.keep0 k2)
    have HM2 := Lib.hid hm2
    have HD2 := Lib.hid hD2
    have HML2 := Lib.hid hml2
    have HMW2 := Lib.hid hmw2
    have HZL := Lib.hid hZl
    have HGXl := Lib.hid (show GX < x2.heap.size by have h1 := hx1.lt; have h2 := k2.size; omega)
    have HGXg := Lib.hid (show g ≠ GX by have := HTN.out.lt; omega)
    clear hc hx1 hkx hsz hb2 k2 h2 hm2 hD2 hml2 hmw2 hZ hZl hGX HTN HKN
    go_upto_region 23 with (first
      | (go_at_call 10; rw [← H2.out]; with_reducible refine HC2.out.mono ?_; rintro e y1 ⟨rfl, hty, hky⟩; have HKY := Lib.hid hky; clear hty hky)
      | (refine wl_store_row rfl _ _ _ rfl y1.heap.size rfl D2 rfl 28 _ (Blk.new y1 _ _) (by rw [hDs2]; kernel_rfl) (by rw [hDs2]; rfl) hD12 ?_; intro y2 hBy hk2y hzy))
    have hg2 : w.heap.size ≤ g := HGw.out
    have hky1 : Keep [] w y1 := HK2x.out.trans' HKY.out (by intro y hy; right; simp at hy; omega)
    have hky12 : Keep [] y1 y2 := ((Keep.refl [] y1).alloc (.cells _ 28)).trans' hk2y (by intro y hy; right; simp at hy; omega)
    have hzy2 : Sl .u8 y2 (.slice (some ⟨GX, 0, Option.none⟩) q q) Z := (HSZ.out.keep HKY.out (by intro hp y hy; simp [Value.ownBlock] at hy; have := HGXg.out; simp; omega)).keep0 hky12
    obtain ⟨Gy, hGy⟩ : ∃ Gy, Gy = y1.heap.size := ⟨_, rfl⟩
    rw [← hGy] at hBy ⊢
    rw [HD2.out] at hBy
    have HBy := Lib.hid hBy
    obtain ⟨s2, hs2⟩ : ∃ s2, s2 = bstr m2 := ⟨_, rfl⟩
    have HS2 := Lib.hid hs2
    have CV : Hid (∀ y, Keep [] y2.drew y → (convert 22 9 (.slice (some ⟨Gy, 0, Option.none⟩) 32 32)).run Try.prog y = .ok (.string s2) y) := by
      intro y hk
      rw [HS2.out]
      exact conv_row m2 (HBy.out.drew.keep hk (by simp)) HMW2.out HML2.out
    have cvd := CV.out _ (Keep.refl _ _)
    have RS := Lib.hid (rsum_any (.slice (some ⟨GX, 0, Option.none⟩) q q) Z y2.drew (hzy2.keep0 (Keep.refl _ _).drew) (by have := HZL.out; omega))
    rw [← HM2.out] at RS
    have HKF := Lib.hid ((hky1.trans hky12).drew)
    clear hky1 hky12 hzy2 hGy hBy hs2 hk2y hzy hg2 HC2
    go_simp
    go_region_with (go_at_call 9
                    with_reducible refine RS.out.mono ?_
                    rintro e y3 ⟨v10, rfl, ho10, hk10⟩
                    have cv3 := CV.out _ hk10
                    have cv4 : (convert 22 9 v10).run Try.prog y3 = .ok (.string s2) y3 := by
                      rw [HS2.out]
                      exact run_bytes_str (Sl.of_own ho10 HMW2.out) Try.underlying22 Try.underlying5 Try.underlying9)
    all_goals
      have HKG := Lib.hid (HKF.out.trans hk10)
      clear ho10 hk10 cv3 cv4 cvd
      go_simp
      go_wp2_with fail
      go_ret
      exact ⟨rfl, HKG.out⟩

end Go.Proofs.Ytadpfgflkbfjcaa
