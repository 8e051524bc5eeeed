/-
  The landed sha: Sum, whole.
-/
import Derived.Test.YtiiifcfgfmoiaaaHashA
namespace Go.Proofs.Ytiiifcfgfmoiaaa
open Go.RowKit

theorem tcs_int (d m : Int) (S R : List Nat) (i : Nat) (v : Value) (h : (tcs (.int .u32 d) (.int .i32 m) S R)[i]? = some v) : (∃ n, v = .int .u32 n) ∨ (∃ n, v = .int .i32 n) := by
  unfold tcs at h
  rw [List.getElem?_toArray] at h
  have hm := List.mem_of_getElem? h
  simp only [List.mem_cons, List.mem_append, cellsN, List.mem_map] at hm
  rcases hm with rfl | rfl | rfl | ⟨n, _, rfl⟩ | ⟨n, _, rfl⟩
  · exact .inl ⟨_, rfl⟩
  · exact .inr ⟨_, rfl⟩
  · exact .inl ⟨_, rfl⟩
  · exact .inl ⟨_, rfl⟩
  · exact .inl ⟨_, rfl⟩
/-- What is in the tables' block is a number of 32 bits. -/
theorem TS.int {w : World} {g : Nat} (h : TS w g) (i : Nat) (v : Value) (hv : w.cell? ⟨g, i, none⟩ = some v) : (∃ n, v = .int .u32 n) ∨ (∃ n, v = .int .i32 n) := by
  obtain ⟨cs, hB, hc⟩ := h
  rw [hB.cell] at hv
  rcases hc with rfl | rfl
  · exact tcs_int _ _ _ _ _ _ hv
  · exact tcs_int _ _ _ _ _ _ hv
/-- Bytes do not lie in the tables. -/
theorem TS.apart {w : World} {g : Nat} (h : TS w g) {v : Value} {l : List Int} (hs : Sl .u8 w v l) (hl : 0 < l.length) : ∀ b, v.ownBlock = some b → b ≠ g := by
  obtain ⟨b, o, c, rfl, _, _, hc⟩ := hs.cells hl
  rintro b' hb' rfl
  simp [Value.ownBlock] at hb'
  subst hb'
  rcases h.int _ _ (hc 0 hl) with ⟨n, e⟩ | ⟨n, e⟩ <;> simp at e
/-- Nor do slices. -/
theorem TS.apartP {w : World} {g : Nat} (h : TS w g) {v : Value} {ls : List (List Int)} (hs : Pl w v ls) (hl : 0 < ls.length) : ∀ b, v.ownBlock = some b → b ≠ g := by
  obtain ⟨vs, A, c, hvl, rfl, _, _, hr, hj⟩ := hs
  obtain ⟨b, o, rfl, hc⟩ := hr (by omega)
  rintro b' hb' rfl
  simp [Value.ownBlock] at hb'
  subst hb'
  have h0 := hc 0 (vs.getD 0 undef) (by rw [List.getD_eq_getElem?_getD, List.getElem?_eq_getElem (by omega)]; rfl)
  obtain ⟨A1, c1, e1, _⟩ := hj 0 hl
  rw [e1] at h0
  rcases h.int _ _ h0 with ⟨n, e⟩ | ⟨n, e⟩ <;> simp at e
noncomputable def hsum0 : Code := loopOf Try.f16 0

set_option maxRecDepth 100000 in
set_option maxHeartbeats 4000000 in
theorem sl0 (R : Act → World → Prop) (a : Act) (w : World) (H g : Nat) (v4 : Value) (ls : List (List Int)) (vs : List Value) (A : Option Addr) (c : Nat) (hl1 : Hid (ls.flatten.length ≤ 1000000000000)) (hl2 : ls.length ≤ 1000000000000) (hgH : Hid (g ≠ H)) (hK : Hid (KT w g))
    (hS : Hid (HS w H (.pointer (some ⟨g, 11, none⟩)) [])) (hvl : vs.length = ls.length) (_hc1 : ls.length ≤ c) (_hc2 : c ≤ 9223372036854775807) (hrd : Hid (Rd w A vs)) (hj : Hid (∀ j, j < ls.length → Sl .u8 w (vs.getD j undef) (ls.getD j [])))
    (hvb : Hid (∀ j, j < ls.length → 0 < (ls.getD j []).length → ∀ b, (vs.getD j undef).ownBlock = some b → b ≠ H)) (hA : Hid (0 < ls.length → ∀ a, A = some a → a.block ≠ H))
    (hF : Fr 35 [(4, v4), (5, .pointer (some ⟨H, 0, none⟩)), (25, .slice A ls.length c), (26, .int .i64 ls.length), (27, .int .i64 0)] a)
    (hQ : ∀ a' w', Fr 35 [(4, v4), (5, .pointer (some ⟨H, 0, none⟩))] a' → HS w' H (.pointer (some ⟨g, 11, none⟩)) ls.flatten → Keep [H] w w' → R a' w') :
    Code.wp Try.prog (.loop hsum0) (OutX 0 R) a w := by
  refine wp_loop_ghost_k (fun m a wr => ∃ j, m + j = ls.length ∧ Fr 35 [(4, v4), (5, .pointer (some ⟨H, 0, none⟩)), (25, .slice A ls.length c), (26, .int .i64 ls.length), (27, .int .i64 j)] a ∧ HS wr H (.pointer (some ⟨g, 11, none⟩)) (ls.take j).flatten ∧ Keep [H] w wr)
    ls.length ⟨0, rfl, hF, hS.out, Keep.refl _ _⟩ ?_
  clear hF hS
  intro m a wr ⟨j, hmj, hFr, hS, hk⟩ J K hJ hK1
  have HK := Lib.hid hk
  have HJ := Lib.hid hJ
  have HMJ := Lib.hid hmj
  have HSS := Lib.hid hS
  have HKT := Lib.hid (hK.out.keep hk (by simpa using hgH.out))
  obtain ⟨f, ⟨f4, f5, f25, f26, f27, -⟩, rfl⟩ := hFr.open35
  by_cases hlt : j < ls.length
  · obtain ⟨b, o, rfl, hcell⟩ := (hrd.out.keep hk (fun a ha => by simpa using hA.out (by omega) a ha)) (by omega)
    have hcj := hcell j (vs.getD j undef) (by rw [List.getD_eq_getElem?_getD, List.getElem?_eq_getElem (by omega)]; rfl)
    have hsl := (hj.out j hlt).keep hk (fun hl b hb => by simpa using hvb.out j hlt hl b hb)
    have hfl : (ls.take (j + 1)).flatten = (ls.take j).flatten ++ ls.getD j [] := by
      rw [List.take_add_one, List.flatten_append, List.getElem?_eq_getElem hlt, List.getD_eq_getElem?_getD, List.getElem?_eq_getElem hlt]
      simp
    have hle : ((ls.take j).flatten ++ ls.getD j []).length ≤ ls.flatten.length := by
      rw [← hfl]
      conv => rhs; rw [← List.take_append_drop (j + 1) ls, List.flatten_append, List.length_append]
      omega
    rw [List.length_append] at hle
    have AD := Lib.hid (add_any wr H g (vs.getD j undef) (ls.take j).flatten (ls.getD j []) (by have := hl1.out; omega) hgH.out HKT.out HSS.out hsl (hvb.out j hlt))
    rw [← hfl] at AD
    obtain ⟨A1, c1, e1, -⟩ := hsl
    rw [e1] at AD hcj
    generalize (ls.getD j []).length = L1 at *
    have hlen1 : 1 ≤ ls.length := by omega
    have bj : (0 : Int) ≤ j ∧ (j : Int) < ls.length := ⟨by omega, by omega⟩
    simp only [f4, f5, f25, f26, f27]
    clear f4 f5 f25 f26 f27 hFr hJ hk hS hcell hfl hle e1 hmj hQ
    conv => arg 2; whnf
    go_wp2_with (go_at_call 24; with_reducible refine AD.out.mono ?_; rintro e w4 ⟨rfl, hS4, hk4⟩; have HS4 := Lib.hid hS4; have HK4 := Lib.hid hk4; clear hS4 hk4)
    exact Handed.intro (m - 1) (by have := HMJ.out; omega) (HJ.out _ _ _ ⟨j + 1, by have := HMJ.out; omega, ⟨rfl, rfl, by repeat (first | exact trivial | refine ⟨rfl, ?_⟩)⟩, HS4.out, HK.out.trans HK4.out⟩)
  · obtain rfl : j = ls.length := by omega
    have HQ := Lib.hid hQ
    simp only [f4, f5, f25, f26, f27]
    clear f4 f5 f25 f26 f27 hFr hJ hk hS hmj hQ
    conv => arg 2; whnf
    go_wp2_with fail
    exact ⟨rfl, HQ.out _ _ ⟨rfl, rfl, by repeat (first | exact trivial | refine ⟨rfl, ?_⟩)⟩ (by rw [← List.take_length (l := ls)]; exact HSS.out) HK.out⟩

set_option maxRecDepth 100000 in
set_option maxHeartbeats 4000000 in
theorem sum_any (w : World) (g : Nat) (pv : Value) (ls : List (List Int)) (hT : TS w g) (hP : Pl w pv ls) (hl1 : ls.flatten.length ≤ 1000000000000) (hl2 : ls.length ≤ 1000000000000) :
    Calls Try.prog 16 #[.pointer (some ⟨g, 0, none⟩), pv] w fun e w' => e = .returned (arr (Sha.sum ls.flatten)) ∧ TS w' g ∧ Keep [g] w w' := by
  have DO := fun W h => Lib.hid (do_any W g h)
  have HP := Lib.hid hP
  have HT := Lib.hid hT
  have HL1 := Lib.hid hl1
  obtain ⟨Z, hZ, hZs, hZi⟩ := u8x32
  have HZS := Lib.hid hZs
  have HZI := Lib.hid hZi
  obtain ⟨vs, A, c, hvl, rfl, hc1, hc2, hrd, hj⟩ := hP
  have HRD := Lib.hid hrd
  have HJ := Lib.hid hj
  have HVL := Lib.hid hvl
  clear hT hZ hZs hZi hrd hj hvl
  go_enter Try.func16, Try.ntmps16
  go_upto_region 4 with (first
    | (refine wl_alloc_rowZ rfl _ rfl Z 32 HZI.out ?_; intro w1 hB1 hk1 hz1)
    | (go_at_call 22; with_reducible refine (DO w1 (HT.out.keep hk1 (by simp))).out.mono ?_; rintro e w2 ⟨rfl, hB2, hk2⟩))
  refine OutN.use (sum_reg4 (fun a' w' => Fr 35 [(0, .pointer (some ⟨g, 0, none⟩)), (1, .slice A ls.length c), (4, .pointer (some ⟨w.heap.size, 0, none⟩)), (5, .pointer (some ⟨w2.heap.size, 0, none⟩))] a' ∧ Blk w' w2.heap.size 73 (hcs Sha.start (.pointer (some ⟨g, 11, none⟩)) 0 (List.replicate 64 0)) ∧ Keep [] w2 w') _ w2 g _ _ _ _ hB2
    ⟨rfl, rfl, by repeat (first | exact trivial | refine ⟨rfl, ?_⟩)⟩ (Lib.hid fun a' w' h1 h2 h3 => ⟨h1, h2, h3⟩)) ?_
  rintro a' w3 ⟨hF3, hB3, hk3⟩
  have hgw : g < w.heap.size := HT.out.lt
  have hw1 : w.heap.size + 1 = w1.heap.size := hz1.symm
  have hw2 : w1.heap.size ≤ w2.heap.size := hk2.size
  obtain ⟨H, hH⟩ : ∃ H, H = w2.heap.size := ⟨_, rfl⟩
  rw [← hH] at hF3 hB3
  have hgH : g ≠ H := by omega
  have hk13 : Keep [g] w w3 := (hk1.more0.trans hk2).trans0 hk3
  have hbT := hB2.keep hk3 (by simp)
  have HBT := Lib.hid hbT
  have HKT := Lib.hid (show KT w3 g from ⟨hbT.lt, fun i hi => by
    rw [hbT.cell]
    exact tcs_getR _ _ Sha.H0 Sha.K i rfl (by rw [K_len]; exact hi)⟩)
  have HSS := Lib.hid (show HS w3 H (.pointer (some ⟨g, 11, none⟩)) [] from ⟨List.replicate 64 0, ⟨by simp, by simp [Lit.wf, IntKind.min, IntKind.max, IntKind.signed, IntKind.bits], rfl⟩, hB3⟩)
  have HRD3 := Lib.hid (show Rd w3 A vs from fun hl => (HRD.out.keep hk13 (fun a ha => by
    have := HT.out.apartP HP.out (by have := HVL.out; omega) a.block (by rw [ha]; rfl)
    simpa using this)) hl)
  have HJ3 := Lib.hid (show ∀ j, j < ls.length → Sl .u8 w3 (vs.getD j undef) (ls.getD j []) from fun j hjl => (HJ.out j hjl).keep hk13 (fun hl b hb => by simpa using HT.out.apart (HJ.out j hjl) hl b hb))
  have HVB := Lib.hid (show ∀ j, j < ls.length → 0 < (ls.getD j []).length → ∀ b, (vs.getD j undef).ownBlock = some b → b ≠ H from fun j hjl hl b hb => by
    have := (HJ.out j hjl).lt hl b hb
    omega)
  have HAH := Lib.hid (show 0 < ls.length → ∀ a, A = some a → a.block ≠ H from fun hl a ha => by
    obtain ⟨b, o, e, hc⟩ := HRD.out (by rw [HVL.out]; exact hl)
    rw [ha, Option.some.injEq] at e
    have hb := World.block_lt_of_cell? w _ (hc 0 (vs.getD 0 undef) (by rw [List.getD_eq_getElem?_getD, List.getElem?_eq_getElem (by rw [HVL.out]; exact hl)]; rfl))
    rw [e]
    show b ≠ H
    have hb' : b < w.heap.size := hb
    omega)
  have HB1 := Lib.hid (((hB1.keep hk2 (by simp; omega)).keep hk3 (by simp)))
  have HK13 := Lib.hid hk13
  have HGH := Lib.hid hgH
  have HHW := Lib.hid (show w.heap.size < H by omega)
  have HGW := Lib.hid hgw
  clear hB1 hk1 hz1 hB2 hk2 hB3 hk3 hgw hw1 hw2 hgH hk13 hbT DO HP hH HRD HJ
  obtain ⟨f, ⟨f0, f1, f4, f5, -⟩, rfl⟩ := hF3.open35
  simp only [f0, f1, f4, f5]
  clear f0 f1 f4 f5 hF3
  go_upto_block 0 with fail
  go_wp2_with fail
  refine OutX.use (sl0 (fun a' w' => Fr 35 [(4, .pointer (some ⟨w.heap.size, 0, none⟩)), (5, .pointer (some ⟨H, 0, none⟩))] a' ∧ HS w' H (.pointer (some ⟨g, 11, none⟩)) ls.flatten ∧ Keep [H] w3 w') _ w3 H g _ ls vs A c HL1 hl2 HGH HKT HSS HVL.out hc1 hc2 HRD3 HJ3 HVB HAH
    ⟨rfl, rfl, by repeat (first | exact trivial | refine ⟨rfl, ?_⟩)⟩ (fun a' w' h1 h2 h3 => ⟨h1, h2, h3⟩)) ?_
  rintro a' w4 ⟨hF4, hS4, hk4⟩
  have HK4 := Lib.hid hk4
  have EN := Lib.hid (end_any w4 H g ls.flatten (by omega) HGH.out (HKT.out.keep hk4 (by simpa using HGH.out)) hS4)
  have HSZ := Lib.hid (sum_length ls.flatten)
  obtain ⟨D, hD⟩ : ∃ D, D = ((Sha.sum ls.flatten).map (Value.int .u8)).toArray := ⟨_, rfl⟩
  have hDs : D.size = 32 := by rw [hD]; simp [HSZ.out]
  have hD1 : D.all (·.oneCell') = true := by rw [hD]; exact arr_cell _
  unfold arr at EN
  rw [← hD] at EN
  have HD := Lib.hid hD
  have HDS := Lib.hid hDs
  have HD1 := Lib.hid hD1
  obtain ⟨f', ⟨f4, f5, -⟩, rfl⟩ := hF4.open35
  simp only [f4, f5]
  clear f4 f5 hF4 hS4 hk4 hD hDs hD1 HSS HRD3 HJ3 HVB HAH
  go_upto_region 10 with fail
  have HB4 := Lib.hid (HB1.out.keep HK4.out (by have := HHW.out; simp; omega))
  go_wp2_with (first
    | (go_at_call 25; with_reducible refine EN.out.mono ?_; rintro e w5 ⟨rfl, hk5⟩; have HK5 := Lib.hid hk5; clear hk5)
    | (refine wl_store_row rfl _ _ _ rfl w.heap.size rfl D rfl _ _ (HB4.out.keep HK5.out (by have := HHW.out; simp; omega)) (by rw [HDS.out]; kernel_rfl) (by rw [HDS.out]; exact HZS.out) HD1.out ?_; intro w6 hB6 hk6 hz6))
  have hk45 : Keep [H] w3 w5 := HK4.out.trans HK5.out
  have hkall : Keep [g] w w6 := (HK13.out.trans' hk45 (fun x hx => by right; have := HHW.out; simp at hx; omega)).trans' hk6 (fun x hx => by right; simp at hx; omega)
  have hT6 : TS w6 g := ⟨_, (HBT.out.keep hk45 (by simpa using HGH.out)).keep hk6 (by have := HGW.out; simp; omega), .inr rfl⟩
  (try simp only [Exit.inBlock, Exit.then])
  refine bodyPost_ret (v := .agg D) ?_ rfl ?_
  · refine results_cell_row Try.results16 _ w6 w.heap.size 22 D (0, 0) _ ?_ hB6 Try.underlying22 rfl ?_
    · rfl
    · rw [HDS.out]; kernel_rfl
  · exact ⟨by rw [HD.out]; rfl, hT6, hkall⟩
theorem sumC : SumC := fun w g pv ls hT hP hl1 hl2 => sum_any w g pv ls hT hP (by omega) (by omega)
end Go.Proofs.Ytiiifcfgfmoiaaa
