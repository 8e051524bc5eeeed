/-
  The landed sha: Mark.
-/
import Derived.Test.YtiiifcfgfmoiaaaHashC
namespace Go.Proofs.Ytiiifcfgfmoiaaa
open Go.RowKit

theorem slinfo : (Try.prog.info? 24).map (fun i => (i.zero, i.size, i.bytes)) = some (some (.slice none 0 0), 1, 24) := by kernel_rfl
theorem Sl.keepG {w w' : World} {g : Nat} {v : Value} {l : List Int} (hT : TS w g) (h : Sl .u8 w v l) (k : Keep [g] w w') : Sl .u8 w' v l := h.keep k (fun hl b hb => by simpa using hT.apart h hl b hb)
theorem Pl.keepG {w w' : World} {g : Nat} {v : Value} {ls : List (List Int)} (hT : TS w g) (h : Pl w v ls) (k : Keep [g] w w') : Pl w' v ls := by
  have hA := fun hl => hT.apartP h hl
  obtain ⟨vs, A, c, hvl, rfl, h1, h2, hr, hj⟩ := h
  refine ⟨vs, A, c, hvl, rfl, h1, h2, fun hl => (hr.keep k (fun a ha => by simpa using hA (by omega) a.block (by rw [ha]; rfl))) hl, fun j hjl => Sl.keepG hT (hj j hjl) k⟩
theorem Sl.of_blk {w : World} {n m t : Nat} {l : List Int} (h : Blk w n t (l.map (Value.int .u8)).toArray) (hl : l.length = m) (hm : m ≤ 9223372036854775807) (hw : ∀ x ∈ l, (Lit.int .u8 x).wf = true) : Sl .u8 w (.slice (some ⟨n, 0, none⟩) m m) l :=
  ⟨some ⟨n, 0, none⟩, m, by rw [hl], by omega, hm, by simpa using Rd.of_blk h, hw⟩
theorem padX_wf (k : List Int) (c : Nat) (hc : c < 256) (h : ∀ x ∈ k, (Lit.int .u8 x).wf = true) : ∀ x ∈ padX k c, (Lit.int .u8 x).wf = true := by
  intro x hx
  simp only [padX, List.mem_map] at hx
  obtain ⟨i, _, rfl⟩ := hx
  have hk : (k.getD i 0).toNat < 256 := by
    rw [List.getD_eq_getElem?_getD]
    by_cases hi : i < k.length
    · have := wf_u8 (wf_getD h i hi)
      omega
    · rw [List.getElem?_eq_none (by omega)]; decide
  have := Nat.xor_lt_two_pow (n := 8) hk hc
  exact u8_wf (by omega) (by omega)
/-- One part ahead of others. -/
theorem Pl.cons {w : World} {base : Nat} {v u : Value} {l : List Int} {vs : List Value} {ls : List (List Int)} (ho : w.ownsRow base 24 1 v (1 + ls.length) ([u] ++ vs)) (hl : 1 + ls.length ≤ 9223372036854775807) (hu : Sl .u8 w u l)
    (hj : ∀ j, j < ls.length → Sl .u8 w (vs.getD j undef) (ls.getD j [])) (hvl : vs.length = ls.length) : Pl w v (l :: ls) := by
  obtain ⟨A, c, rfl⟩ := own_slice ho
  have hcap : 1 + ls.length ≤ c ∧ c ≤ 9223372036854775807 := by
    rcases ho.2 with ⟨hv, hn⟩ | ⟨g, cap, cur, hv, _, hh, hcap, hm, _⟩
    · omega
    · simp only [Value.slice.injEq] at hv
      obtain ⟨rfl, -, rfl⟩ := hv
      exact ⟨hcap, by simpa [maxLen] using hm⟩
  refine ⟨[u] ++ vs, A, c, by simp [hvl], by rw [List.length_cons, Nat.add_comm], by rw [List.length_cons]; omega, hcap.2, Rd.of_own ho, fun j hjl => ?_⟩
  cases j with
  | zero => exact hu
  | succ j => exact hj j (by simpa using hjl)

theorem Pl.two {w : World} {g t : Nat} {v1 v2 : Value} {l1 l2 : List Int} (hb : Blk w g t #[v1, v2]) (h1 : Sl .u8 w v1 l1) (h2 : Sl .u8 w v2 l2) : Pl w (.slice (some ⟨g, 0, none⟩) 2 2) [l1, l2] := by
  refine ⟨[v1, v2], _, 2, rfl, rfl, Nat.le_refl 2, by decide, by simpa using Rd.of_blk hb, fun j hj => ?_⟩
  rcases (show j = 0 ∨ j = 1 by simp at hj; omega) with rfl | rfl
  · exact h1
  · exact h2
/-- Many cells stored one by one over a block, as the walk's own steps leave it. -/
theorem run_store_all {P : Program} (w : World) (g : Nat) (t : TypeId) (old D : Array Value) (hB : Blk w g t old) (ho : old.size = D.size) (h1 : D.all (·.oneCell') = true) :
    ∃ w', (storeCells ⟨g, 0, none⟩ D.toList 0).run P w = .ok () w' ∧ Blk w' g t D ∧ Keep [g] w w' ∧ w'.heap.size = w.heap.size := by
  have := run_storeCells_from (P := P) g t D.toList 0 old w hB (by simp; omega) (fun v hv => (Array.all_eq_true_iff_forall_mem.1 h1) v (by simpa using hv))
  refine ⟨_, this, ?_, ⟨rfl, rfl, rfl, by simp, fun k _ hk => setRow_other w g k _ (by simpa using hk)⟩, by simp⟩
  have h2 : old.toList.drop D.size = [] := List.drop_of_length_le (by simp; omega)
  have := setRow_heap w g old (List.take 0 old.toList ++ D.toList ++ List.drop (0 + D.toList.length) old.toList).toArray t _ hB
  simpa [Blk, h2] using this

set_option maxRecDepth 100000 in
set_option maxHeartbeats 4000000 in
theorem markC : MarkC := by
  intro w g kv pv kl ls hT hk hP hkl hl1 hl2
  have HT := Lib.hid hT
  have HKV := Lib.hid hk
  have HPV := Lib.hid hP
  have HL1 := Lib.hid hl1
  have HL2 := Lib.hid hl2
  have HKL := Lib.hid hkl
  have HGW := Lib.hid hT.lt
  obtain ⟨Z, hZ, hZs, hZi⟩ := u8x32
  have HZS := Lib.hid hZs
  have HZI := Lib.hid hZi
  obtain ⟨kA, kc, rfl, hkc1, hkc2, -, -⟩ := hk
  obtain ⟨-, pA, pc, -, rfl, hpc1, hpc2, -, -⟩ := hP
  clear hT hZ hZs hZi hl1
  go_enter Try.func21, Try.ntmps21
  go_upto_if 15 with (refine wl_alloc_rowZ rfl _ rfl Z 32 HZI.out ?_; intro w1 hB1 hk1 hz1)
  have HB1 := Lib.hid hB1
  have HK1 := Lib.hid hk1
  have HZ1 := Lib.hid hz1
  clear hB1 hk1 hz1
  go_cut [1] (fun s1 wc => Sl .u8 wc s1 (Sha.key kl) ∧ TS wc g ∧ Keep [g] w1 wc)
  case first =>
    by_cases hlt : 64 < kl.length
    · have hkey : Sha.key kl = Sha.sum kl := by unfold Sha.key; rw [if_pos hlt]
      have HKEY := Lib.hid hkey
      have SM := Lib.hid (sum_any (w1.alloc (.cells #[.slice kA kl.length kc] 24)) g (.slice (some ⟨w1.heap.size, 0, none⟩) 1 1) [kl] ((HT.out.keep HK1.out (by simp)).keep ((Keep.refl [] w1).alloc _) (by simp))
        (Pl.one (Blk.new w1 24 #[.slice kA kl.length kc]) ((HKV.out.keep0 HK1.out).keep0 ((Keep.refl [] w1).alloc _))) (by simp; omega) (by simp))
      rw [show ([kl] : List (List Int)).flatten = kl by simp] at SM
      obtain ⟨D, hD⟩ : ∃ D, D = ((Sha.sum kl).map (Value.int .u8)).toArray := ⟨_, rfl⟩
      have hDs : D.size = 32 := by rw [hD]; simp [sum_length]
      have hD1 : D.all (·.oneCell') = true := by rw [hD]; exact arr_cell _
      unfold arr at SM
      rw [← hD] at SM
      have HD := Lib.hid hD
      have HDS := Lib.hid hDs
      have HD1 := Lib.hid hD1
      clear hkey hD hDs hD1
      go_upto_region 5 with (first
        | (go_at_call 16; with_reducible refine SM.out.mono ?_; rintro e w3 ⟨rfl, hT3, hk3⟩)
        | (refine wl_alloc_rowZ rfl _ rfl Z 32 HZI.out ?_; intro w4 hB4 hk4 hz4)
        | (refine wl_store_row rfl _ _ _ rfl w3.heap.size rfl D rfl _ _ hB4 (by rw [HDS.out]; kernel_rfl) (by rw [HDS.out]; exact HZS.out) HD1.out ?_; intro w5 hB5 hk5 hz5))
      have hk15 : Keep [g] w1 w5 := ((((Keep.refl [g] w1).alloc (.cells #[.slice kA kl.length kc] 24)).trans hk3).trans0 hk4).trans' hk5 (fun x hx => by right; have := hk3.size; simp at hx this; omega)
      have hT5 : TS w5 g := (hT3.keep hk4 (by simp)).keep hk5 (by have := hT3.lt; simp; omega)
      have HS5 := Lib.hid (Sl.of_blk (by rw [HD.out] at hB5; exact hB5) (sum_length kl) (by decide) (sum_wf kl))
      have HK15 := Lib.hid hk15
      have HT5 := Lib.hid hT5
      clear hk15 hT5 hB5 hk5 hz5 hB4 hk4 hz4 hT3 hk3
      go_wp2_with fail
      go_meet
      case rel => exact ⟨by rw [HKEY.out]; exact HS5.out, HT5.out, HK15.out⟩
    · have hkey : Sha.key kl = kl := by unfold Sha.key; rw [if_neg hlt]
      have HKEY := Lib.hid hkey
      clear hkey
      go_wp2_with fail
      go_meet
      case rel => exact ⟨by rw [HKEY.out]; exact HKV.out.keep0 HK1.out, HT.out.keep HK1.out (by simp), Keep.refl _ _⟩
  case rest =>
    obtain ⟨wk, rfl⟩ : ∃ wk, wk = wc := ⟨_, rfl⟩
    obtain ⟨hsk, htk, hkk⟩ := hcut
    obtain ⟨K, hKK⟩ : ∃ K, K = Sha.key kl := ⟨_, rfl⟩
    have hKl := key_length kl
    have hKw : ∀ x ∈ K, (Lit.int .u8 x).wf = true := by rw [hKK]; exact wf_key HKV.out.wf
    have hm54 : padX K 54 = Sha.keyX kl 54 := by rw [hKK]; rfl
    have hm92 : padX K 92 = Sha.keyX kl 92 := by rw [hKK]; rfl
    rw [← hKK] at hsk hKl
    have HSK := Lib.hid hsk
    have HTK := Lib.hid htk
    have HKK := Lib.hid (HK1.out.more0.trans hkk)
    have HB1k := Lib.hid (HB1.out.keep hkk (by have := HGW.out; simp; omega))
    have HZk := Lib.hid (show w.heap.size < wk.heap.size by have h1 := HZ1.out; have h2 := hkk.size; omega)
    have HPk := Lib.hid (Pl.keepG HT.out HPV.out (HK1.out.more0.trans hkk))
    obtain ⟨vs, A2, c2, hvl, e2, -, -, hrd, hj⟩ := HPk.out
    simp only [Value.slice.injEq, true_and] at e2
    obtain ⟨rfl, rfl⟩ := e2
    have HVL := Lib.hid hvl
    have HRD := Lib.hid hrd
    have HJ := Lib.hid hj
    have hone : ∀ u ∈ vs, u.oneCell' = true := fun u hu => by
      obtain ⟨i, hi, rfl⟩ := List.getElem_of_mem hu
      obtain ⟨a, b, e, _⟩ := hj i (by omega)
      rw [List.getD_eq_getElem?_getD, List.getElem?_eq_getElem hi] at e
      have e' : vs[i] = .slice a (ls.getD i []).length b := e
      rw [e']; rfl
    have HONE := Lib.hid hone
    clear hvl hrd hj hone
    have HM54 := Lib.hid hm54
    have HM92 := Lib.hid hm92
    have HKW := Lib.hid hKw
    have HKLL := Lib.hid hKl
    have P1 := Lib.hid (padded_any wk _ K 54 54 rfl (by decide) hsk hKl)
    clear hsk htk hkk hKK hm54 hm92 hKw hKl HB1 HK1 HZ1
    go_upto_region 7 with (first
      | (go_at_call 28; with_reducible refine P1.out.mono ?_; rintro e w4 ⟨rfl, hB4, hk4⟩)
      | (at_builtin
         refine wl_append _ rfl _ _ _ rfl wk.heap.size 24 (.slice Option.none 0 0) 1 24 Try.underlying51 slinfo rfl (by decide) (.slice (some ⟨w4.heap.size, 0, Option.none⟩) 1 1) 1 [.slice (some ⟨wk.heap.size, 0, Option.none⟩) 64 64] rfl (own_base (own_of_blk (Blk.new _ _ _) rfl (Nat.le_refl _) (by omega) rfl) ?c1) pA ls.length pc vs rfl ?c2 ?c3 ?c4 ?c5 ?c6 ?c7 ?_
         rotate_right
         intro v6 w6 ho6 hk6 hat6))
    case c1 => exact hk4.size
    case c2 => rw [HVL.out, Nat.mul_one]
    case c3 => exact (HRD.out.keep0 hk4).keep0 ((Keep.refl [] w4).alloc _)
    case c4 => exact HONE.out
    case c5 => simp only [maxLen]; omega
    case c6 => omega
    case c7 => have := hk4.size; simp; omega
    have hwlt : wk.heap.size < w4.heap.size := hB4.lt
    have hk46 : Keep [] wk w6 := (hk4.alloc (.cells #[.slice (some ⟨wk.heap.size, 0, none⟩) 64 64] 24)).trans' hk6 (fun x hx => by right; simp [Value.ownBlock] at hx; omega)
    have hB6 : Blk w6 wk.heap.size 5 ((padX K 54).map (Value.int .u8)).toArray := (hB4.alloc _).keep hk6 (by simp [Value.ownBlock]; omega)
    have hP6 : Pl w6 v6 (padX K 54 :: ls) := Pl.cons ho6 (by omega) (Sl.of_blk hB6 (padX_length K 54) (by decide) (padX_wf K 54 (by decide) HKW.out)) (fun j hjl => (HJ.out j hjl).keep0 hk46) HVL.out
    have S1 := Lib.hid (sum_any w6 g v6 _ (HTK.out.keep hk46 (by simp)) hP6 (by have := HL1.out; rw [List.flatten_cons, List.length_append, padX_length]; omega) (by rw [List.length_cons]; omega))
    rw [List.flatten_cons] at S1
    obtain ⟨L1, hL1⟩ : ∃ L1, L1 = Sha.sum (padX K 54 ++ ls.flatten) := ⟨_, rfl⟩
    have hL1l : L1.length = 32 := by rw [hL1]; exact sum_length _
    have hL1w : ∀ x ∈ L1, (Lit.int .u8 x).wf = true := by rw [hL1]; exact sum_wf _
    rw [← hL1] at S1
    obtain ⟨D, hD⟩ : ∃ D, D = (L1.map (Value.int .u8)).toArray := ⟨_, rfl⟩
    have hDs : D.size = 32 := by rw [hD]; simp [hL1l]
    have hD1 : D.all (·.oneCell') = true := by rw [hD]; exact arr_cell _
    unfold arr at S1
    rw [← hD] at S1
    have HK46 := Lib.hid hk46
    have HLL1 := Lib.hid hL1
    have HL1L := Lib.hid hL1l
    have HL1W := Lib.hid hL1w
    have HD := Lib.hid hD
    have HDS := Lib.hid hDs
    have HD1 := Lib.hid hD1
    clear hwlt hk46 hB6 hP6 hL1 hL1l hL1w hD hDs hD1 hB4 hk4 ho6 hk6 hat6 P1 HRD HJ HONE
    go_upto_region 8 with (first
      | (go_at_call 16; with_reducible refine S1.out.mono ?_; rintro e w7 ⟨rfl, hT7, hk7⟩)
      | (refine wl_alloc_rowZ rfl _ rfl Z 32 HZI.out ?_; intro w8 hB8 hk8 hz8)
      | (refine wl_store_row rfl _ _ _ rfl w7.heap.size rfl D rfl _ _ hB8 (by rw [HDS.out]; kernel_rfl) (by rw [HDS.out]; exact HZS.out) HD1.out ?_; intro w9 hB9 hk9 hz9))
    have hk69 : Keep [g] wk w9 := ((HK46.out.more0.trans hk7).trans0 hk8).trans' hk9 (fun x hx => by right; have h1 := hk7.size; have h2 := HK46.out.size; simp at hx; omega)
    have hT9 : TS w9 g := (hT7.keep hk8 (by simp)).keep hk9 (by have := hT7.lt; simp; omega)
    obtain ⟨n9, hn9⟩ : ∃ n9, n9 = w7.heap.size := ⟨_, rfl⟩
    rw [← hn9] at hB9 ⊢
    have HB9 := Lib.hid (by rw [HD.out] at hB9; exact hB9 : Blk w9 n9 22 (L1.map (Value.int .u8)).toArray)
    have HK69 := Lib.hid hk69
    have HT9 := Lib.hid hT9
    clear hk69 hT9 hB9 hk9 hz9 hB8 hk8 hz8 hT7 hk7 hn9 S1 HK46 HPk
    have hsl9 := Sl.keepG HTK.out HSK.out HK69.out
    have P2 : Hid (Calls Try.prog 28 #[u1, .int .u8 92] w9.drew fun e w' => e = .returned (.slice (some ⟨w9.heap.size, 0, none⟩) 64 64) ∧ Blk w' w9.heap.size 5 ((padX K 92).map (Value.int .u8)).toArray ∧ Keep [] w9 w') := by
      refine Lib.hid ((padded_any w9.drew u1 K 92 92 rfl (by decide) (hsl9.keep0 ((Keep.refl [] w9).drew)) HKLL.out).mono ?_)
      rintro e w' ⟨rfl, h1, h2⟩
      exact ⟨rfl, h1, ((Keep.refl [] w9).drew).trans h2⟩
    obtain ⟨D2, hD2⟩ : ∃ D2, D2 = ((Sha.sum (padX K 92 ++ L1)).map (Value.int .u8)).toArray := ⟨_, rfl⟩
    have hD2s : D2.size = 32 := by rw [hD2]; simp [sum_length]
    have hD21 : D2.all (·.oneCell') = true := by rw [hD2]; exact arr_cell _
    have hmark : Sha.mark kl ls.flatten = Sha.sum (padX K 92 ++ L1) := by rw [HLL1.out, HM92.out, HM54.out]; rfl
    have HMARK := Lib.hid hmark
    have HD2 := Lib.hid hD2
    have S2 : ∀ wa, Blk wa w9.heap.size 5 ((padX K 92).map (Value.int .u8)).toArray → Keep [] w9 wa →
        Hid (Calls Try.prog 16 #[.pointer (some ⟨g, 0, none⟩), .slice (some ⟨wa.heap.size, 0, none⟩) 2 2] (wa.alloc (.cells #[.slice (some ⟨w9.heap.size, 0, none⟩) 64 64, .slice (some ⟨n9, 0, none⟩) 32 32] 24)) fun e w' =>
          e = .returned (.agg D2) ∧ ∃ W6, (storeCells ⟨w.heap.size, 0, none⟩ D2.toList 0).run Try.prog w' = .ok () W6 ∧ TS W6 g ∧ Blk W6 w.heap.size 22 D2 ∧ Keep [g] w W6) := by
      intro wa hBa hka
      have hkb : Keep [] w9 (wa.alloc (.cells #[.slice (some ⟨w9.heap.size, 0, none⟩) 64 64, .slice (some ⟨n9, 0, none⟩) 32 32] 24)) := hka.alloc _
      refine Lib.hid ((sum_any _ g _ [padX K 92, L1] (HT9.out.keep hkb (by simp)) (Pl.two (Blk.new wa _ _) (Sl.of_blk (hBa.alloc _) (padX_length K 92) (by decide) (padX_wf K 92 (by decide) HKW.out)) (Sl.of_blk (HB9.out.keep hkb (by simp)) HL1L.out (by decide) HL1W.out))
        (by simp [padX_length, HL1L.out]) (by simp)).mono ?_)
      rintro e w' ⟨rfl, hT', hk'⟩
      have hkall : Keep [g] w w' := ((HKK.out.trans HK69.out).trans0 hkb).trans hk'
      have hB6 : Blk w' w.heap.size 22 Z := ((HB1k.out.keep HK69.out (by have := HGW.out; simp; omega)).keep hkb (by simp)).keep hk' (by have := HGW.out; simp; omega)
      obtain ⟨W6, hst, hb6, hk6, _⟩ := run_store_all (P := Try.prog) w' w.heap.size 22 Z D2 hB6 (by rw [hD2s]; exact HZS.out) hD21
      exact ⟨by rw [hD2]; simp [arr], W6, hst, hT'.keep hk6 (by have := HGW.out; simp; omega), hb6, hkall.trans' hk6 (fun x hx => by right; simp at hx; omega)⟩
    clear hsl9 hD2 hD21 hmark
    have HD2S := Lib.hid hD2s
    go_region_with (first
      | (go_at_call 28; with_reducible refine P2.out.mono ?_; rintro e wa ⟨rfl, hBa, hka⟩)
      | (go_at_call 16; with_reducible refine (S2 wa hBa hka).out.mono ?_; rintro e wb ⟨rfl, W6, hst, hT6, hB6, hk6⟩))
    go_wp2_with fail
    (try simp only [Exit.inBlock, Exit.then])
    refine bodyPost_ret (v := .agg D2) ?_ rfl ?_
    · refine results_cell_row Try.results21 _ W6 w.heap.size 22 D2 (0, 0) _ ?_ hB6 Try.underlying22 rfl ?_
      · rfl
      · rw [HD2S.out]; kernel_rfl
    · exact ⟨by rw [HMARK.out, HD2.out]; simp [arr], hT6, hk6⟩
end Go.Proofs.Ytiiifcfgfmoiaaa
