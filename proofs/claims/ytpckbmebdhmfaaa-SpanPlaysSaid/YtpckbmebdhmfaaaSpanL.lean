/-
  SpanPlays, over what span's functions keep.
-/
import Derived.Test.YtpckbmebdhmfaaaSpanK
namespace Go.Proofs.Ytpckbmebdhmfaaa
open Go.RowKit

set_option maxRecDepth 100000 in
set_option maxHeartbeats 16000000 in
theorem spanPlays_any {SS : World → List Nat → Nat → Nat → List (Nat × Nat) → Prop} (hC : SpanC SS) (lim : Int) (v : Value) (la : List ActP) (lk : Value) (ll : List Int) (o : Nat × Nat) (w : World) (hlim : (Lit.int .i64 lim).wf = true) (hA : SA w v la) (hlk : Sl .u64 w lk ll) (ho : o.1 < 18446744073709551616 ∧ o.2 < 18446744073709551616) :
    Calls Try.prog 3 #[.int .i64 lim, v, lk, pv o] w fun e w' => e = .returned (.bool true) ∧ Keep [] w w' := by
  have HA := Lib.hid hA
  have HLK := Lib.hid hlk
  obtain ⟨A, c, rfl, hc1, hc2, -, -⟩ := hA
  obtain ⟨LA, lc, rfl, hl1, hl2, -, -⟩ := hlk
  obtain ⟨n, hn⟩ : ∃ n, n = la.length := ⟨_, rfl⟩
  obtain ⟨kl, hkl⟩ : ∃ kl, kl = ll.length := ⟨_, rfl⟩
  have HN := Lib.hid hn
  have HKL := Lib.hid hkl
  rw [← hn] at HA hc1 ⊢
  rw [← hkl] at HLK hl1 ⊢
  clear hn hkl
  obtain ⟨D, hD⟩ : ∃ D, D = (pc o).toArray := ⟨_, rfl⟩
  have HD := Lib.hid hD
  have HC := Lib.hid hC
  have AW := fun w => Lib.hid (awake7_any hC w)
  obtain ⟨m, hm⟩ : ∃ m, m = (max lim 1).toNat := ⟨_, rfl⟩
  have hmI : max lim 1 = ((m : Nat) : Int) := by omega
  have hm63 : ((m : Nat) : Int) ≤ 9223372036854775807 := by have := wf_i64 hlim; omega
  have NW := fun w => Lib.hid (show Calls Try.prog 8 #[.int .i64 lim] w fun e w' => ∃ s S, e = .returned (.pointer (some ⟨s, 0, none⟩)) ∧ SS w' S s m [] ∧ (∀ x ∈ S, w.heap.size ≤ x) ∧ Keep [] w w' by rw [hm]; exact hC.newS w lim hlim)
  rw [pv_agg, ← hD]
  clear hC hD hm
  go_enter Try.func3, Try.ntmps3
  go_upto_region 3 with (first
    | (refine wl_box rfl _ _ rfl D rfl ?_; intro wa hBa hka hza; have HBa := Lib.hid hBa; have HKa := Lib.hid hka; clear hBa hka hza)
    | (go_at_call 7; with_reducible refine (AW _).out.mono ?_; rintro e w1 ⟨rfl, hk1⟩; have HK1 := Lib.hid hk1; clear hk1))
  obtain ⟨G, hG⟩ : ∃ G, G = w.heap.size := ⟨_, rfl⟩
  have HG := Lib.hid (show Blk w1 G 26 (pc o).toArray by rw [hG, ← HD.out]; exact HBa.out.keep HK1.out (by simp))
  have HK01 := Lib.hid (HKa.out.trans HK1.out)
  have HA1 := Lib.hid (HA.out.keep0 HK01.out)
  have HL1 := Lib.hid (HLK.out.keep0 HK01.out)
  rw [← hG]
  clear hG HBa HKa HK1 AW HA HLK
  by_cases h20 : 20 < kl
  · have d20 : (20 : Int) < (kl : Int) := by omega
    go_wp2_with fail
    go_ret
    exact ⟨rfl, HK01.out⟩
  have d20 : ¬ (20 : Int) < (kl : Int) := by omega
  go_upto_block 0 with (go_at_call 8; with_reducible refine (NW _).out.mono ?_; rintro e w2 ⟨s, S, rfl, hss, hsb, hk2⟩; have HSS := Lib.hid hss; have HSB := Lib.hid hsb; have HK2 := Lib.hid hk2; clear hss hsb hk2)
  try simp only [hmI]
  clear NW d20
  go_wp2_with fail
  refine OutX.use (plays_acts HC.out (fun a' w' => ∃ S' l mv, Fr 288 [(2, .slice LA kl lc), (7, .pointer (some ⟨G, 0, none⟩)), (9, .pointer (some ⟨s, 0, none⟩)), (10, mv)] a' ∧ SS w' S' s m l ∧ S2 w' mv l ∧ l.length ≤ 80 ∧ Keep [] w1 w') _ w1 w2 S s n c m A la _ _ hm63 HN HA1 HK2 HSS HSB
    ⟨rfl, rfl, by repeat (first | exact trivial | refine ⟨rfl, ?_⟩)⟩ (fun a' w' S' l mv h1 h2 h3 h4 h5 h6 => ⟨S', l, mv, h1, h2, h3, h4, h6⟩)) ?_
  rintro a' w3 ⟨S3, l, mv, hF3, hss3, h2m, hlen3, hk3⟩
  have HSS3 := Lib.hid hss3
  have H2M := Lib.hid h2m
  have HLEN := Lib.hid hlen3
  have HK3 := Lib.hid hk3
  obtain ⟨hnrm, hp64, -⟩ := HC.out.okS hss3
  have HNRM := Lib.hid hnrm
  have HP64 := Lib.hid hp64
  obtain ⟨MA, MC, rfl, hmc1, hmc2⟩ := h2m.at0
  obtain ⟨k, hk⟩ : ∃ k, k = l.length := ⟨_, rfl⟩
  have HKK := Lib.hid hk
  rw [← hk] at hF3 H2M hmc1
  obtain ⟨fr, ⟨f2, f7, f9, f10, -⟩, rfl⟩ := hF3.open288
  simp only [f2, f7, f9, f10]
  clear f2 f7 f9 f10 hF3 hss3 h2m hlen3 hk3 hnrm hp64 HSS HSB HK2 HA1 hk
  go_upto_block 3 with fail
  go_wp2_with fail
  refine OutX.use (plays_sum (fun a' w' => Fr 288 [(2, .slice LA kl lc), (7, .pointer (some ⟨G, 0, none⟩)), (9, .pointer (some ⟨s, 0, none⟩)), (10, .slice MA k MC), (23, .int .u64 (Span.cnt l : Nat))] a' ∧ Keep [] w3 w') _ w3 k MC MA l _ _ _ HKK H2M HNRM
    ⟨rfl, rfl, by repeat (first | exact trivial | refine ⟨rfl, ?_⟩)⟩ (fun a' w' h1 h2 => ⟨h1, h2⟩)) ?_
  rintro a' w4 ⟨hF4, hk4⟩
  have HK4 := Lib.hid (HK3.out.trans hk4)
  have HSS4 := Lib.hid (HC.out.keepS HSS3.out hk4 (by simp))
  have H2M4 := Lib.hid (H2M.out.keep0 hk4)
  have hl6 : l.length ≤ 1000000 := by have := HLEN.out; omega
  obtain ⟨q, hq⟩ : ∃ q, q = Span.cnt l := ⟨_, rfl⟩
  have hcb := Span.bounded HP64.out HNRM.out
  have HQE := Lib.hid hq
  obtain ⟨y, hy⟩ : ∃ y, y = l.getLast?.getD (0, 0) := ⟨_, rfl⟩
  obtain ⟨sb, hsb⟩ : ∃ sb, sb = l.getLast?.isSome := ⟨_, rfl⟩
  obtain ⟨YA, hYA⟩ : ∃ YA, YA = (pc y).toArray := ⟨_, rfl⟩
  have HYA := Lib.hid hYA
  have TP := Lib.hid (show Calls Try.prog 20 #[.pointer (some ⟨s, 0, none⟩)] w4 fun e w' => e = .returned (.tuple #[.agg YA, .bool sb]) ∧ Keep [] w4 w' by
    have := HC.out.topS w4 S3 s m l HSS4.out hl6
    unfold found at this
    rwa [pv_agg, ← hy, ← hsb, ← hYA] at this)
  have HYE := Lib.hid hy
  have HSBE := Lib.hid hsb
  obtain ⟨fr', ⟨f2, f7, f9, f10, f23, -⟩, rfl⟩ := hF4.open288
  rw [← hq] at f23
  simp only [f2, f7, f9, f10, f23]
  clear f2 f7 f9 f10 f23 hF4 hk4 hy hsb hYA hq H2M HSS3
  go_upto_region 48 with (first
    | (go_at_call 20; with_reducible refine TP.out.mono ?_; rintro e w5 ⟨rfl, hk5⟩; have HK5 := Lib.hid hk5; clear hk5)
    | (refine wl_alloc_rowZ rfl _ rfl (pc (0, 0)).toArray 2 srZ ?_; intro w6 hB6 hk6 hz6; have HB6 := Lib.hid hB6; have HK6 := Lib.hid hk6; clear hB6 hk6 hz6)
    | (refine wl_store_row rfl _ _ _ rfl w5.heap.size rfl YA rfl _ _ HB6.out (by rw [HYA.out]; exact srSz) (by rw [HYA.out]; rfl) (by rw [HYA.out]; exact pc_all _) ?_; intro w7 hB7 hk7 hz7; have HB7 := Lib.hid hB7; have HK7 := Lib.hid hk7; clear hB7 hk7 hz7))
  have HK57 := Lib.hid (show Keep [] w5 w7 from HK6.out.trans' HK7.out (fun y hy => by right; simp at hy; omega))
  have HK47 := Lib.hid (HK5.out.trans HK57.out)
  have HK17 := Lib.hid (HK4.out.trans HK47.out)
  have HM7 := Lib.hid (show Blk w7 w5.heap.size 26 (pc y).toArray by rw [← HYA.out]; exact HB7.out)
  obtain ⟨M, hM⟩ : ∃ M, M = w5.heap.size := ⟨_, rfl⟩
  rw [← hM] at HM7
  rw [← hM]
  have HG7 := Lib.hid (HG.out.keep HK17.out (by simp))
  have HS7 := Lib.hid (HC.out.keepS HSS4.out HK47.out (by simp))
  have HA7 := Lib.hid (H2M4.out.keep0 HK47.out)
  have HL7 := Lib.hid (HL1.out.keep0 HK17.out)
  have HO := Lib.hid ho
  have HL6 := Lib.hid hl6
  have HCB := Lib.hid hcb
  have HCN := Lib.hid (show ∀ W, Keep [] w7 W → Calls Try.prog 21 #[.pointer (some ⟨s, 0, none⟩)] W fun e w' => e = .returned (.int .u64 (q : Nat)) ∧ Keep [] W w' from fun W hW => by
    have := HC.out.countS W S3 s m l (HC.out.keepS HS7.out hW (by simp)) HL6.out
    rwa [Nat.mod_eq_of_lt HCB.out, ← HQE.out] at this)
  have HCV := Lib.hid (show ∀ W, Keep [] w7 W → Calls Try.prog 22 #[.pointer (some ⟨s, 0, none⟩), .agg D] W fun e w' => e = .returned (.bool (Span.covB l o)) ∧ Keep [] W w' from fun W hW => by
    have := HC.out.covS W S3 s m l o (HC.out.keepS HS7.out hW (by simp)) HL6.out HO.out.1 HO.out.2
    rwa [pv_agg, ← HD.out] at this)
  have HRO := Lib.hid (show ∀ W, Keep [] w7 W → Calls Try.prog 12 #[.agg D] W fun e w' => e = .returned (.agg D) ∧ Keep [] W w' from fun W hW => by
    have := ref_any o W
    rwa [pv_agg, ← HD.out] at this)
  have HRL := Lib.hid (show ∀ W, Keep [] w7 W → Calls Try.prog 12 #[.agg YA] W fun e w' => e = .returned (.agg YA) ∧ Keep [] W w' from fun W hW => by
    have := ref_any y W
    rwa [pv_agg, ← HYA.out] at this)
  have HRC := Lib.hid (show ∀ W, Keep [] w7 W → Calls Try.prog 23 #[.slice MA k MC, .agg D] W fun e w' => e = .returned (.bool (Span.covB l o)) ∧ Keep [] W w' from fun W hW => by
    have := rcov_any (.slice MA k MC) l o W (HA7.out.keep0 hW) HO.out.1 HO.out.2 HL6.out
    rwa [pv_agg, ← HD.out] at this)
  clear hM hl6 hcb HB6 HB7 HK5 HK6 HK7 HK57 HK47 TP H2M4 HSS4 HG
  refine OutN.use (R := fun a' w' => Fr 288 [(2, .slice LA kl lc), (7, .pointer (some ⟨G, 0, none⟩)), (9, .pointer (some ⟨s, 0, none⟩)), (10, .slice MA k MC), (217, .bool false)] a' ∧ Keep [] w7 w') ?_ ?_
  · by_cases hk0 : k = 0
    · have hl0 : l = [] := List.length_eq_zero_iff.1 (by have := HKK.out; omega)
      have hs0 : sb = false := by rw [HSBE.out, hl0]; rfl
      subst hs0
      exact plays_r48e _ _ w7 G s M k MC q MA (Span.covB l o) o _ D HD HG7 HCN HCV HRO HRC hk0
        ⟨rfl, rfl, by repeat (first | exact trivial | refine ⟨rfl, ?_⟩)⟩ (Lib.hid fun a' w' h1 h2 => ⟨h1, h2⟩)
    · have hlast : l.getLast? = some (l.getD (k - 1) (0, 0)) := by
        rw [List.getLast?_eq_getElem?, HKK.out, List.getD_eq_getElem?_getD, List.getElem?_eq_getElem (by have := HKK.out; omega)]
        rfl
      have hs1 : sb = true := by rw [HSBE.out, hlast]; rfl
      have hy1 : y = l.getD (k - 1) (0, 0) := by rw [HYE.out, hlast]; rfl
      subst hs1
      obtain ⟨b, off, eA, hb, c0, c1⟩ := HA7.out.at (k - 1) (by have := HKK.out; omega)
      have hyl := HA7.out.p64.getD (k - 1)
      rw [← hy1] at c0 c1 hyl
      exact plays_r48n _ _ w7 G s M k MC q MA (Span.covB l o) o _ D HD HG7 HCN HCV HRO HRC b off y YA eA (by omega) (by omega) hb hyl HYA HM7 (Lib.hid c0) (Lib.hid c1) HRL
        ⟨rfl, rfl, by repeat (first | exact trivial | refine ⟨rfl, ?_⟩)⟩ (Lib.hid fun a' w' h1 h2 => ⟨h1, h2⟩)
  rintro a' w8 ⟨hF8, hk8⟩
  have HK8 := Lib.hid (HK17.out.trans hk8)
  have HS8 := Lib.hid (HC.out.keepS HS7.out hk8 (by simp))
  have HA8 := Lib.hid (HA7.out.keep0 hk8)
  have HL8 := Lib.hid (HL7.out.keep0 hk8)
  have HR8 := Lib.hid (show Rd w8 LA (ll.map (Value.int .u64)) by
    obtain ⟨A', c', e, -, -, h3, -⟩ := HL8.out
    simp only [Value.slice.injEq] at e
    rw [e.1]; exact h3)
  have HWF := Lib.hid HL8.out.wf
  obtain ⟨fr'', ⟨f2, f7, f9, f10, f217, -⟩, rfl⟩ := hF8.open288
  simp only [f2, f7, f9, f10, f217]
  clear f2 f7 f9 f10 f217 hF8 hk8 HCN HCV HRO HRL HRC HG7 HM7 HK17 HS7 HA7 HL7
  obtain ⟨N, hN⟩ : ∃ N, N = kl + 4 := ⟨_, rfl⟩
  have HNE := Lib.hid hN
  clear hN
  go_upto_block 5 with (first
    | (have _q := HX1; at_builtin; refine wl_append _ rfl _ _ _ rfl w8.heap.size 24 (.int .u64 0) 1 8 Try.underlying23 u64infB rfl (by decide) (.slice A1 kl cc1) _ _ rfl (HX1.out.alloc _) (some ⟨w9.heap.size, 0, Option.none⟩) 4 4 [.int .u64 0, .int .u64 5, .int .u64 30, .int .u64 59] rfl rfl (by simpa using Rd.of_blk (Blk.new w9 _ _)) (by simp [Value.oneCell']) (by simp only [maxLen]; omega) (by omega) (by have := HK9.out.size; simp; omega) ?_; intro x2 w10 ho2 hk2 hat2; rw [← HNE.out] at ho2; have HX2 := Lib.hid ho2; have HK10 := Lib.hid (show Keep [] w8 w10 from keep_own (HX1.out.alloc _) (Nat.le_refl _) (HK9.out.alloc _) hk2); clear ho2 hk2 hat2; obtain ⟨A2, cc2, rfl⟩ := own_slice HX2.out)
    | (at_builtin; refine wl_append _ rfl _ _ _ rfl w8.heap.size 24 (.int .u64 0) 1 8 Try.underlying23 u64infB rfl (by decide) (.slice (some ⟨w8.heap.size, 0, Option.none⟩) 0 0) 0 [] rfl (own_of_blk (Blk.new w8 _ _) rfl (Nat.le_refl _) (by omega) rfl) LA kl lc (ll.map (Value.int .u64)) rfl (by rw [List.length_map, ← HKL.out, Nat.mul_one]) (HR8.out.keep0 ((Keep.refl [] w8).alloc _)) (ints_one _ _) (by simp only [maxLen]; omega) (by omega) (by simp) ?_; intro x1 w9 ho1 hk1 hat1; simp only [Nat.zero_add, List.nil_append] at ho1; have HX1 := Lib.hid ho1; have HK9 := Lib.hid (show Keep [] w8 w9 from ((Keep.refl [] w8).alloc (.cells #[] 24)).trans' hk1 (by intro y hy; right; simp [Value.ownBlock] at hy; omega)); clear ho1 hk1 hat1; obtain ⟨A1, cc1, rfl⟩ := own_slice HX1.out))
  have HQL := Lib.hid (show Sl .u64 w10 (.slice A2 N cc2) (ll ++ [0, 5, 30, 59]) from Sl.of_own (by rw [List.map_append]; exact HX2.out) (fun x hx => by
    rcases List.mem_append.1 hx with h | h
    · exact HWF.out x h
    · simp only [List.mem_cons, List.not_mem_nil, or_false] at h
      rcases h with rfl | rfl | rfl | rfl <;> decide))
  have HNL := Lib.hid (show N = (ll ++ [0, 5, 30, 59]).length by rw [List.length_append, ← HKL.out, HNE.out]; rfl)
  have hN6 : N ≤ 1000000 := by have := HNE.out; omega
  have HA10 := Lib.hid (HA8.out.keep0 HK10.out)
  have HS10 := Lib.hid (HC.out.keepS HS8.out HK10.out (by simp))
  have HKF := Lib.hid (HK01.out.trans (HK8.out.trans HK10.out))
  clear HNE HX1 HX2 HK9 HR8 HA8 HS8 HL8 HWF HL1
  go_wp2_with fail
  refine OutX.use (plays_look HC (fun a' w' => Fr 288 [(2, .slice LA kl lc)] a' ∧ Keep [] w10 w') _ w10 S3 s m k MC N cc2 MA A2 l (ll ++ [0, 5, 30, 59]) _ _ HKK HNL hN6 HL6 HA10 HQL HS10
    ⟨rfl, rfl, by repeat (first | exact trivial | refine ⟨rfl, ?_⟩)⟩ (fun a' w' h1 h2 => ⟨h1, h2⟩)) ?_
  rintro a' w11 ⟨hF11, hk11⟩
  have HK11 := Lib.hid (HKF.out.trans hk11)
  obtain ⟨fr3, ⟨f2, -⟩, rfl⟩ := hF11.open288
  simp only [f2]
  clear f2 hF11 hk11
  go_wp2_with fail
  go_ret
  exact ⟨rfl, HK11.out⟩
end Go.Proofs.Ytpckbmebdhmfaaa
