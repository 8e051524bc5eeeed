/-
  SpanAsks, over what span's functions keep.
-/
import Derived.Test.YtpckbmebdhmfaaaSpanF
namespace Go.Proofs.Ytpckbmebdhmfaaa
open Go.RowKit

theorem em_all {l : List (Nat × Nat)} {r : Nat × Nat} (h : em l r l.length = true) : ∀ x ∈ l, x.2 ≤ r.1 ∨ r.2 ≤ x.1 := by
  unfold em at h
  rw [List.take_of_length_le (Nat.le_refl _), List.all_eq_true] at h
  intro x hx
  have := h x hx
  simpa using this

set_option maxRecDepth 100000 in
set_option maxHeartbeats 16000000 in
theorem spanAsks_any {SS : World → List Nat → Nat → Nat → List (Nat × Nat) → Prop} (hC : SpanC SS) (v : Value) (la : List ActP) (r : Nat × Nat) (w : World) (hA : SA w v la) (hr : r.1 < 18446744073709551616 ∧ r.2 < 18446744073709551616) :
    Calls Try.prog 4 #[v, pv r] w fun e w' => e = .returned (.bool true) ∧ Keep [] w w' := by
  have HA := Lib.hid hA
  obtain ⟨A, c, rfl, hc1, hc2, -, -⟩ := hA
  obtain ⟨n, hn⟩ : ∃ n, n = la.length := ⟨_, rfl⟩
  have HN := Lib.hid hn
  rw [← hn] at HA hc1 ⊢
  clear hn
  obtain ⟨D, hD⟩ : ∃ D, D = (pc r).toArray := ⟨_, rfl⟩
  have HD := Lib.hid hD
  have HC := Lib.hid hC
  have AW := fun w => Lib.hid (awake7_any hC w)
  have NW := fun w => Lib.hid (show Calls Try.prog 8 #[.int .i64 1000] w fun e w' => ∃ s S, e = .returned (.pointer (some ⟨s, 0, none⟩)) ∧ SS w' S s 1000 [] ∧ (∀ x ∈ S, w.heap.size ≤ x) ∧ Keep [] w w' from hC.newS w 1000 (by decide))
  rw [pv_agg, ← hD]
  clear hC hD
  go_enter Try.func4, Try.ntmps4
  go_upto_block 0 with (first
    | (refine wl_box rfl _ _ rfl D rfl ?_; intro wa hBa hka hza; have HBa := Lib.hid hBa; have HKa := Lib.hid hka; clear hBa hka hza)
    | (go_at_call 7; with_reducible refine (AW _).out.mono ?_; rintro e w1 ⟨rfl, hk1⟩; have HK1 := Lib.hid hk1; clear hk1)
    | (go_at_call 8; with_reducible refine (NW _).out.mono ?_; rintro e w2 ⟨s, S, rfl, hss, hsb, hk2⟩; have HSS := Lib.hid hss; have HSB := Lib.hid hsb; have HK2 := Lib.hid hk2; clear hss hsb hk2))
  obtain ⟨G, hG⟩ : ∃ G, G = w.heap.size := ⟨_, rfl⟩
  have HG := Lib.hid (show Blk w1 G 26 (pc r).toArray by rw [hG, ← HD.out]; exact HBa.out.keep HK1.out (by simp))
  have HK01 := Lib.hid (HKa.out.trans HK1.out)
  have HA1 := Lib.hid (HA.out.keep0 HK01.out)
  rw [← hG]
  clear hG HBa HKa HK1 AW NW HA
  go_wp2_with fail
  refine OutX.use (asks_acts HC.out (fun a' w' => ∃ S' l, Fr 128 [(3, .pointer (some ⟨G, 0, none⟩)), (5, .pointer (some ⟨s, 0, none⟩))] a' ∧ SS w' S' s 1000 l ∧ l.length ≤ 60 ∧ (∀ x ∈ S', w1.heap.size ≤ x) ∧ Keep [] w1 w') _ w1 w2 S s n c A la _ HN HA1 HK2 HSS HSB
    ⟨rfl, rfl, by repeat (first | exact trivial | refine ⟨rfl, ?_⟩)⟩ (fun a' w' S' l h1 h2 h3 h4 h5 => ⟨S', l, h1, h2, h3, h4, h5⟩)) ?_
  rintro a' w3 ⟨S3, l, hF3, hss3, hlen3, hsb3, hk3⟩
  have HSS3 := Lib.hid hss3
  have HLEN := Lib.hid hlen3
  have HK3 := Lib.hid hk3
  obtain ⟨hnrm, hp64, -⟩ := HC.out.okS hss3
  have HNRM := Lib.hid hnrm
  have HP64 := Lib.hid hp64
  have LI := Lib.hid (HC.out.listS w3 S3 s 1000 l hss3 (by omega))
  obtain ⟨fr, ⟨f3, f5, -⟩, rfl⟩ := hF3.open128
  simp only [f3, f5]
  clear f3 f5 hF3 hss3 hlen3 hsb3 hk3 hnrm hp64 HSS HSB HK2 HA1
  go_upto_block 2 with (go_at_call 18; with_reducible refine LI.out.mono ?_; rintro e w4 ⟨lv, rfl, h2l, hown4, hk4⟩; have H2L := Lib.hid h2l; have HK4 := Lib.hid (HK3.out.trans hk4); have HSS4 := Lib.hid (HC.out.keepS HSS3.out hk4 (by simp)); obtain ⟨B, d, rfl, hd1, hd2⟩ := h2l.at0; clear hown4 hk4)
  obtain ⟨k, hk⟩ : ∃ k, k = l.length := ⟨_, rfl⟩
  have HKL := Lib.hid hk
  rw [← hk] at H2L hd1 ⊢
  clear hk LI HSS3
  go_wp2_with fail
  refine OutX.use (asks_apart (fun a' w' => Fr 128 [(3, .pointer (some ⟨G, 0, none⟩)), (5, .pointer (some ⟨s, 0, none⟩)), (8, .slice B k d), (9, .bool (em l r k))] a' ∧ Keep [] w4 w') _ w4 G k d B l r _ HKL H2L (Lib.hid (HG.out.keep HK4.out (by simp))) hr
    ⟨rfl, rfl, by repeat (first | exact trivial | refine ⟨rfl, ?_⟩)⟩ (fun a' w' h1 h2 => ⟨h1, h2⟩)) ?_
  rintro a' w5 ⟨hF5, hk5⟩
  have HK5 := Lib.hid (HK4.out.trans hk5)
  have HSS5 := Lib.hid (HC.out.keepS HSS4.out hk5 (by simp))
  have H2L5 := Lib.hid (H2L.out.keep0 hk5)
  have HG5 := Lib.hid (HG.out.keep HK5.out (by simp))
  have hal := Span.add_len l r
  have hca := Span.cut_len (Span.add_nrm HNRM.out r) r
  obtain ⟨la1, hla1⟩ : ∃ la1, la1 = Span.add l r := ⟨_, rfl⟩
  obtain ⟨lc, hlc⟩ : ∃ lc, lc = Span.cut la1 r := ⟨_, rfl⟩
  have HLA := Lib.hid hla1
  have HLC := Lib.hid hlc
  rw [← hla1] at hal hca
  rw [← hlc] at hca
  have hl1 : la1.length ≤ 61 := by have := HLEN.out; omega
  have hl2 : lc.length ≤ 62 := by omega
  obtain ⟨e, he⟩ : ∃ e, e = em l r k := ⟨_, rfl⟩
  have HEM := Lib.hid he
  obtain ⟨c1, hc1'⟩ : ∃ c1, c1 = Span.cnt la1 := ⟨_, rfl⟩
  obtain ⟨c2, hc2'⟩ : ∃ c2, c2 = Span.cnt l := ⟨_, rfl⟩
  have HC12 := Lib.hid (show c2 ≤ c1 by rw [hc1', hc2', hla1]; exact Span.cnt_add HNRM.out r)
  have CP := Lib.hid (HC.out.copyS w5 S3 s 1000 l HSS5.out (by have := HLEN.out; omega))
  have AD := fun W S t (h : SS W S t 1000 l) => Lib.hid (show Calls Try.prog 13 #[.pointer (some ⟨t, 0, none⟩), .agg D] W fun e w' => ∃ S', e = .returned (.int .i64 0) ∧ SS w' S' t 1000 la1 ∧ (∀ x ∈ S', x ∈ S ∨ W.heap.size ≤ x) ∧ Keep S W w' by
    have := HC.out.addS W S t 1000 l r h (by have := HLEN.out; omega) hr.1 hr.2
    rw [pv_agg, ← HD.out, ← HLA.out] at this
    refine this.mono ?_
    rintro e w' ⟨c, S', rfl, hres, h1, h2⟩
    rcases hres with h | h
    · obtain ⟨h3, rfl, h5⟩ := h; exact ⟨S', rfl, h5, h1, h2⟩
    · exfalso; have := h.1; omega)
  have CV := fun W S t (h : SS W S t 1000 la1) => Lib.hid (show Calls Try.prog 22 #[.pointer (some ⟨t, 0, none⟩), .agg D] W fun e w' => e = .returned (.bool true) ∧ Keep [] W w' by
    have := HC.out.covS W S t 1000 la1 r h (by omega) hr.1 hr.2
    rw [pv_agg, ← HD.out, show Span.covB la1 r = true by rw [HLA.out]; exact Span.cov_add HNRM.out r] at this
    exact this)
  have CN := fun W S t (h : SS W S t 1000 la1) => Lib.hid (show Calls Try.prog 21 #[.pointer (some ⟨t, 0, none⟩)] W fun e w' => e = .returned (.int .u64 (c1 : Nat)) ∧ Keep [] W w' by
    have hb := HC.out.okS h
    have := HC.out.countS W S t 1000 la1 h (by omega)
    rwa [← hc1', Nat.mod_eq_of_lt (by rw [hc1']; exact Span.bounded hb.2.1 hb.1)] at this)
  have CM := fun W S t (h : SS W S t 1000 l) => Lib.hid (show Calls Try.prog 21 #[.pointer (some ⟨t, 0, none⟩)] W fun e w' => e = .returned (.int .u64 (c2 : Nat)) ∧ Keep [] W w' by
    have hb := HC.out.okS h
    have := HC.out.countS W S t 1000 l h (by have := HLEN.out; omega)
    rwa [← hc2', Nat.mod_eq_of_lt (by rw [hc2']; exact Span.bounded hb.2.1 hb.1)] at this)
  have CT := fun W S t (h : SS W S t 1000 la1) => Lib.hid (show Calls Try.prog 16 #[.pointer (some ⟨t, 0, none⟩), .agg D] W fun e w' => ∃ S', e = .returned (.int .i64 0) ∧ SS w' S' t 1000 lc ∧ (∀ x ∈ S', x ∈ S ∨ W.heap.size ≤ x) ∧ Keep S W w' by
    have := HC.out.cutS W S t 1000 la1 r h (by omega) hr.1 hr.2
    rw [pv_agg, ← HD.out, ← HLC.out] at this
    refine this.mono ?_
    rintro e w' ⟨c, S', rfl, hres, h1, h2⟩
    rcases hres with h | h
    · obtain ⟨h3, rfl, h5⟩ := h; exact ⟨S', rfl, h5, h1, h2⟩
    · exfalso; have := h.1; omega)
  obtain ⟨fr', ⟨f3, f5, f8, f9, -⟩, rfl⟩ := hF5.open128
  rw [← he] at f9
  simp only [f3, f5, f8, f9]
  clear f3 f5 f8 f9 hF5 hk5 HSS4 H2L hal hca hla1 hlc hc1' hc2' he
  have h12 : ¬ (c1 : Int) < (c2 : Int) := by have := HC12.out; omega
  have hd12 : decide ((c1 : Int) < (c2 : Int)) = false := decide_eq_false h12
  go_upto_region 20 with (first
    | (go_at_call 10; with_reducible refine CP.out.mono ?_; rintro e6 w6 ⟨t, S6, rfl, hss6, hsb6, hk6⟩; have HT6 := Lib.hid hss6; have HSB6 := Lib.hid hsb6; have HK6 := Lib.hid hk6; have HG6 := Lib.hid (HG5.out.keep hk6 (by simp)); clear hss6 hsb6 hk6)
    | (refine wl_load_pairG rfl _ _ rfl G 0 r D HD.out rfl _ Try.underlying26 rfl srSz HG7.out.pair.1 HG7.out.pair.2 ?_)
    | (refine wl_load_pairG rfl _ _ rfl G 0 r D HD.out rfl _ Try.underlying26 rfl srSz HG6.out.pair.1 HG6.out.pair.2 ?_)
    | (go_at_call 13; with_reducible refine (AD _ S6 t HT6.out).out.mono ?_; rintro e7 w7 ⟨S7, rfl, hss7, hs7, hk7⟩; have HT7 := Lib.hid hss7; have HS7 := Lib.hid hs7; have HK7 := Lib.hid hk7; have HG7 := Lib.hid (HG6.out.keep hk7 (fun h => by have h1 := HSB6.out G h; have h2 := HG5.out.lt; omega)); clear hss7 hs7 hk7)
    | (go_at_call 22; with_reducible refine (CV _ S7 t HT7.out).out.mono ?_; rintro e8 w8 ⟨rfl, hk8⟩; have HT8 := Lib.hid (HC.out.keepS HT7.out hk8 (by simp)); have HK8 := Lib.hid hk8; clear hk8)
    | (have _q := HK9; go_at_call 21; with_reducible refine (CM _ S3 s (HC.out.keepS (HC.out.keepS (HC.out.keepS (HC.out.keepS HSS5.out HK6.out (by simp)) HK7.out (fun x hx h => by have h1 := HSB6.out x h; have h2 := HC.out.ltS HSS5.out x hx; omega)) HK8.out (by simp)) HK9.out (by simp))).out.mono ?_; rintro e10 w10 ⟨rfl, hk10⟩; have HT10 := Lib.hid (HC.out.keepS HT9.out hk10 (by simp)); have HK10 := Lib.hid hk10; clear hk10)
    | (go_at_call 21; with_reducible refine (CN _ S7 t HT8.out).out.mono ?_; rintro e9 w9 ⟨rfl, hk9⟩; have HT9 := Lib.hid (HC.out.keepS HT8.out hk9 (by simp)); have HK9 := Lib.hid hk9; clear hk9))
  have HLB7 := Lib.hid (show ∀ x ∈ S7, w5.heap.size ≤ x from fun x hx => by
    rcases HS7.out x hx with h | h
    · exact HSB6.out x h
    · have h1 := HK6.out.size; omega)
  have HK510 := Lib.hid (show Keep [] w5 w10 from (((HK6.out.trans' HK7.out (fun q hq => .inr (HSB6.out q hq))).trans HK8.out).trans HK9.out).trans HK10.out)
  have HG10 := Lib.hid (HG5.out.keep HK510.out (by simp))
  have CT1 := CT w10 S7 t HT10.out
  have HGN := Lib.hid HG5.out.lt
  have H2L10 := Lib.hid (H2L5.out.keep0 HK510.out)
  clear CP AD CV CN CM CT HT6 HT7 HT8 HT9 HT10 HG6 HG7 HK6 HK7 HK8 HK9 HK10 _q HSS5
  by_cases hrr : r.1 < r.2
  · have hrr2 : ((r.1 : Nat) : Int) < ((r.2 : Nat) : Int) := by omega
    have hrr3 : ¬ ((r.2 : Nat) : Int) ≤ ((r.1 : Nat) : Int) := by omega
    have hdr : decide (((r.2 : Nat) : Int) ≤ ((r.1 : Nat) : Int)) = false := decide_eq_false hrr3
    have hws : IntKind.u64.wrap (((r.2 : Nat) : Int) - 1) = ((r.2 - 1 : Nat) : Int) := by
      rw [show IntKind.u64.wrap (((r.2 : Nat) : Int) - 1) = ((r.2 : Nat) : Int) - 1 from IntWalk.u64_in _ ⟨by omega, by omega⟩]; omega
    have HA1 := fun W S t (h : SS W S t 1000 lc) => Lib.hid (show Calls Try.prog 25 #[.pointer (some ⟨t, 0, none⟩), .int .u64 (r.1 : Nat)] W fun e w' => e = .returned (.bool false) ∧ Keep [] W w' by
      have := HC.out.hasS W S t 1000 r.1 lc h (by omega) hr.1
      rwa [show Span.hasB lc r.1 = false by rw [HLC.out, HLA.out]; exact Span.has_cut (Span.add_nrm HNRM.out r) r r.1 (Nat.le_refl _) hrr] at this)
    have HA2 := fun W S t (h : SS W S t 1000 lc) => Lib.hid (show Calls Try.prog 25 #[.pointer (some ⟨t, 0, none⟩), .int .u64 ((r.2 - 1 : Nat) : Int)] W fun e w' => e = .returned (.bool false) ∧ Keep [] W w' by
      have := HC.out.hasS W S t 1000 (r.2 - 1) lc h (by omega) (by omega)
      rwa [show Span.hasB lc (r.2 - 1) = false by rw [HLC.out, HLA.out]; exact Span.has_cut (Span.add_nrm HNRM.out r) r (r.2 - 1) (by omega) (by omega)] at this)
    obtain ⟨x1, hx1⟩ : ∃ x : Int, x = ((r.1 : Nat) : Int) := ⟨_, rfl⟩
    obtain ⟨x2, hx2⟩ : ∃ x : Int, x = ((r.2 : Nat) : Int) := ⟨_, rfl⟩
    obtain ⟨x3, hx3⟩ : ∃ x : Int, x = ((r.2 - 1 : Nat) : Int) := ⟨_, rfl⟩
    have HX12 := Lib.hid (And.intro hx1 hx2)
    rw [← hx1] at HA1 hrr2 hrr3 hdr
    rw [← hx2] at hrr2 hrr3 hdr hws
    rw [← hx3] at HA2 hws
    clear hx1 hx2 hx3
    have PR : ∀ W : World, Blk W G 26 (pc r).toArray → W.cell? ⟨G, 0, none⟩ = some (.int .u64 x1) ∧ W.cell? ⟨G, 1, none⟩ = some (.int .u64 x2) := fun W h => by rw [HX12.out.1, HX12.out.2]; exact h.pair
    have HPR := Lib.hid PR
    clear PR
    go_upto_region 22 with (first
      | (refine wl_load_pairG rfl _ _ rfl G 0 r D HD.out rfl _ Try.underlying26 rfl srSz HG10.out.pair.1 HG10.out.pair.2 ?_)
      | (go_at_call 16; with_reducible refine CT1.out.mono ?_; rintro e11 w11 ⟨S11, rfl, hss11, hs11, hk11⟩; have HT11 := Lib.hid hss11; have HS11 := Lib.hid hs11; have HK11 := Lib.hid hk11; have HG11 := Lib.hid (HG10.out.keep hk11 (fun h => by have h1 := HLB7.out G h; have h2 := HGN.out; omega)); have H2L11 := Lib.hid (H2L10.out.keep hk11 (fun hl b hb h => by have h1 := HLB7.out b h; have h2 := H2L5.out.lt hl b hb; omega)); clear hss11 hs11 hk11))
    obtain ⟨p1, p2⟩ := HPR.out _ HG11.out
    go_upto_region 24 with (first
      | (have _q := HK12; go_at_call 25; with_reducible refine (HA2 _ S11 t HT12.out).out.mono ?_; rintro e13 w13 ⟨rfl, hk13⟩; have HT13 := Lib.hid (HC.out.keepS HT12.out hk13 (by simp)); have HK13 := Lib.hid hk13; clear hk13)
      | (go_at_call 25; with_reducible refine (HA1 _ S11 t HT11.out).out.mono ?_; rintro e12 w12 ⟨rfl, hk12⟩; have HT12 := Lib.hid (HC.out.keepS HT11.out hk12 (by simp)); have HK12 := Lib.hid hk12; obtain ⟨q1, q2⟩ := HPR.out _ (HG11.out.keep hk12 (by simp)); clear hk12))
    have HK13' := Lib.hid (show Keep [] w w13 from ((((HK01.out.trans HK5.out).trans HK510.out).trans' HK11.out (fun q hq => .inr (by have h1 := HLB7.out q hq; have h2 := HK5.out.size; have h3 := HK01.out.size; omega))).trans HK12.out).trans HK13.out)
    have HG13 := Lib.hid ((HG11.out.keep HK12.out (by simp)).keep HK13.out (by simp))
    have H2L13 := Lib.hid ((H2L11.out.keep0 HK12.out).keep0 HK13.out)
    clear p1 p2 q1 q2 _q HT11 HT12 HA1 HA2
    obtain ⟨p1, p2⟩ := HPR.out _ HG13.out
    cases hee : e
    · go_wp2_with fail
      go_ret
      exact ⟨rfl, HK13'.out⟩
    · have HLL := Lib.hid (show lc = l by
        rw [HLC.out, HLA.out]
        refine Span.cut_add HNRM.out r (Span.sparse r (em_all ?_))
        rw [← HKL.out, ← HEM.out]; exact hee)
      have LI := Lib.hid (HC.out.listS w13 S11 t 1000 lc HT13.out (by omega))
      rw [HLL.out] at LI
      go_upto_block 4 with (go_at_call 18; with_reducible refine LI.out.mono ?_; rintro e14 w14 ⟨mv, rfl, h2m, -, hk14⟩; have H2M := Lib.hid h2m; have HK14 := Lib.hid (HK13'.out.trans hk14); have H2L14 := Lib.hid (H2L13.out.keep0 hk14); obtain ⟨M, cm, rfl, hcm1, hcm2⟩ := h2m.at0; rw [← HKL.out]; clear hk14)
      rw [← HKL.out] at H2M hcm1
      clear LI p1 p2
      go_wp2_with fail
      refine OutX.use (asks_eq_loop (fun a' w' => Fr 128 [(3, .pointer (some ⟨G, 0, none⟩)), (5, .pointer (some ⟨s, 0, none⟩))] a' ∧ Keep [] w14 w') _ w14 k cm d M B l _ _ _ HKL H2M H2L14
        ⟨rfl, rfl, by repeat (first | exact trivial | refine ⟨rfl, ?_⟩)⟩ (fun a' w' h1 h2 => ⟨h1, h2⟩)) ?_
      rintro a' w15 ⟨hF15, hk15⟩
      have HK15 := Lib.hid (HK14.out.trans hk15)
      obtain ⟨fr, ⟨f3, f5, -⟩, rfl⟩ := hF15.open128
      simp only [f3, f5]
      clear f3 f5 hF15 hk15
      go_wp2_with fail
      go_ret
      exact ⟨rfl, HK15.out⟩
  · have hrr2 : ¬ ((r.1 : Nat) : Int) < ((r.2 : Nat) : Int) := by omega
    have hrr3 : ((r.2 : Nat) : Int) ≤ ((r.1 : Nat) : Int) := by omega
    have hdr : decide (((r.1 : Nat) : Int) < ((r.2 : Nat) : Int)) = false := decide_eq_false hrr2
    go_upto_region 22 with (first
      | (refine wl_load_pairG rfl _ _ rfl G 0 r D HD.out rfl _ Try.underlying26 rfl srSz HG10.out.pair.1 HG10.out.pair.2 ?_)
      | (go_at_call 16; with_reducible refine CT1.out.mono ?_; rintro e11 w11 ⟨S11, rfl, hss11, hs11, hk11⟩; have HK11 := Lib.hid hk11; have HG11 := Lib.hid (HG10.out.keep hk11 (fun h => by have h1 := HLB7.out G h; have h2 := HGN.out; omega)); clear hss11 hs11 hk11))
    have HK11' := Lib.hid (show Keep [] w w11 from (((HK01.out.trans HK5.out).trans HK510.out).trans' HK11.out (fun q hq => .inr (by have h1 := HLB7.out q hq; have h2 := HK5.out.size; have h3 := HK01.out.size; omega))))
    obtain ⟨p1, p2⟩ := HG11.out.pair
    have b1 := u64_lt hr.1
    have b2 := u64_lt hr.2
    cases hee : e
    · go_wp2_with fail
      go_ret
      exact ⟨rfl, HK11'.out⟩
    · go_wp2_with fail
      go_ret
      exact ⟨rfl, HK11'.out⟩
end Go.Proofs.Ytpckbmebdhmfaaa
