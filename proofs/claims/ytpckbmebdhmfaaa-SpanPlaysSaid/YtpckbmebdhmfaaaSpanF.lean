/-
  SpanParts, over what span's functions keep.
-/
import Derived.Test.YtpckbmebdhmfaaaSpanE
namespace Go.Proofs.Ytpckbmebdhmfaaa
open Go.RowKit

theorem S2.at0 {w : World} {v : Value} {l : List (Nat × Nat)} (h : S2 w v l) : ∃ A c, v = .slice A l.length c ∧ l.length ≤ c ∧ c ≤ 9223372036854775807 := by
  obtain ⟨A, c, rfl, h1, h2, -, -⟩ := h
  exact ⟨A, c, rfl, h1, h2⟩

set_option maxRecDepth 100000 in
set_option maxHeartbeats 16000000 in
theorem spanParts_any {SS : World → List Nat → Nat → Nat → List (Nat × Nat) → Prop} (hC : SpanC SS) (v : Value) (la : List ActP) (nn : Nat) (w : World) (hA : SA w v la) (hnn : nn < 18446744073709551616) :
    Calls Try.prog 6 #[v, .int .u64 (nn : Nat)] w fun e w' => e = .returned (.bool true) ∧ Keep [] w w' := by
  have HA := Lib.hid hA
  obtain ⟨A, c, rfl, hc1, hc2, -, -⟩ := hA
  obtain ⟨n, hn⟩ : ∃ n, n = la.length := ⟨_, rfl⟩
  have HN := Lib.hid hn
  rw [← hn] at HA hc1 ⊢
  clear hn
  have HC := Lib.hid hC
  have AW := fun w => Lib.hid (awake7_any hC w)
  have NW := fun w => Lib.hid (show Calls Try.prog 8 #[.int .i64 1000] w fun e w' => ∃ s S, e = .returned (.pointer (some ⟨s, 0, none⟩)) ∧ SS w' S s 1000 [] ∧ (∀ x ∈ S, w.heap.size ≤ x) ∧ Keep [] w w' from hC.newS w 1000 (by decide))
  clear hC
  go_enter Try.func6, Try.ntmps6
  go_upto_block 0 with (first
    | (go_at_call 7; with_reducible refine (AW _).out.mono ?_; rintro e w1 ⟨rfl, hk1⟩; have HK1 := Lib.hid hk1; clear hk1)
    | (go_at_call 8; with_reducible refine (NW _).out.mono ?_; rintro e w2 ⟨s, S, rfl, hss, hsb, hk2⟩; have HSS := Lib.hid hss; have HSB := Lib.hid hsb; have HK2 := Lib.hid hk2; clear hss hsb hk2))
  have HK := Lib.hid (HK1.out.trans HK2.out)
  have HSB' := Lib.hid (show ∀ x ∈ S, w.heap.size ≤ x from fun x hx => Nat.le_trans HK1.out.size (HSB.out x hx))
  clear HK1 HK2 HSB AW NW
  go_wp2_with fail
  refine OutX.use (parts_acts HC.out (fun a' w' => ∃ S' l, Fr 120 [(1, .int .u64 (nn : Nat)), (5, .pointer (some ⟨s, 0, none⟩))] a' ∧ SS w' S' s 1000 l ∧ l.length ≤ 60 ∧ (∀ x ∈ S', w.heap.size ≤ x) ∧ Keep [] w w') _ w w2 S s n c A la _ HN HA HK HSS HSB'
    ⟨rfl, rfl, by repeat (first | exact trivial | refine ⟨rfl, ?_⟩)⟩ (fun a' w' S' l h1 h2 h3 h4 h5 => ⟨S', l, h1, h2, h3, h4, h5⟩)) ?_
  rintro a' w3 ⟨S3, l, hF3, hss3, hlen3, hsb3, hk3⟩
  have HSS3 := Lib.hid hss3
  have HLEN := Lib.hid hlen3
  have HSB3 := Lib.hid hsb3
  have HK3 := Lib.hid hk3
  obtain ⟨hnrm, hp64, -⟩ := HC.out.okS hss3
  have HNRM := Lib.hid hnrm
  have HP64 := Lib.hid hp64
  have LI := Lib.hid (HC.out.listS w3 S3 s 1000 l hss3 (by omega))
  obtain ⟨fr, ⟨f1, f5, -⟩, rfl⟩ := hF3.open120
  simp only [f1, f5]
  clear f1 f5 hF3 hss3 hlen3 hsb3 hk3 hnrm hp64 HSS HSB' HK
  go_upto_block 2 with (go_at_call 18; with_reducible refine LI.out.mono ?_; rintro e w4 ⟨lv, rfl, h2l, hown4, hk4⟩; have H2L := Lib.hid h2l; have HOWN4 := Lib.hid hown4; have HK4 := Lib.hid (HK3.out.trans hk4); have HSS4 := Lib.hid (HC.out.keepS HSS3.out hk4 (by simp)); obtain ⟨B, d, rfl, hd1, hd2⟩ := h2l.at0; clear hown4 hk4)
  obtain ⟨k, hk⟩ : ∃ k, k = l.length := ⟨_, rfl⟩
  have HKL := Lib.hid hk
  rw [← hk] at H2L HOWN4 hd1 ⊢
  clear hk LI HSS3
  go_wp2_with fail
  refine OutX.use (parts_rising (fun a' w' => Fr 120 [(1, .int .u64 (nn : Nat)), (5, .pointer (some ⟨s, 0, none⟩)), (8, .slice B k d)] a' ∧ Keep [] w4 w') _ w4 k d B l _ _ HKL H2L HNRM
    ⟨rfl, rfl, by repeat (first | exact trivial | refine ⟨rfl, ?_⟩)⟩ (fun a' w' h1 h2 => ⟨h1, h2⟩)) ?_
  rintro a' w5 ⟨hF5, hk5⟩
  have HK5 := Lib.hid (HK4.out.trans hk5)
  have HSS5 := Lib.hid (HC.out.keepS HSS4.out hk5 (by simp))
  have H2L5 := Lib.hid (H2L.out.keep0 hk5)
  have CP := fun W h => Lib.hid (HC.out.copyS W S3 s 1000 l h (by have := HLEN.out; omega))
  have CL := fun W S lo h => Lib.hid (show Calls Try.prog 16 #[.pointer (some ⟨lo, 0, none⟩), .agg #[.int .u64 (nn : Nat), .int .u64 18446744073709551615]] W fun e w' => ∃ c S', e = .returned (.int .i64 c) ∧ (((Span.cut l (nn, 18446744073709551615)).length ≤ 1000 ∧ c = 0 ∧ SS w' S' lo 1000 (Span.cut l (nn, 18446744073709551615))) ∨ (1000 < (Span.cut l (nn, 18446744073709551615)).length ∧ c = 7 ∧ SS w' S' lo 1000 l)) ∧ (∀ x ∈ S', x ∈ S ∨ W.heap.size ≤ x) ∧ Keep S W w'
    from HC.out.cutS W S lo 1000 l (nn, 18446744073709551615) h (by have := HLEN.out; omega) hnn (show (18446744073709551615 : Nat) < 18446744073709551616 by omega))
  have CH := fun W S hi h => Lib.hid (show Calls Try.prog 16 #[.pointer (some ⟨hi, 0, none⟩), .agg #[.int .u64 0, .int .u64 (nn : Nat)]] W fun e w' => ∃ c S', e = .returned (.int .i64 c) ∧ (((Span.cut l (0, nn)).length ≤ 1000 ∧ c = 0 ∧ SS w' S' hi 1000 (Span.cut l (0, nn))) ∨ (1000 < (Span.cut l (0, nn)).length ∧ c = 7 ∧ SS w' S' hi 1000 l)) ∧ (∀ x ∈ S', x ∈ S ∨ W.heap.size ≤ x) ∧ Keep S W w'
    from HC.out.cutS W S hi 1000 l (0, nn) h (by have := HLEN.out; omega) (show 0 < 18446744073709551616 by omega) hnn)
  obtain ⟨fr', ⟨f1, f5, f8, -⟩, rfl⟩ := hF5.open120
  simp only [f1, f5, f8]
  clear f1 f5 f8 hF5 hk5 HSS4 H2L
  go_upto_region 20 with (first
    | (have _q := HS1; go_at_call 10; with_reducible refine (CP _ HSS6.out).out.mono ?_; rintro e w7 ⟨hi, S2', rfl, hss7, hsb7, hk7⟩; have HS2 := Lib.hid hss7; have HSB7 := Lib.hid hsb7; have HK7 := Lib.hid hk7; clear hss7 hsb7 hk7)
    | (go_at_call 10; with_reducible refine (CP _ HSS5.out).out.mono ?_; rintro e w6 ⟨lo, S1, rfl, hss6, hsb6, hk6⟩; have HS1 := Lib.hid hss6; have HSB6 := Lib.hid hsb6; have HK6 := Lib.hid hk6; have HSS6 := Lib.hid (HC.out.keepS HSS5.out hk6 (by simp)); clear hss6 hsb6 hk6)
    | (have _q := HS2; go_at_call 16; with_reducible refine (CL _ S1 lo (HC.out.keepS HS1.out HK7.out (by simp))).out.mono ?_; rintro e w8 ⟨c8, S1', rfl, hr8, hs8, hk8⟩; have HR8 := Lib.hid hr8; have HS8 := Lib.hid hs8; have HK8 := Lib.hid hk8; clear hr8 hs8 hk8)
    | (have _q := HK8; go_at_call 16; with_reducible refine (CH _ S2' hi (HC.out.keepS HS2.out HK8.out (fun x hx h1 => by have h2 := HSB7.out x hx; have h3 := HC.out.ltS HS1.out x h1; omega))).out.mono ?_; rintro e w9 ⟨c9, S2'', rfl, hr9, hs9, hk9⟩; have HR9 := Lib.hid hr9; have HS9 := Lib.hid hs9; have HK9 := Lib.hid hk9; clear hr9 hs9 hk9))
  have hcl1 := Span.cut_len HNRM.out (nn, 18446744073709551615)
  have hcl2 := Span.cut_len HNRM.out (0, nn)
  obtain ⟨m0, hm0⟩ : ∃ m0, m0 = Span.cut l (nn, 18446744073709551615) := ⟨_, rfl⟩
  obtain ⟨hs, hhs⟩ : ∃ hs, hs = Span.cut l (0, nn) := ⟨_, rfl⟩
  have HPARTS := Lib.hid (show Span.adds m0 hs = l by rw [hm0, hhs]; exact Span.parts HNRM.out HP64.out nn)
  have HHIGH := Lib.hid (show ∀ x ∈ hs, nn ≤ x.1 by rw [hhs]; exact fun x hx => Span.high HNRM.out nn x hx)
  rw [← hm0] at hcl1 HR8
  rw [← hhs] at hcl2 HR9
  have hm100 : m0.length ≤ 100 := by have := HLEN.out; omega
  have hh100 : hs.length ≤ 100 := by have := HLEN.out; omega
  clear hm0 hhs hcl1 hcl2 CP CL CH _q
  have HL8 := Lib.hid (show SS w8 S1' lo 1000 m0 by
    rcases HR8.out with h | h
    · exact h.2.2
    · have := h.1; omega)
  have HH9 := Lib.hid (show SS w9 S2'' hi 1000 hs by
    rcases HR9.out with h | h
    · exact h.2.2
    · have := h.1; omega)
  have HL9 := Lib.hid (HC.out.keepS HL8.out HK9.out (fun x hx h1 => by
    have h2 := HSB7.out x h1
    rcases HS8.out x hx with h3 | h3
    · have h4 := HC.out.ltS HS1.out x h3; omega
    · have h4 := HC.out.ltS HS2.out x h1; omega))
  have HLB := Lib.hid (show ∀ x ∈ S1', w5.heap.size ≤ x from fun x hx => by
    rcases HS8.out x hx with h3 | h3
    · exact HSB6.out x h3
    · have h1 := HK6.out.size; have h2 := HK7.out.size; omega)
  have HHB := Lib.hid (show ∀ x ∈ S2', w5.heap.size ≤ x from fun x hx => by have h1 := HSB7.out x hx; have h2 := HK6.out.size; omega)
  have HK59 := Lib.hid (show Keep [] w5 w9 from (((HK6.out.trans HK7.out).trans' HK8.out (fun q hq => .inr (HSB6.out q hq)))).trans' HK9.out (fun q hq => .inr (HHB.out q hq)))
  have HKW9 := Lib.hid (HK5.out.trans HK59.out)
  have H2L9 := Lib.hid (H2L5.out.keep0 HK59.out)
  have HDL := Lib.hid (show 0 < l.length → ∀ b, (Value.slice B k d).ownBlock = some b → b ∉ S1' from fun hl b hb h => by
    have h1 := H2L5.out.lt hl b hb
    have h2 := HLB.out b h
    omega)
  have LI := Lib.hid (HC.out.listS w9 S2'' hi 1000 hs HH9.out (by omega))
  clear HSB6 HSB7 HS1 HS2 HK6 HK7 HK8 HK9 HS8 HS9 HR8 HR9 HL8 H2L5 HSS5 HSS6 HSB3
  go_upto_block 4 with (go_at_call 18; with_reducible refine LI.out.mono ?_; rintro e w10 ⟨hv, rfl, h2h, hown10, hk10⟩; have H2H := Lib.hid h2h; have HOWN10 := Lib.hid hown10; have HK10 := Lib.hid hk10; obtain ⟨H, ch, rfl, hch1, hch2⟩ := h2h.at0; clear hown10 hk10)
  obtain ⟨nh, hnh⟩ : ∃ nh, nh = hs.length := ⟨_, rfl⟩
  have HNH := Lib.hid hnh
  rw [← hnh] at H2H HOWN10 hch1 hh100 ⊢
  have HDH := Lib.hid (show 0 < hs.length → ∀ b, (Value.slice H nh ch).ownBlock = some b → b ∉ S1' from fun _ b hb h => by
    have h1 := HOWN10.out b hb
    have h2 := HC.out.ltS HL9.out b h
    omega)
  have HL10 := Lib.hid (HC.out.keepS HL9.out HK10.out (by simp))
  have HKW10 := Lib.hid (HKW9.out.trans HK10.out)
  have H2L10 := Lib.hid (H2L9.out.keep0 HK10.out)
  have HLB0 := Lib.hid (show ∀ x ∈ S1', w.heap.size ≤ x from fun x hx => Nat.le_trans HK5.out.size (HLB.out x hx))
  clear hnh LI HL9 H2L9 HKW9 HK10 HOWN10 HLB HHB
  go_wp2_with fail
  refine OutX.use (parts_back HC.out (fun a' w' => ∃ SL', Fr 120 [(1, .int .u64 (nn : Nat)), (5, .pointer (some ⟨s, 0, none⟩)), (8, .slice B k d), (11, .pointer (some ⟨lo, 0, none⟩))] a' ∧ SS w' SL' lo 1000 l ∧ S2 w' (.slice B k d) l ∧ Keep [] w w') _ w w10 nn k d nh ch lo B H l m0 hs _ S1' HNH hm100 (by have := HNH.out; omega) HHIGH hnn H2L10 H2H HKW10 HL10 HLB0 HDL HDH
    ⟨rfl, rfl, by repeat (first | exact trivial | refine ⟨rfl, ?_⟩)⟩ (fun a' w' SL' h1 h2 h3 h4 h5 => ⟨SL', h1, by rw [HPARTS.out] at h2; exact h2, h4, h5⟩)) ?_
  rintro a' w11 ⟨SL', hF11, hss11, h2l11, hk11⟩
  have H2L11 := Lib.hid h2l11
  have HK11 := Lib.hid hk11
  have LI := Lib.hid (HC.out.listS w11 SL' lo 1000 l hss11 (by have := HLEN.out; omega))
  obtain ⟨fr, ⟨f1, f5, f8, f11, -⟩, rfl⟩ := hF11.open120
  simp only [f1, f5, f8, f11]
  clear f1 f5 f8 f11 hF11 hss11 h2l11 hk11 HL10 H2L10 H2H HKW10
  go_upto_block 6 with (go_at_call 18; with_reducible refine LI.out.mono ?_; rintro e w12 ⟨mv, rfl, h2m, -, hk12⟩; have H2M := Lib.hid h2m; have HK12 := Lib.hid (HK11.out.trans hk12); have H2L12 := Lib.hid (H2L11.out.keep0 hk12); obtain ⟨M, cm, rfl, hcm1, hcm2⟩ := h2m.at0; rw [← HKL.out]; clear hk12)
  rw [← HKL.out] at H2M hcm1
  clear LI H2L11 HK11
  go_wp2_with fail
  refine OutX.use (parts_eq_loop (fun a' w' => Fr 120 [(1, .int .u64 (nn : Nat)), (5, .pointer (some ⟨s, 0, none⟩))] a' ∧ Keep [] w12 w') _ w12 k cm d M B l _ _ _ HKL H2M H2L12
    ⟨rfl, rfl, by repeat (first | exact trivial | refine ⟨rfl, ?_⟩)⟩ (fun a' w' h1 h2 => ⟨h1, h2⟩)) ?_
  rintro a' w13 ⟨hF13, hk13⟩
  have HK13 := Lib.hid (HK12.out.trans hk13)
  obtain ⟨fr', ⟨f1, f5, -⟩, rfl⟩ := hF13.open120
  simp only [f1, f5]
  clear f1 f5 hF13 hk13
  go_wp2_with fail
  go_ret
  exact ⟨rfl, HK13.out⟩
end Go.Proofs.Ytpckbmebdhmfaaa
