/-
  SpanPlays: the loop over the numbers that are looked up.
-/
import Derived.Test.YtpckbmebdhmfaaaSpanJ
import Derived.Test.YtpckbmebdhmfaaaSpanA
namespace Go.Proofs.Ytpckbmebdhmfaaa
open Go.RowKit

theorem u64infB : (Try.prog.info? 24).map (fun i => (i.zero, i.size, i.bytes)) = some (some (.int .u64 0), 1, 8) := by kernel_rfl
theorem Sl.at64 {w : World} {A : Option Addr} {n c : Nat} {l : List Int} (h : Sl .u64 w (.slice A n c) l) (i : Nat) (hi : i < l.length) :
    ∃ b off q, A = some ⟨b, off, none⟩ ∧ q < 18446744073709551616 ∧ w.cell? ⟨b, off + i, none⟩ = some (.int .u64 (q : Nat)) := by
  obtain ⟨b, off, c', e, _, _, hc⟩ := h.cells (by omega)
  simp only [Value.slice.injEq] at e
  obtain ⟨rfl, _, _⟩ := e
  have hw := wf_u64 (h.wf _ (List.getElem_mem hi))
  refine ⟨b, off, (l[i]).toNat, rfl, by omega, ?_⟩
  rw [hc i hi]
  simp only [List.getElem?_eq_getElem hi, Option.getD_some, Option.some.injEq, Value.int.injEq, true_and]
  omega
theorem first_lt (l : List (Nat × Nat)) (q : Nat) (h : P64 l) (hq : q < 18446744073709551616) : ((Span.first l q).getD (0, 0)).1 < 18446744073709551616 ∧ ((Span.first l q).getD (0, 0)).2 < 18446744073709551616 := by
  induction l with
  | nil => simp [Span.first]
  | cons x l ih =>
    rw [Span.first]
    split
    · have := h x (by simp)
      exact ⟨by simp only [Option.getD_some]; omega, by simp only [Option.getD_some]; omega⟩
    · exact ih fun y hy => h y (by simp [hy])

noncomputable def hplaysL : Code := loopOf Try.f3 2
set_option maxRecDepth 100000 in
set_option maxHeartbeats 16000000 in
theorem plays_look {SS : World → List Nat → Nat → Nat → List (Nat × Nat) → Prop} (hC : Hid (SpanC SS)) (R : Act → World → Prop) (a : Act) (w2 : World) (S : List Nat) (s m n c N LC : Nat) (A LA : Option Addr) (l : List (Nat × Nat)) (ql : List Int) (v2 v7 : Value) (hn : Hid (n = l.length)) (hN : Hid (N = ql.length)) (hN6 : N ≤ 1000000) (hl6 : Hid (l.length ≤ 1000000)) (hA : Hid (S2 w2 (.slice A n c) l)) (hL : Hid (Sl .u64 w2 (.slice LA N LC) ql)) (hS : Hid (SS w2 S s m l))
    (hF : Fr 288 [(2, v2), (7, v7), (9, .pointer (some ⟨s, 0, none⟩)), (10, .slice A n c), (222, .slice LA N LC), (223, .int .i64 (N : Nat)), (224, .int .i64 0)] a)
    (hQ : ∀ a' w', Fr 288 [(2, v2)] a' → Keep [] w2 w' → R a' w') :
    Code.wp Try.prog (.loop hplaysL) (OutX 5 R) a w2 := by
  refine wp_loop_ghost_k (fun μ a wr => ∃ i : Nat, μ + i = N ∧ Fr 288 [(2, v2), (7, v7), (9, .pointer (some ⟨s, 0, none⟩)), (10, .slice A n c), (222, .slice LA N LC), (223, .int .i64 (N : Nat)), (224, .int .i64 i)] a ∧ Keep [] w2 wr)
    N ⟨0, by omega, hF, Keep.refl _ _⟩ ?_
  clear hF
  rintro μ a wr ⟨i, hmi, hFr, hk⟩ J K hJ hK1
  have HJ := Lib.hid hJ
  have HM := Lib.hid hmi
  have HK := Lib.hid hk
  have HQ := Lib.hid hQ
  obtain ⟨fr, ⟨f2, f7, f9, f10, f222, f223, f224, -⟩, rfl⟩ := hFr.open288
  simp only [f2, f7, f9, f10, f222, f223, f224]
  clear f2 f7 f9 f10 f222 f223 f224 hFr hJ hmi hk hQ
  conv => arg 2; whnf
  by_cases hi : i < N
  · have bi : (0 : Int) ≤ i ∧ (i : Int) < N := ⟨by omega, by omega⟩
    have hn63 : (N : Int) ≤ 9223372036854775807 := by omega
    have hwr : wrap64 ((i : Int) + 1) = (i : Int) + 1 := by unfold wrap64; omega
    obtain ⟨b, off, q, eA, hq, c0⟩ := (hL.out.keep0 HK.out).at64 i (by have := hN.out; omega)
    have bq := u64_lt hq
    have HSr := Lib.hid (hC.out.keepS hS.out HK.out (by simp))
    have HQL := Lib.hid hq
    have hfl := Lib.hid (first_lt l q hA.out.p64 hq)
    obtain ⟨f, hf⟩ : ∃ f, f = (Span.first l q).getD (0, 0) := ⟨_, rfl⟩
    obtain ⟨fb, hfb⟩ : ∃ fb, fb = (Span.first l q).isSome := ⟨_, rfl⟩
    obtain ⟨FA, hFA⟩ : ∃ FA, FA = (pc f).toArray := ⟨_, rfl⟩
    have HFA := Lib.hid hFA
    have HFE := Lib.hid hf
    have HFB := Lib.hid (show decide (0 < f.2) = fb by rw [hfb, hf, Span.first_some])
    rw [← hf] at hfl
    have FS := Lib.hid (show Calls Try.prog 24 #[.pointer (some ⟨s, 0, none⟩), .int .u64 (q : Nat)] wr fun e w' => e = .returned (.tuple #[.agg FA, .bool fb]) ∧ Keep [] wr w' by
      have := hC.out.firstS wr S s m q l HSr.out hl6.out hq
      unfold found at this
      rwa [pv_agg, ← hf, ← hfb, ← hFA] at this)
    subst eA
    clear hf hfb hFA hq
    go_upto_block 7 with (first
      | (go_at_call 24; with_reducible refine FS.out.mono ?_; rintro e w5 ⟨rfl, hk5⟩; have HK5 := Lib.hid hk5; clear hk5)
      | (have _q := HB7; refine wl_alloc_rowZ rfl _ rfl (pc (0, 0)).toArray 2 rrZ ?_; intro w8 hB8 hk8 hz8; have HB8 := Lib.hid hB8; have HK8 := Lib.hid hk8; clear hB8 hk8 hz8)
      | (refine wl_alloc_rowZ rfl _ rfl (pc (0, 0)).toArray 2 srZ ?_; intro w6 hB6 hk6 hz6; have HB6 := Lib.hid hB6; have HK6 := Lib.hid hk6; clear hB6 hk6 hz6)
      | (refine wl_store_row rfl _ _ _ rfl w5.heap.size rfl FA rfl _ _ HB6.out (by rw [HFA.out]; exact srSz) (by rw [HFA.out]; rfl) (by rw [HFA.out]; exact pc_all _) ?_; intro w7 hB7 hk7 hz7; have HB7 := Lib.hid hB7; have HK7 := Lib.hid hk7; clear hB7 hk7 hz7))
    have HK57 := Lib.hid (show Keep [] w5 w7 from HK6.out.trans' HK7.out (fun y hy => by right; simp at hy; omega))
    have HK17 := Lib.hid (HK5.out.trans HK57.out)
    have HZS := Lib.hid HK17.out.size
    have HK28 := Lib.hid ((HK.out.trans HK17.out).trans HK8.out)
    have HM8 := Lib.hid (show Blk w8 w5.heap.size 26 (pc f).toArray by rw [← HFA.out]; exact HB7.out.keep HK8.out (by simp))
    have HML := Lib.hid (show w5.heap.size < w7.heap.size from HB7.out.lt)
    obtain ⟨M, hM⟩ : ∃ M, M = w5.heap.size := ⟨_, rfl⟩
    obtain ⟨Z, hZ⟩ : ∃ Z, Z = w7.heap.size := ⟨_, rfl⟩
    rw [← hM] at HM8 HML
    rw [← hZ] at HB8 HZS HML
    rw [← hM, ← hZ]
    have HA8 := Lib.hid (hA.out.keep0 HK28.out)
    clear hM hZ HB6 HB7 HK5 HK6 HK7 HK57 HSr FS c0
    go_wp2_with fail
    refine OutX.use (plays_want (fun a' w' => Fr 288 [(2, v2), (7, v7), (9, .pointer (some ⟨s, 0, none⟩)), (10, .slice A n c), (29, .int .u64 (q : Nat)), (30, .pointer (some ⟨M, 0, none⟩)), (31, .bool fb), (32, .pointer (some ⟨Z, 0, none⟩)), (222, .slice (some ⟨b, off, none⟩) N LC), (223, .int .i64 (N : Nat)), (224, .int .i64 i)] a' ∧ Blk w' Z 36 (pc ((Span.first l q).getD (0, 0))).toArray ∧ Keep [Z] w8 w') _ w8 n c q Z A l _ _ _ _ _ _ _ _ hn HA8 HQL.out HB8
      ⟨rfl, rfl, by repeat (first | exact trivial | refine ⟨rfl, ?_⟩)⟩ (fun a' w' h1 h2 h3 => ⟨h1, h2, h3⟩)) ?_
    rintro a' w9 ⟨hF9, hz9, hk9⟩
    rw [← HFE.out] at hz9
    have HZ9 := Lib.hid hz9
    have HM9 := Lib.hid (HM8.out.keep hk9 (by have := HML.out; simp; omega))
    have HK9 := Lib.hid (show Keep [] w2 w9 from HK28.out.trans' hk9 (fun y hy => by right; have h1 := HK.out.size; have h2 := HZS.out; simp at hy; omega))
    have HS9 := Lib.hid (hC.out.keepS hS.out HK9.out (by simp))
    have HA9 := Lib.hid (hA.out.keep0 HK9.out)
    obtain ⟨fr', ⟨f2, f7, f9, f10, f29, f30, f31, f32, f222, f223, f224, -⟩, rfl⟩ := hF9.open288
    simp only [f2, f7, f9, f10, f29, f30, f31, f32, f222, f223, f224]
    clear f2 f7 f9 f10 f29 f30 f31 f32 f222 f223 f224 hF9 hz9 hk9 HK28 HM8 HB8 HA8 HK17 HK8
    simp only [Exit.inBlock, Exit.then, if_true]
    go_at_K
    go_upto_region 61 with fail
    obtain ⟨q3, hq3⟩ : ∃ q3, q3 = (q + 3) % 18446744073709551616 := ⟨_, rfl⟩
    have h3 : IntKind.u64.wrap ((q : Int) + 3) = ((q3 : Nat) : Int) := by
      rw [hq3]; simp only [IntKind.wrap, IntKind.bits, IntKind.signed]; simp
    have h3l : q3 < 18446744073709551616 := by omega
    clear hq3
    refine OutN.use (plays_r61 (fun a' w' => Fr 288 [(2, v2), (7, v7), (9, .pointer (some ⟨s, 0, none⟩)), (10, .slice A n c), (222, .slice (some ⟨b, off, none⟩) N LC), (223, .int .i64 (N : Nat)), (224, .int .i64 i), (286, .bool false)] a' ∧ Keep [] w9 w') _ w9 s M Z n c q q3 A (Span.hasB l q) (Span.covB l (q, q3)) fb f FA _ _ _ _ _ hfl.out HFB.out h3 HFA HM9 HZ9
      (Lib.hid fun W hW => hC.out.hasS W S s m q l (hC.out.keepS HS9.out hW (by simp)) hl6.out HQL.out)
      (Lib.hid fun W hW => (rhas_any _ l q W (HA9.out.keep0 hW) HQL.out hl6.out).mono fun e w' h => ⟨h.1, by rw [h.2]; exact Keep.refl _ _⟩)
      (Lib.hid fun W hW => by have := ref_any f W; rwa [pv_agg, ← HFA.out] at this)
      (Lib.hid fun W hW => hC.out.covS W S s m l (q, q3) (hC.out.keepS HS9.out hW (by simp)) hl6.out HQL.out h3l)
      (Lib.hid fun W hW => rcov_any _ l (q, q3) W (HA9.out.keep0 hW) HQL.out h3l hl6.out)
      ⟨rfl, rfl, by repeat (first | exact trivial | refine ⟨rfl, ?_⟩)⟩ (Lib.hid fun a' w' h1 h2 => ⟨h1, h2⟩)) ?_
    rintro a' w10 ⟨hF10, hk10⟩
    have HK10 := Lib.hid (HK9.out.trans hk10)
    obtain ⟨fr'', ⟨f2, f7, f9, f10, f222, f223, f224, f286, -⟩, rfl⟩ := hF10.open288
    simp only [f2, f7, f9, f10, f222, f223, f224, f286]
    clear f2 f7 f9 f10 f222 f223 f224 f286 hF10 hk10
    go_wp2_with fail
    exact Handed.intro (μ - 1) (by have := HM.out; omega) (HJ.out _ _ _ ⟨i + 1, by have := HM.out; omega, ⟨rfl, rfl, by repeat (first | exact trivial | refine ⟨rfl, ?_⟩)⟩, HK10.out⟩)
  · obtain rfl : i = N := by have := HM.out; omega
    go_wp2_with fail
    exact ⟨rfl, HQ.out _ _ ⟨rfl, rfl, by repeat (first | exact trivial | refine ⟨rfl, ?_⟩)⟩ HK.out⟩
end Go.Proofs.Ytpckbmebdhmfaaa
