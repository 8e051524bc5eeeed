/-
  SpanPlays: what comes behind the acts.
-/
import Derived.Test.YtpckbmebdhmfaaaSpanH
namespace Go.Proofs.Ytpckbmebdhmfaaa
open Go.RowKit

namespace Span
theorem cnt_append (l m : List R) : cnt (l ++ m) = cnt l + cnt m := by
  induction l with
  | nil => simp [cnt]
  | cons x l ih => rw [List.cons_append, cnt, cnt, ih]; omega
theorem cnt_take (l : List R) (i : Nat) (h : i < l.length) : cnt (l.take (i + 1)) = cnt (l.take i) + ((l.getD i (0, 0)).2 - (l.getD i (0, 0)).1) := by
  rw [List.take_add_one, cnt_append, List.getElem?_eq_getElem h, List.getD_eq_getElem?_getD, List.getElem?_eq_getElem h]
  simp [cnt]
theorem cnt_take_le (l : List R) (i : Nat) : cnt (l.take i) ≤ cnt l := by
  have := cnt_append (l.take i) (l.drop i)
  rw [List.take_append_drop] at this
  omega
theorem first_drop (l : List R) (n i : Nat) (h : i < l.length) (hx : ¬ n < (l.getD i (0, 0)).2) : first (l.drop i) n = first (l.drop (i + 1)) n := by
  rw [List.drop_eq_getElem_cons h, first]
  rw [List.getD_eq_getElem?_getD, List.getElem?_eq_getElem h] at hx
  simp only [Option.getD_some] at hx
  rw [if_neg hx]
theorem first_hit (l : List R) (n i : Nat) (h : i < l.length) (hx : n < (l.getD i (0, 0)).2) : first (l.drop i) n = some (max (l.getD i (0, 0)).1 n, (l.getD i (0, 0)).2) := by
  rw [List.drop_eq_getElem_cons h, first]
  rw [List.getD_eq_getElem?_getD, List.getElem?_eq_getElem h] at hx ⊢
  simp only [Option.getD_some] at hx ⊢
  rw [if_pos hx]
theorem first_lt {l : List R} (hl : ∀ x ∈ l, x.1 < 18446744073709551616 ∧ x.2 < 18446744073709551616) {n : Nat} (hn : n < 18446744073709551616) : ((first l n).getD (0, 0)).1 < 18446744073709551616 ∧ ((first l n).getD (0, 0)).2 < 18446744073709551616 := by
  induction l with
  | nil => exact ⟨by simp [first], by simp [first]⟩
  | cons x l ih =>
    rw [first]
    have := hl x (by simp)
    split
    · simp only [Option.getD_some]; omega
    · exact ih (fun y hy => hl y (by simp [hy]))
theorem first_some (l : List R) (n : Nat) : (first l n).isSome = decide (0 < ((first l n).getD (0, 0)).2) := by
  induction l with
  | nil => rfl
  | cons x l ih =>
    rw [first]
    split
    · next h => simp; omega
    · exact ih
end Span

noncomputable def hplaysS : Code := loopOf Try.f3 1
set_option maxRecDepth 100000 in
set_option maxHeartbeats 8000000 in
theorem plays_sum (R : Act → World → Prop) (a : Act) (w2 : World) (n c : Nat) (A : Option Addr) (l : List (Nat × Nat)) (v2 v7 v9 : Value) (hn : Hid (n = l.length)) (hA : Hid (S2 w2 (.slice A n c) l)) (hl : Hid (Span.Nrm l))
    (hF : Fr 288 [(2, v2), (7, v7), (9, v9), (10, .slice A n c), (23, .int .u64 0), (164, .slice A n c), (165, .int .i64 (n : Nat)), (166, .int .i64 0)] a)
    (hQ : ∀ a' w', Fr 288 [(2, v2), (7, v7), (9, v9), (10, .slice A n c), (23, .int .u64 (Span.cnt l : Nat))] a' → Keep [] w2 w' → R a' w') :
    Code.wp Try.prog (.loop hplaysS) (OutX 3 R) a w2 := by
  refine wp_loop_ghost_k (fun μ a wr => ∃ i : Nat, μ + i = n ∧ Fr 288 [(2, v2), (7, v7), (9, v9), (10, .slice A n c), (23, .int .u64 (Span.cnt (l.take i) : Nat)), (164, .slice A n c), (165, .int .i64 (n : Nat)), (166, .int .i64 i)] a ∧ Keep [] w2 wr)
    n ⟨0, by omega, hF, Keep.refl _ _⟩ ?_
  clear hF
  rintro μ a wr ⟨i, hmi, hFr, hk⟩ J K hJ hK1
  have HJ := Lib.hid hJ
  have HM := Lib.hid hmi
  have HK := Lib.hid hk
  have HQ := Lib.hid hQ
  obtain ⟨q, hq⟩ : ∃ q, q = Span.cnt (l.take i) := ⟨_, rfl⟩
  rw [← hq] at hFr
  have HQE := Lib.hid hq
  obtain ⟨fr, ⟨f2, f7, f9, f10, f23, f164, f165, f166, -⟩, rfl⟩ := hFr.open288
  simp only [f2, f7, f9, f10, f23, f164, f165, f166]
  clear f2 f7 f9 f10 f23 f164 f165 f166 hFr hJ hmi hk hQ hq
  conv => arg 2; whnf
  by_cases hi : i < n
  · have bi : (0 : Int) ≤ i ∧ (i : Int) < n := ⟨by omega, by omega⟩
    have hn63 : (n : Int) ≤ 9223372036854775807 := by
      obtain ⟨A', c', e, h1, h2, -⟩ := hA.out
      simp only [Value.slice.injEq] at e
      have := hn.out
      omega
    have hwr : wrap64 ((i : Int) + 1) = (i : Int) + 1 := by unfold wrap64; omega
    obtain ⟨b, off, eA, hb, c0, c1⟩ := (hA.out.keep0 HK.out).at i (by have := hn.out; omega)
    have hx := hA.out.p64.getD i
    have hpos := hl.out.posD i (by have := hn.out; omega)
    have hct := Span.cnt_take l i (by have := hn.out; omega)
    have hcb := Span.bounded hA.out.p64 hl.out
    have hcl := Span.cnt_take_le l (i + 1)
    obtain ⟨x, hxx⟩ : ∃ x, x = l.getD i (0, 0) := ⟨_, rfl⟩
    rw [← hxx] at c0 c1 hx hpos hct
    rw [← HQE.out] at hct
    have e1 : IntKind.u64.wrap (((x.2 : Nat) : Int) - ((x.1 : Nat) : Int)) = ((x.2 : Nat) : Int) - ((x.1 : Nat) : Int) := IntWalk.u64_in _ ⟨by omega, by omega⟩
    have e2 : IntKind.u64.wrap (((q : Nat) : Int) + (((x.2 : Nat) : Int) - ((x.1 : Nat) : Int))) = ((q : Nat) : Int) + (((x.2 : Nat) : Int) - ((x.1 : Nat) : Int)) := IntWalk.u64_in _ ⟨by omega, by omega⟩
    have HE := Lib.hid (show ((Span.cnt (l.take (i + 1)) : Nat) : Int) = ((q : Nat) : Int) + (((x.2 : Nat) : Int) - ((x.1 : Nat) : Int)) by rw [hct]; omega)
    subst eA
    obtain ⟨X, hX⟩ : ∃ X, X = (pc x).toArray := ⟨_, rfl⟩
    have HX := Lib.hid hX
    have HXS := Lib.hid (show X.size = 2 by rw [hX]; rfl)
    have HX1 := Lib.hid (show X.all (·.oneCell') = true by rw [hX]; exact pc_all x)
    clear hxx hX hct hcb hcl
    obtain ⟨T, hT⟩ : ∃ T, T = wr.heap.size := ⟨_, rfl⟩
    go_upto_region 45 with (first
      | (refine wl_load_pair rfl _ _ rfl b (off + i * 2) x rfl _ Try.underlying36 rfl rrSz c0 c1 ?_; rw [← HX.out])
      | (refine wl_alloc_rowZ rfl _ rfl (pc (0, 0)).toArray 2 rrZ ?_; intro w3 hB3 hk3 hz3; have HB3 := Lib.hid hB3; have HK3 := Lib.hid hk3; clear hB3 hk3 hz3)
      | (refine wl_store_row rfl _ _ _ rfl wr.heap.size rfl X rfl _ _ HB3.out (by rw [HXS.out]; exact rrSz) (by rw [HXS.out]; rfl) HX1.out ?_; intro w4 hB4 hk4 hz4; have HB4 := Lib.hid hB4; have HK4 := Lib.hid hk4; clear hB4 hk4 hz4))
    have HK4' := Lib.hid (show Keep [] wr w4 from HK3.out.trans' HK4.out (fun q hq => by right; simp at hq; omega))
    have HKW := Lib.hid (HK.out.trans HK4'.out)
    have HBT := (show Blk w4 T 36 (pc x).toArray by rw [hT, ← HX.out]; exact HB4.out)
    obtain ⟨t0, t1⟩ := HBT.pair
    rw [← hT]
    clear hT HB3 HB4 HK3 HK4 HBT c0 c1
    go_wp2_with fail
    exact Handed.intro (μ - 1) (by have := HM.out; omega) (HJ.out _ _ _ ⟨i + 1, by have := HM.out; omega, ⟨rfl, rfl, by rw [HE.out]; repeat (first | exact trivial | refine ⟨rfl, ?_⟩)⟩, HKW.out⟩)
  · obtain rfl : i = n := by have := HM.out; omega
    have HQE2 := Lib.hid (show q = Span.cnt l by rw [HQE.out, List.take_of_length_le (by have := hn.out; omega)])
    go_wp2_with fail
    exact ⟨rfl, HQ.out _ _ ⟨rfl, rfl, by rw [← HQE2.out]; repeat (first | exact trivial | refine ⟨rfl, ?_⟩)⟩ HK.out⟩

noncomputable def hplays48 : Code := regionOf Try.f3 48
set_option maxRecDepth 100000 in
set_option maxHeartbeats 8000000 in
theorem plays_r48e (R : Act → World → Prop) (a : Act) (w2 : World) (O s M n c q : Nat) (A : Option Addr) (cb : Bool) (o : Nat × Nat) (v2 : Value) (OA : Array Value)
    (hOA : Hid (OA = (pc o).toArray)) (hO : Hid (Blk w2 O 26 (pc o).toArray))
    (hCN : Hid (∀ W, Keep [] w2 W → Calls Try.prog 21 #[.pointer (some ⟨s, 0, none⟩)] W fun e w' => e = .returned (.int .u64 (q : Nat)) ∧ Keep [] W w'))
    (hCV : Hid (∀ W, Keep [] w2 W → Calls Try.prog 22 #[.pointer (some ⟨s, 0, none⟩), .agg OA] W fun e w' => e = .returned (.bool cb) ∧ Keep [] W w'))
    (hRO : Hid (∀ W, Keep [] w2 W → Calls Try.prog 12 #[.agg OA] W fun e w' => e = .returned (.agg OA) ∧ Keep [] W w'))
    (hRC : Hid (∀ W, Keep [] w2 W → Calls Try.prog 23 #[.slice A n c, .agg OA] W fun e w' => e = .returned (.bool cb) ∧ Keep [] W w'))
    (hn : n = 0)
    (hF : Fr 288 [(2, v2), (7, .pointer (some ⟨O, 0, none⟩)), (9, .pointer (some ⟨s, 0, none⟩)), (10, .slice A n c), (23, .int .u64 (q : Nat)), (26, .pointer (some ⟨M, 0, none⟩)), (27, .bool false)] a)
    (hR : Hid (∀ a' w', Fr 288 [(2, v2), (7, .pointer (some ⟨O, 0, none⟩)), (9, .pointer (some ⟨s, 0, none⟩)), (10, .slice A n c), (217, .bool false)] a' → Keep [] w2 w' → R a' w')) :
    Code.wp Try.prog hplays48 (OutN R) a w2 := by
  subst hn
  have LO : ∀ W, Keep [] w2 W → W.cell? ⟨O, 0, none⟩ = some (.int .u64 (o.1 : Nat)) ∧ W.cell? ⟨O, 0 + 1, none⟩ = some (.int .u64 (o.2 : Nat)) := fun W h => (hO.out.keep h (by simp)).pair
  obtain ⟨f, ⟨f2, f7, f9, f10, f23, f26, f27, -⟩, rfl⟩ := hF.open288
  simp only [f2, f7, f9, f10, f23, f26, f27]
  clear f2 f7 f9 f10 f23 f26 f27 hF
  conv => arg 2; whnf
  refine wp_region_any (by kernel_rfl) ?_
  change wpAny _ _ _ _ _ _ _ (World.drew _)
  obtain ⟨W0, hW0⟩ : ∃ W0, W0 = w2.drew := ⟨_, rfl⟩
  rw [← hW0]
  have hk0 : Keep [] w2 W0 := by rw [hW0]; exact (Keep.refl [] w2).drew
  clear hW0
  go_simp
  refine wpAny_take (i := 0) (v := ?_) rfl (by kernel_rfl) (by kernel_rfl) (by kernel_rfl) (fun _ _ _ h => h) (Or.inl ⟨by rfl, ?_⟩) ?_
  rotate_left
  · intro y; go_simp; try (with_reducible rfl)
  rotate_left
  go_simp
  refine wpAny_take (i := 2) (v := ?_) rfl (by kernel_rfl) (by kernel_rfl) (by kernel_rfl) (fun _ _ _ h => h) (Or.inl ⟨by rfl, ?_⟩) ?_
  rotate_left
  · intro y; go_simp; try (with_reducible rfl)
  rotate_left
  go_simp
  refine wpAny_ready (rs := [1]) (by kernel_rfl) (by simp) ?_
  refine AllReady.cons rfl (fun K hK => ?_) ?_
  ·
    apply step_wp
    · rfl
    refine ow_call _ _ _ (by kernel_rfl) (hCN.out _ hk0) ?_
    rintro e W1 ⟨rfl, hs1⟩
    refine ⟨_, rfl, ?_⟩
    have hk1 : Keep [] w2 W1 := hk0.trans hs1
    clear hs1
    apply hK
    clear hK K
    go_simp
    refine wpAny_take (i := 3) (v := ?_) rfl (by kernel_rfl) (by kernel_rfl) (by kernel_rfl) (fun _ _ _ h => h) (Or.inl ⟨by rfl, ?_⟩) ?_
    rotate_left
    · intro y; go_simp; try (with_reducible rfl)
    rotate_left
    go_simp
    refine wpAny_take (i := 4) (v := ?_) rfl (by kernel_rfl) (by kernel_rfl) (by kernel_rfl) (fun _ _ _ h => h) (Or.inl ⟨by rfl, ?_⟩) ?_
    rotate_left
    · intro y; go_simp; try (with_reducible rfl)
    rotate_left
    go_simp
    refine wpAny_take (i := 5) (v := ?_) rfl (by kernel_rfl) (by kernel_rfl) (by kernel_rfl) (fun _ _ _ h => h) (Or.inl ⟨by rfl, ?_⟩) ?_
    rotate_left
    · intro y; go_simp; try (with_reducible rfl)
    rotate_left
    go_simp
    refine wpAny_take (i := 6) (v := ?_) rfl (by kernel_rfl) (by kernel_rfl) (by kernel_rfl) (fun _ _ _ h => h) (Or.inl ⟨by rfl, ?_⟩) ?_
    rotate_left
    · intro y; go_simp; try (with_reducible rfl)
    rotate_left
    go_simp
    refine wpAny_take (i := 7) (v := ?_) rfl (by kernel_rfl) (by kernel_rfl) (by kernel_rfl) (fun _ _ _ h => h) (Or.inl ⟨by rfl, ?_⟩) ?_
    rotate_left
    · intro y; go_simp; try (with_reducible rfl)
    rotate_left
    go_simp
    refine wpAny_take (i := 8) (v := ?_) rfl (by kernel_rfl) (by kernel_rfl) (by kernel_rfl) (fun _ _ _ h => h) (Or.inl ⟨by rfl, ?_⟩) ?_
    rotate_left
    · intro y; go_simp; try (with_reducible rfl)
    rotate_left
    go_simp
    refine wpAny_take (i := 9) (v := ?_) rfl (by kernel_rfl) (by kernel_rfl) (by kernel_rfl) (fun _ _ _ h => h) (Or.inl ⟨by rfl, ?_⟩) ?_
    rotate_left
    · intro y; go_simp; try (with_reducible rfl)
    rotate_left
    go_simp
    refine wpAny_take (i := 10) (v := ?_) rfl (by kernel_rfl) (by kernel_rfl) (by kernel_rfl) (fun _ _ _ h => h) (Or.inl ⟨by rfl, ?_⟩) ?_
    rotate_left
    · intro y; go_simp; try (with_reducible rfl)
    rotate_left
    go_simp
    refine wpAny_take (i := 11) (v := ?_) rfl (by kernel_rfl) (by kernel_rfl) (by kernel_rfl) (fun _ _ _ h => h) (Or.inl ⟨by rfl, ?_⟩) ?_
    rotate_left
    · intro y; go_simp; try (with_reducible rfl)
    rotate_left
    go_simp
    refine wpAny_take (i := 12) (v := ?_) rfl (by kernel_rfl) (by kernel_rfl) (by kernel_rfl) (fun _ _ _ h => h) (Or.inl ⟨by rfl, ?_⟩) ?_
    rotate_left
    · intro y; go_simp; try (with_reducible rfl)
    rotate_left
    go_simp
    refine wpAny_take (i := 13) (v := ?_) rfl (by kernel_rfl) (by kernel_rfl) (by kernel_rfl) (fun _ _ _ h => h) (Or.inl ⟨by rfl, ?_⟩) ?_
    rotate_left
    · intro y; go_simp; try (with_reducible rfl)
    rotate_left
    go_simp
    refine wpAny_take (i := 14) (v := undef) rfl (by kernel_rfl) (by kernel_rfl) (by kernel_rfl) (fun _ _ _ h => h) (Or.inr ⟨by rfl, rfl⟩) ?_
    go_simp
    refine wpAny_take (i := 15) (v := undef) rfl (by kernel_rfl) (by kernel_rfl) (by kernel_rfl) (fun _ _ _ h => h) (Or.inr ⟨by rfl, rfl⟩) ?_
    go_simp
    refine wpAny_take (i := 16) (v := undef) rfl (by kernel_rfl) (by kernel_rfl) (by kernel_rfl) (fun _ _ _ h => h) (Or.inr ⟨by rfl, rfl⟩) ?_
    go_simp
    refine wpAny_take (i := 17) (v := undef) rfl (by kernel_rfl) (by kernel_rfl) (by kernel_rfl) (fun _ _ _ h => h) (Or.inr ⟨by rfl, rfl⟩) ?_
    go_simp
    refine wpAny_take (i := 18) (v := undef) rfl (by kernel_rfl) (by kernel_rfl) (by kernel_rfl) (fun _ _ _ h => h) (Or.inr ⟨by rfl, rfl⟩) ?_
    go_simp
    refine wpAny_take (i := 19) (v := undef) rfl (by kernel_rfl) (by kernel_rfl) (by kernel_rfl) (fun _ _ _ h => h) (Or.inr ⟨by rfl, rfl⟩) ?_
    go_simp
    refine wpAny_take (i := 20) (v := undef) rfl (by kernel_rfl) (by kernel_rfl) (by kernel_rfl) (fun _ _ _ h => h) (Or.inr ⟨by rfl, rfl⟩) ?_
    go_simp
    refine wpAny_take (i := 21) (v := undef) rfl (by kernel_rfl) (by kernel_rfl) (by kernel_rfl) (fun _ _ _ h => h) (Or.inr ⟨by rfl, rfl⟩) ?_
    go_simp
    refine wpAny_take (i := 22) (v := undef) rfl (by kernel_rfl) (by kernel_rfl) (by kernel_rfl) (fun _ _ _ h => h) (Or.inr ⟨by rfl, rfl⟩) ?_
    go_simp
    refine wpAny_take (i := 23) (v := ?_) rfl (by kernel_rfl) (by kernel_rfl) (by kernel_rfl) (fun _ _ _ h => h) (Or.inl ⟨by rfl, ?_⟩) ?_
    rotate_left
    · intro y; go_simp; try (with_reducible rfl)
    rotate_left
    go_simp
    refine wpAny_take (i := 24) (v := ?_) rfl (by kernel_rfl) (by kernel_rfl) (by kernel_rfl) (fun _ _ _ h => h) (Or.inl ⟨by rfl, ?_⟩) ?_
    rotate_left
    · intro y; go_simp; try (with_reducible rfl)
    rotate_left
    go_simp
    refine wpAny_take (i := 25) (v := ?_) rfl (by kernel_rfl) (by kernel_rfl) (by kernel_rfl) (fun _ _ _ h => h) (Or.inl ⟨by rfl, ?_⟩) ?_
    rotate_left
    · intro y; go_simp; try (with_reducible rfl)
    rotate_left
    go_simp
    refine wpAny_take (i := 26) (v := ?_) rfl (by kernel_rfl) (by kernel_rfl) (by kernel_rfl) (fun _ _ _ h => h) (Or.inl ⟨by rfl, ?_⟩) ?_
    rotate_left
    · intro y; go_simp; try (with_reducible rfl)
    rotate_left
    go_simp
    refine wpAny_take (i := 29) (v := ?_) rfl (by kernel_rfl) (by kernel_rfl) (by kernel_rfl) (fun _ _ _ h => h) (Or.inl ⟨by rfl, ?_⟩) ?_
    rotate_left
    · intro y; go_simp; try (with_reducible rfl)
    rotate_left
    go_simp
    refine wpAny_ready (rs := [27, 30]) (by kernel_rfl) (by simp) ?_
    refine AllReady.cons rfl (fun K hK => ?_) ?_
    ·
      apply step_wpG
      · rfl
      refine ow_load_pair _ _ rfl O 0 o rfl _ Try.underlying26 rfl srSz (LO _ hk1).1 (LO _ hk1).2 ?_
      rw [← hOA.out]
      apply hK
      clear hK K
      go_simp
      refine wpAny_ready (rs := [28, 30]) (by kernel_rfl) (by simp) ?_
      refine AllReady.cons rfl (fun K hK => ?_) ?_
      ·
        apply step_wpG
        · rfl
        refine ow_call _ _ _ (by kernel_rfl) (hCV.out _ hk1) ?_
        rintro e W28 ⟨rfl, hs28⟩
        refine ⟨_, rfl, ?_⟩
        have hk28 : Keep [] w2 W28 := hk1.trans hs28
        clear hs28
        apply hK
        clear hK K
        go_simp
        refine wpAny_ready (rs := [30]) (by kernel_rfl) (by simp) ?_
        refine AllReady.cons rfl (fun K hK => ?_) ?_
        ·
          apply step_wpG
          · rfl
          refine ow_load_pair _ _ rfl O 0 o rfl _ Try.underlying26 rfl srSz (LO _ hk28).1 (LO _ hk28).2 ?_
          rw [← hOA.out]
          apply hK
          clear hK K
          go_simp
          refine wpAny_ready (rs := [31]) (by kernel_rfl) (by simp) ?_
          refine AllReady.cons rfl (fun K hK => ?_) ?_
          ·
            apply step_wpG
            · rfl
            refine ow_call _ _ _ (by kernel_rfl) (hRO.out _ hk28) ?_
            rintro e W31 ⟨rfl, hs31⟩
            refine ⟨_, rfl, ?_⟩
            have hk31 : Keep [] w2 W31 := hk28.trans hs31
            clear hs31
            apply hK
            clear hK K
            go_simp
            refine wpAny_ready (rs := [32]) (by kernel_rfl) (by simp) ?_
            refine AllReady.cons rfl (fun K hK => ?_) ?_
            ·
              apply step_wpG
              · rfl
              refine ow_call _ _ _ (by kernel_rfl) (hRC.out _ hk31) ?_
              rintro e W32 ⟨rfl, hs32⟩
              refine ⟨_, rfl, ?_⟩
              have hk32 : Keep [] w2 W32 := hk31.trans hs32
              clear hs32
              apply hK
              clear hK K
              go_simp
              refine wpAny_take (i := 33) (v := ?_) rfl (by kernel_rfl) (by kernel_rfl) (by kernel_rfl) (fun _ _ _ h => h) (Or.inl ⟨by rfl, ?_⟩) ?_
              rotate_left
              · intro y; go_simp; try (with_reducible rfl)
              rotate_left
              go_simp
              refine wpAny_take (i := 34) (v := ?_) rfl (by kernel_rfl) (by kernel_rfl) (by kernel_rfl) (fun _ _ _ h => h) (Or.inl ⟨by rfl, ?_⟩) ?_
              rotate_left
              · intro y; go_simp; try (with_reducible rfl)
              rotate_left
              go_simp
              refine wpAny_done (by kernel_rfl) ?_ _
              exact hR.out _ _ ⟨rfl, rfl, by repeat (first | exact trivial | refine ⟨rfl, ?_⟩)⟩ hk32
            exact AllReady.nil
          exact AllReady.nil
        exact AllReady.nil
      refine AllReady.cons rfl (fun K hK => ?_) ?_
      ·
        apply step_wpG
        · rfl
        refine ow_load_pair _ _ rfl O 0 o rfl _ Try.underlying26 rfl srSz (LO _ hk1).1 (LO _ hk1).2 ?_
        rw [← hOA.out]
        apply hK
        clear hK K
        go_simp
        refine wpAny_ready (rs := [28]) (by kernel_rfl) (by simp) ?_
        refine AllReady.cons rfl (fun K hK => ?_) ?_
        ·
          apply step_wpG
          · rfl
          refine ow_call _ _ _ (by kernel_rfl) (hCV.out _ hk1) ?_
          rintro e W28 ⟨rfl, hs28⟩
          refine ⟨_, rfl, ?_⟩
          have hk28 : Keep [] w2 W28 := hk1.trans hs28
          clear hs28
          apply hK
          clear hK K
          go_simp
          refine wpAny_ready (rs := [31]) (by kernel_rfl) (by simp) ?_
          refine AllReady.cons rfl (fun K hK => ?_) ?_
          ·
            apply step_wpG
            · rfl
            refine ow_call _ _ _ (by kernel_rfl) (hRO.out _ hk28) ?_
            rintro e W31 ⟨rfl, hs31⟩
            refine ⟨_, rfl, ?_⟩
            have hk31 : Keep [] w2 W31 := hk28.trans hs31
            clear hs31
            apply hK
            clear hK K
            go_simp
            refine wpAny_ready (rs := [32]) (by kernel_rfl) (by simp) ?_
            refine AllReady.cons rfl (fun K hK => ?_) ?_
            ·
              apply step_wpG
              · rfl
              refine ow_call _ _ _ (by kernel_rfl) (hRC.out _ hk31) ?_
              rintro e W32 ⟨rfl, hs32⟩
              refine ⟨_, rfl, ?_⟩
              have hk32 : Keep [] w2 W32 := hk31.trans hs32
              clear hs32
              apply hK
              clear hK K
              go_simp
              refine wpAny_take (i := 33) (v := ?_) rfl (by kernel_rfl) (by kernel_rfl) (by kernel_rfl) (fun _ _ _ h => h) (Or.inl ⟨by rfl, ?_⟩) ?_
              rotate_left
              · intro y; go_simp; try (with_reducible rfl)
              rotate_left
              go_simp
              refine wpAny_take (i := 34) (v := ?_) rfl (by kernel_rfl) (by kernel_rfl) (by kernel_rfl) (fun _ _ _ h => h) (Or.inl ⟨by rfl, ?_⟩) ?_
              rotate_left
              · intro y; go_simp; try (with_reducible rfl)
              rotate_left
              go_simp
              refine wpAny_done (by kernel_rfl) ?_ _
              exact hR.out _ _ ⟨rfl, rfl, by repeat (first | exact trivial | refine ⟨rfl, ?_⟩)⟩ hk32
            exact AllReady.nil
          exact AllReady.nil
        exact AllReady.nil
      exact AllReady.nil
    refine AllReady.cons rfl (fun K hK => ?_) ?_
    ·
      apply step_wpG
      · rfl
      refine ow_load_pair _ _ rfl O 0 o rfl _ Try.underlying26 rfl srSz (LO _ hk1).1 (LO _ hk1).2 ?_
      rw [← hOA.out]
      apply hK
      clear hK K
      go_simp
      refine wpAny_ready (rs := [27]) (by kernel_rfl) (by simp) ?_
      refine AllReady.cons rfl (fun K hK => ?_) ?_
      ·
        apply step_wpG
        · rfl
        refine ow_load_pair _ _ rfl O 0 o rfl _ Try.underlying26 rfl srSz (LO _ hk1).1 (LO _ hk1).2 ?_
        rw [← hOA.out]
        apply hK
        clear hK K
        go_simp
        refine wpAny_ready (rs := [28]) (by kernel_rfl) (by simp) ?_
        refine AllReady.cons rfl (fun K hK => ?_) ?_
        ·
          apply step_wpG
          · rfl
          refine ow_call _ _ _ (by kernel_rfl) (hCV.out _ hk1) ?_
          rintro e W28 ⟨rfl, hs28⟩
          refine ⟨_, rfl, ?_⟩
          have hk28 : Keep [] w2 W28 := hk1.trans hs28
          clear hs28
          apply hK
          clear hK K
          go_simp
          refine wpAny_ready (rs := [31]) (by kernel_rfl) (by simp) ?_
          refine AllReady.cons rfl (fun K hK => ?_) ?_
          ·
            apply step_wpG
            · rfl
            refine ow_call _ _ _ (by kernel_rfl) (hRO.out _ hk28) ?_
            rintro e W31 ⟨rfl, hs31⟩
            refine ⟨_, rfl, ?_⟩
            have hk31 : Keep [] w2 W31 := hk28.trans hs31
            clear hs31
            apply hK
            clear hK K
            go_simp
            refine wpAny_ready (rs := [32]) (by kernel_rfl) (by simp) ?_
            refine AllReady.cons rfl (fun K hK => ?_) ?_
            ·
              apply step_wpG
              · rfl
              refine ow_call _ _ _ (by kernel_rfl) (hRC.out _ hk31) ?_
              rintro e W32 ⟨rfl, hs32⟩
              refine ⟨_, rfl, ?_⟩
              have hk32 : Keep [] w2 W32 := hk31.trans hs32
              clear hs32
              apply hK
              clear hK K
              go_simp
              refine wpAny_take (i := 33) (v := ?_) rfl (by kernel_rfl) (by kernel_rfl) (by kernel_rfl) (fun _ _ _ h => h) (Or.inl ⟨by rfl, ?_⟩) ?_
              rotate_left
              · intro y; go_simp; try (with_reducible rfl)
              rotate_left
              go_simp
              refine wpAny_take (i := 34) (v := ?_) rfl (by kernel_rfl) (by kernel_rfl) (by kernel_rfl) (fun _ _ _ h => h) (Or.inl ⟨by rfl, ?_⟩) ?_
              rotate_left
              · intro y; go_simp; try (with_reducible rfl)
              rotate_left
              go_simp
              refine wpAny_done (by kernel_rfl) ?_ _
              exact hR.out _ _ ⟨rfl, rfl, by repeat (first | exact trivial | refine ⟨rfl, ?_⟩)⟩ hk32
            exact AllReady.nil
          exact AllReady.nil
        exact AllReady.nil
      exact AllReady.nil
    exact AllReady.nil
  exact AllReady.nil

set_option maxRecDepth 100000 in
set_option maxHeartbeats 8000000 in
theorem plays_r48n (R : Act → World → Prop) (a : Act) (w2 : World) (O s M n c q : Nat) (A : Option Addr) (cb : Bool) (o : Nat × Nat) (v2 : Value) (OA : Array Value)
    (hOA : Hid (OA = (pc o).toArray)) (hO : Hid (Blk w2 O 26 (pc o).toArray))
    (hCN : Hid (∀ W, Keep [] w2 W → Calls Try.prog 21 #[.pointer (some ⟨s, 0, none⟩)] W fun e w' => e = .returned (.int .u64 (q : Nat)) ∧ Keep [] W w'))
    (hCV : Hid (∀ W, Keep [] w2 W → Calls Try.prog 22 #[.pointer (some ⟨s, 0, none⟩), .agg OA] W fun e w' => e = .returned (.bool cb) ∧ Keep [] W w'))
    (hRO : Hid (∀ W, Keep [] w2 W → Calls Try.prog 12 #[.agg OA] W fun e w' => e = .returned (.agg OA) ∧ Keep [] W w'))
    (hRC : Hid (∀ W, Keep [] w2 W → Calls Try.prog 23 #[.slice A n c, .agg OA] W fun e w' => e = .returned (.bool cb) ∧ Keep [] W w'))
    (b off : Nat) (y : Nat × Nat) (YA : Array Value) (eA : A = some ⟨b, off, none⟩) (hn : 0 < n) (hn63 : (n : Int) ≤ 9223372036854775807) (hb : b < w2.heap.size) (hy : y.1 < 18446744073709551616 ∧ y.2 < 18446744073709551616)
    (hYA : Hid (YA = (pc y).toArray)) (hM : Hid (Blk w2 M 26 (pc y).toArray)) (g0 : Hid (w2.cell? ⟨b, off + (n - 1) * 2, none⟩ = some (.int .u64 (y.1 : Nat)))) (g1 : Hid (w2.cell? ⟨b, off + (n - 1) * 2 + 1, none⟩ = some (.int .u64 (y.2 : Nat))))
    (hRL : Hid (∀ W, Keep [] w2 W → Calls Try.prog 12 #[.agg YA] W fun e w' => e = .returned (.agg YA) ∧ Keep [] W w'))
    (hF : Fr 288 [(2, v2), (7, .pointer (some ⟨O, 0, none⟩)), (9, .pointer (some ⟨s, 0, none⟩)), (10, .slice A n c), (23, .int .u64 (q : Nat)), (26, .pointer (some ⟨M, 0, none⟩)), (27, .bool true)] a)
    (hR : Hid (∀ a' w', Fr 288 [(2, v2), (7, .pointer (some ⟨O, 0, none⟩)), (9, .pointer (some ⟨s, 0, none⟩)), (10, .slice A n c), (217, .bool false)] a' → Keep [] w2 w' → R a' w')) :
    Code.wp Try.prog hplays48 (OutN R) a w2 := by
  subst eA
  have LO : ∀ W, Keep [] w2 W → W.cell? ⟨O, 0, none⟩ = some (.int .u64 (o.1 : Nat)) ∧ W.cell? ⟨O, 0 + 1, none⟩ = some (.int .u64 (o.2 : Nat)) := fun W h => (hO.out.keep h (by simp)).pair
  have LM : ∀ W, Keep [] w2 W → W.cell? ⟨M, 0, none⟩ = some (.int .u64 (y.1 : Nat)) ∧ W.cell? ⟨M, 0 + 1, none⟩ = some (.int .u64 (y.2 : Nat)) := fun W h => (hM.out.keep h (by simp)).pair
  have LY : ∀ W, Keep [] w2 W → W.cell? ⟨b, off + (n - 1) * 2, none⟩ = some (.int .u64 (y.1 : Nat)) ∧ W.cell? ⟨b, off + (n - 1) * 2 + 1, none⟩ = some (.int .u64 (y.2 : Nat)) := fun W h => ⟨(h.cell (p := ⟨b, off + (n - 1) * 2, none⟩) hb (by simp)).trans g0.out, (h.cell (p := ⟨b, off + (n - 1) * 2 + 1, none⟩) hb (by simp)).trans g1.out⟩
  have EQ : ∀ W, (Op.equalIn 10000 36 (.agg YA) (.agg YA)).run Try.prog W = .ok true W := fun W => by
    have := rrEq 9998 y y hy hy W
    rw [decide_eq_true rfl] at this
    rw [hYA.out]; exact this
  have hn1 : (0 : Int) < (n : Int) := by omega
  have hnd : decide ((0 : Int) < (n : Int)) = true := decide_eq_true hn1
  have hn2 : (1 : Int) ≤ (n : Int) := by omega
  have hw1 : IntKind.i64.wrap ((n : Int) - 1) = (n : Int) - 1 := IntWalk.i64_in _ ⟨by omega, by omega⟩
  have hw2 : ((n : Int) - 1).toNat = n - 1 := by omega
  have bj : (0 : Int) ≤ (n : Int) - 1 ∧ (n : Int) - 1 < n := ⟨by omega, by omega⟩
  obtain ⟨f, ⟨f2, f7, f9, f10, f23, f26, f27, -⟩, rfl⟩ := hF.open288
  simp only [f2, f7, f9, f10, f23, f26, f27]
  clear f2 f7 f9 f10 f23 f26 f27 hF
  conv => arg 2; whnf
  refine wp_region_any (by kernel_rfl) ?_
  change wpAny _ _ _ _ _ _ _ (World.drew _)
  obtain ⟨W0, hW0⟩ : ∃ W0, W0 = w2.drew := ⟨_, rfl⟩
  rw [← hW0]
  have hk0 : Keep [] w2 W0 := by rw [hW0]; exact (Keep.refl [] w2).drew
  clear hW0
  go_simp
  refine wpAny_take (i := 0) (v := ?_) rfl (by kernel_rfl) (by kernel_rfl) (by kernel_rfl) (fun _ _ _ h => h) (Or.inl ⟨by rfl, ?_⟩) ?_
  rotate_left
  · intro y; go_simp; try (with_reducible rfl)
  rotate_left
  go_simp
  refine wpAny_take (i := 2) (v := ?_) rfl (by kernel_rfl) (by kernel_rfl) (by kernel_rfl) (fun _ _ _ h => h) (Or.inl ⟨by rfl, ?_⟩) ?_
  rotate_left
  · intro y; go_simp; try (with_reducible rfl)
  rotate_left
  go_simp
  refine wpAny_ready (rs := [1]) (by kernel_rfl) (by simp) ?_
  refine AllReady.cons rfl (fun K hK => ?_) ?_
  ·
    apply step_wp
    · rfl
    refine ow_call _ _ _ (by kernel_rfl) (hCN.out _ hk0) ?_
    rintro e W1 ⟨rfl, hs1⟩
    refine ⟨_, rfl, ?_⟩
    have hk1 : Keep [] w2 W1 := hk0.trans hs1
    clear hs1
    apply hK
    clear hK K
    go_simp
    refine wpAny_take (i := 3) (v := ?_) rfl (by kernel_rfl) (by kernel_rfl) (by kernel_rfl) (fun _ _ _ h => h) (Or.inl ⟨by rfl, ?_⟩) ?_
    rotate_left
    · intro y; go_simp; try (with_reducible rfl)
    rotate_left
    go_simp
    refine wpAny_take (i := 4) (v := ?_) rfl (by kernel_rfl) (by kernel_rfl) (by kernel_rfl) (fun _ _ _ h => h) (Or.inl ⟨by rfl, ?_⟩) ?_
    rotate_left
    · intro y; go_simp; try (with_reducible rfl)
    rotate_left
    go_simp
    refine wpAny_take (i := 5) (v := ?_) rfl (by kernel_rfl) (by kernel_rfl) (by kernel_rfl) (fun _ _ _ h => h) (Or.inl ⟨by rfl, ?_⟩) ?_
    rotate_left
    · intro y; go_simp; try (with_reducible rfl)
    rotate_left
    go_simp
    refine wpAny_take (i := 6) (v := ?_) rfl (by kernel_rfl) (by kernel_rfl) (by kernel_rfl) (fun _ _ _ h => h) (Or.inl ⟨by rfl, ?_⟩) ?_
    rotate_left
    · intro y; go_simp; try (with_reducible rfl)
    rotate_left
    go_simp
    refine wpAny_take (i := 7) (v := ?_) rfl (by kernel_rfl) (by kernel_rfl) (by kernel_rfl) (fun _ _ _ h => h) (Or.inl ⟨by rfl, ?_⟩) ?_
    rotate_left
    · intro y; go_simp; try (with_reducible rfl)
    rotate_left
    go_simp
    refine wpAny_take (i := 8) (v := ?_) rfl (by kernel_rfl) (by kernel_rfl) (by kernel_rfl) (fun _ _ _ h => h) (Or.inl ⟨by rfl, ?_⟩) ?_
    rotate_left
    · intro y; go_simp; try (with_reducible rfl)
    rotate_left
    go_simp
    refine wpAny_take (i := 9) (v := ?_) rfl (by kernel_rfl) (by kernel_rfl) (by kernel_rfl) (fun _ _ _ h => h) (Or.inl ⟨by rfl, ?_⟩) ?_
    rotate_left
    · intro y; go_simp; try (with_reducible rfl)
    rotate_left
    go_simp
    refine wpAny_take (i := 10) (v := ?_) rfl (by kernel_rfl) (by kernel_rfl) (by kernel_rfl) (fun _ _ _ h => h) (Or.inl ⟨by rfl, ?_⟩) ?_
    rotate_left
    · intro y; go_simp; try (with_reducible rfl)
    rotate_left
    go_simp
    refine wpAny_take (i := 11) (v := ?_) rfl (by kernel_rfl) (by kernel_rfl) (by kernel_rfl) (fun _ _ _ h => h) (Or.inl ⟨by rfl, ?_⟩) ?_
    rotate_left
    · intro y; go_simp; try (with_reducible rfl)
    rotate_left
    go_simp
    refine wpAny_take (i := 12) (v := ?_) rfl (by kernel_rfl) (by kernel_rfl) (by kernel_rfl) (fun _ _ _ h => h) (Or.inl ⟨by rfl, ?_⟩) ?_
    rotate_left
    · intro y; go_simp; try (with_reducible rfl)
    rotate_left
    go_simp
    refine wpAny_take (i := 13) (v := ?_) rfl (by kernel_rfl) (by kernel_rfl) (by kernel_rfl) (fun _ _ _ h => h) (Or.inl ⟨by rfl, ?_⟩) ?_
    rotate_left
    · intro y; go_simp; try (with_reducible rfl)
    rotate_left
    go_simp
    refine wpAny_take (i := 16) (v := ?_) rfl (by kernel_rfl) (by kernel_rfl) (by kernel_rfl) (fun _ _ _ h => h) (Or.inl ⟨by rfl, ?_⟩) ?_
    rotate_left
    · intro y; go_simp; try (with_reducible rfl)
    rotate_left
    go_simp
    refine wpAny_take (i := 17) (v := ?_) rfl (by kernel_rfl) (by kernel_rfl) (by kernel_rfl) (fun _ _ _ h => h) (Or.inl ⟨by rfl, ?_⟩) ?_
    rotate_left
    · intro y; go_simp; try (with_reducible rfl)
    rotate_left
    go_simp
    refine wpAny_take (i := 18) (v := ?_) rfl (by kernel_rfl) (by kernel_rfl) (by kernel_rfl) (fun _ _ _ h => h) (Or.inl ⟨by rfl, ?_⟩) ?_
    rotate_left
    · intro y; go_simp; try (with_reducible rfl)
    rotate_left
    go_simp
    refine wpAny_take (i := 19) (v := ?_) rfl (by kernel_rfl) (by kernel_rfl) (by kernel_rfl) (fun _ _ _ h => h) (Or.inl ⟨by rfl, ?_⟩) ?_
    rotate_left
    · intro y; go_simp; try (with_reducible rfl)
    rotate_left
    go_simp
    refine wpAny_take (i := 20) (v := ?_) rfl (by kernel_rfl) (by kernel_rfl) (by kernel_rfl) (fun _ _ _ h => h) (Or.inl ⟨by rfl, ?_⟩) ?_
    rotate_left
    · intro y; go_simp; try (with_reducible rfl)
    rotate_left
    go_simp
    refine wpAny_ready (rs := [14, 21]) (by kernel_rfl) (by simp) ?_
    refine AllReady.cons rfl (fun K hK => ?_) ?_
    ·
      apply step_wpG
      · rfl
      refine ow_load_pair _ _ rfl M 0 y rfl _ Try.underlying26 rfl srSz (LM _ hk1).1 (LM _ hk1).2 ?_
      rw [← hYA.out]
      apply hK
      clear hK K
      go_simp
      refine wpAny_ready (rs := [15, 21]) (by kernel_rfl) (by simp) ?_
      refine AllReady.cons rfl (fun K hK => ?_) ?_
      ·
        apply step_wpG
        · rfl
        refine ow_call _ _ _ (by kernel_rfl) (hRL.out _ hk1) ?_
        rintro e W15 ⟨rfl, hs15⟩
        refine ⟨_, rfl, ?_⟩
        have hk15 : Keep [] w2 W15 := hk1.trans hs15
        clear hs15
        apply hK
        clear hK K
        go_simp
        refine wpAny_ready (rs := [21]) (by kernel_rfl) (by simp) ?_
        refine AllReady.cons rfl (fun K hK => ?_) ?_
        ·
          apply step_wpG
          · rfl
          refine ow_load_pair _ _ rfl b (off + (n - 1) * 2) y rfl _ Try.underlying36 rfl rrSz (LY _ hk15).1 (LY _ hk15).2 ?_
          rw [← hYA.out]
          apply hK
          clear hK K
          go_simp
          refine wpAny_take (i := 22) (v := ?_) rfl (by kernel_rfl) (by kernel_rfl) (by kernel_rfl) (fun _ _ _ h => h) (Or.inl ⟨by rfl, ?_⟩) ?_
          rotate_left
          · intro y; go_simp; try (with_reducible rfl)
          rotate_left
          go_simp
          refine wpAny_take (i := 23) (v := ?_) rfl (by kernel_rfl) (by kernel_rfl) (by kernel_rfl) (fun _ _ _ h => h) (Or.inl ⟨by rfl, ?_⟩) ?_
          rotate_left
          · intro y; go_simp; try (with_reducible rfl)
          rotate_left
          go_simp
          refine wpAny_take (i := 24) (v := ?_) rfl (by kernel_rfl) (by kernel_rfl) (by kernel_rfl) (fun _ _ _ h => h) (Or.inl ⟨by rfl, ?_⟩) ?_
          rotate_left
          · intro y; go_simp; try (with_reducible rfl)
          rotate_left
          go_simp
          refine wpAny_take (i := 25) (v := ?_) rfl (by kernel_rfl) (by kernel_rfl) (by kernel_rfl) (fun _ _ _ h => h) (Or.inl ⟨by rfl, ?_⟩) ?_
          rotate_left
          · intro y; go_simp; try (with_reducible rfl)
          rotate_left
          go_simp
          refine wpAny_take (i := 26) (v := ?_) rfl (by kernel_rfl) (by kernel_rfl) (by kernel_rfl) (fun _ _ _ h => h) (Or.inl ⟨by rfl, ?_⟩) ?_
          rotate_left
          · intro y; go_simp; try (with_reducible rfl)
          rotate_left
          go_simp
          refine wpAny_take (i := 29) (v := ?_) rfl (by kernel_rfl) (by kernel_rfl) (by kernel_rfl) (fun _ _ _ h => h) (Or.inl ⟨by rfl, ?_⟩) ?_
          rotate_left
          · intro y; go_simp; try (with_reducible rfl)
          rotate_left
          go_simp
          refine wpAny_ready (rs := [27, 30]) (by kernel_rfl) (by simp) ?_
          refine AllReady.cons rfl (fun K hK => ?_) ?_
          ·
            apply step_wpG
            · rfl
            refine ow_load_pair _ _ rfl O 0 o rfl _ Try.underlying26 rfl srSz (LO _ hk15).1 (LO _ hk15).2 ?_
            rw [← hOA.out]
            apply hK
            clear hK K
            go_simp
            refine wpAny_ready (rs := [28, 30]) (by kernel_rfl) (by simp) ?_
            refine AllReady.cons rfl (fun K hK => ?_) ?_
            ·
              apply step_wpG
              · rfl
              refine ow_call _ _ _ (by kernel_rfl) (hCV.out _ hk15) ?_
              rintro e W28 ⟨rfl, hs28⟩
              refine ⟨_, rfl, ?_⟩
              have hk28 : Keep [] w2 W28 := hk15.trans hs28
              clear hs28
              apply hK
              clear hK K
              go_simp
              refine wpAny_ready (rs := [30]) (by kernel_rfl) (by simp) ?_
              refine AllReady.cons rfl (fun K hK => ?_) ?_
              ·
                apply step_wpG
                · rfl
                refine ow_load_pair _ _ rfl O 0 o rfl _ Try.underlying26 rfl srSz (LO _ hk28).1 (LO _ hk28).2 ?_
                rw [← hOA.out]
                apply hK
                clear hK K
                go_simp
                refine wpAny_ready (rs := [31]) (by kernel_rfl) (by simp) ?_
                refine AllReady.cons rfl (fun K hK => ?_) ?_
                ·
                  apply step_wpG
                  · rfl
                  refine ow_call _ _ _ (by kernel_rfl) (hRO.out _ hk28) ?_
                  rintro e W31 ⟨rfl, hs31⟩
                  refine ⟨_, rfl, ?_⟩
                  have hk31 : Keep [] w2 W31 := hk28.trans hs31
                  clear hs31
                  apply hK
                  clear hK K
                  go_simp
                  refine wpAny_ready (rs := [32]) (by kernel_rfl) (by simp) ?_
                  refine AllReady.cons rfl (fun K hK => ?_) ?_
                  ·
                    apply step_wpG
                    · rfl
                    refine ow_call _ _ _ (by kernel_rfl) (hRC.out _ hk31) ?_
                    rintro e W32 ⟨rfl, hs32⟩
                    refine ⟨_, rfl, ?_⟩
                    have hk32 : Keep [] w2 W32 := hk31.trans hs32
                    clear hs32
                    apply hK
                    clear hK K
                    go_simp
                    refine wpAny_take (i := 33) (v := ?_) rfl (by kernel_rfl) (by kernel_rfl) (by kernel_rfl) (fun _ _ _ h => h) (Or.inl ⟨by rfl, ?_⟩) ?_
                    rotate_left
                    · intro y; go_simp; try (with_reducible rfl)
                    rotate_left
                    go_simp
                    refine wpAny_take (i := 34) (v := ?_) rfl (by kernel_rfl) (by kernel_rfl) (by kernel_rfl) (fun _ _ _ h => h) (Or.inl ⟨by rfl, ?_⟩) ?_
                    rotate_left
                    · intro y; go_simp; try (with_reducible rfl)
                    rotate_left
                    go_simp
                    refine wpAny_done (by kernel_rfl) ?_ _
                    exact hR.out _ _ ⟨rfl, rfl, by repeat (first | exact trivial | refine ⟨rfl, ?_⟩)⟩ hk32
                  exact AllReady.nil
                exact AllReady.nil
              exact AllReady.nil
            refine AllReady.cons rfl (fun K hK => ?_) ?_
            ·
              apply step_wpG
              · rfl
              refine ow_load_pair _ _ rfl O 0 o rfl _ Try.underlying26 rfl srSz (LO _ hk15).1 (LO _ hk15).2 ?_
              rw [← hOA.out]
              apply hK
              clear hK K
              go_simp
              refine wpAny_ready (rs := [28]) (by kernel_rfl) (by simp) ?_
              refine AllReady.cons rfl (fun K hK => ?_) ?_
              ·
                apply step_wpG
                · rfl
                refine ow_call _ _ _ (by kernel_rfl) (hCV.out _ hk15) ?_
                rintro e W28 ⟨rfl, hs28⟩
                refine ⟨_, rfl, ?_⟩
                have hk28 : Keep [] w2 W28 := hk15.trans hs28
                clear hs28
                apply hK
                clear hK K
                go_simp
                refine wpAny_ready (rs := [31]) (by kernel_rfl) (by simp) ?_
                refine AllReady.cons rfl (fun K hK => ?_) ?_
                ·
                  apply step_wpG
                  · rfl
                  refine ow_call _ _ _ (by kernel_rfl) (hRO.out _ hk28) ?_
                  rintro e W31 ⟨rfl, hs31⟩
                  refine ⟨_, rfl, ?_⟩
                  have hk31 : Keep [] w2 W31 := hk28.trans hs31
                  clear hs31
                  apply hK
                  clear hK K
                  go_simp
                  refine wpAny_ready (rs := [32]) (by kernel_rfl) (by simp) ?_
                  refine AllReady.cons rfl (fun K hK => ?_) ?_
                  ·
                    apply step_wpG
                    · rfl
                    refine ow_call _ _ _ (by kernel_rfl) (hRC.out _ hk31) ?_
                    rintro e W32 ⟨rfl, hs32⟩
                    refine ⟨_, rfl, ?_⟩
                    have hk32 : Keep [] w2 W32 := hk31.trans hs32
                    clear hs32
                    apply hK
                    clear hK K
                    go_simp
                    refine wpAny_take (i := 33) (v := ?_) rfl (by kernel_rfl) (by kernel_rfl) (by kernel_rfl) (fun _ _ _ h => h) (Or.inl ⟨by rfl, ?_⟩) ?_
                    rotate_left
                    · intro y; go_simp; try (with_reducible rfl)
                    rotate_left
                    go_simp
                    refine wpAny_take (i := 34) (v := ?_) rfl (by kernel_rfl) (by kernel_rfl) (by kernel_rfl) (fun _ _ _ h => h) (Or.inl ⟨by rfl, ?_⟩) ?_
                    rotate_left
                    · intro y; go_simp; try (with_reducible rfl)
                    rotate_left
                    go_simp
                    refine wpAny_done (by kernel_rfl) ?_ _
                    exact hR.out _ _ ⟨rfl, rfl, by repeat (first | exact trivial | refine ⟨rfl, ?_⟩)⟩ hk32
                  exact AllReady.nil
                exact AllReady.nil
              exact AllReady.nil
            exact AllReady.nil
          refine AllReady.cons rfl (fun K hK => ?_) ?_
          ·
            apply step_wpG
            · rfl
            refine ow_load_pair _ _ rfl O 0 o rfl _ Try.underlying26 rfl srSz (LO _ hk15).1 (LO _ hk15).2 ?_
            rw [← hOA.out]
            apply hK
            clear hK K
            go_simp
            refine wpAny_ready (rs := [27]) (by kernel_rfl) (by simp) ?_
            refine AllReady.cons rfl (fun K hK => ?_) ?_
            ·
              apply step_wpG
              · rfl
              refine ow_load_pair _ _ rfl O 0 o rfl _ Try.underlying26 rfl srSz (LO _ hk15).1 (LO _ hk15).2 ?_
              rw [← hOA.out]
              apply hK
              clear hK K
              go_simp
              refine wpAny_ready (rs := [28]) (by kernel_rfl) (by simp) ?_
              refine AllReady.cons rfl (fun K hK => ?_) ?_
              ·
                apply step_wpG
                · rfl
                refine ow_call _ _ _ (by kernel_rfl) (hCV.out _ hk15) ?_
                rintro e W28 ⟨rfl, hs28⟩
                refine ⟨_, rfl, ?_⟩
                have hk28 : Keep [] w2 W28 := hk15.trans hs28
                clear hs28
                apply hK
                clear hK K
                go_simp
                refine wpAny_ready (rs := [31]) (by kernel_rfl) (by simp) ?_
                refine AllReady.cons rfl (fun K hK => ?_) ?_
                ·
                  apply step_wpG
                  · rfl
                  refine ow_call _ _ _ (by kernel_rfl) (hRO.out _ hk28) ?_
                  rintro e W31 ⟨rfl, hs31⟩
                  refine ⟨_, rfl, ?_⟩
                  have hk31 : Keep [] w2 W31 := hk28.trans hs31
                  clear hs31
                  apply hK
                  clear hK K
                  go_simp
                  refine wpAny_ready (rs := [32]) (by kernel_rfl) (by simp) ?_
                  refine AllReady.cons rfl (fun K hK => ?_) ?_
                  ·
                    apply step_wpG
                    · rfl
                    refine ow_call _ _ _ (by kernel_rfl) (hRC.out _ hk31) ?_
                    rintro e W32 ⟨rfl, hs32⟩
                    refine ⟨_, rfl, ?_⟩
                    have hk32 : Keep [] w2 W32 := hk31.trans hs32
                    clear hs32
                    apply hK
                    clear hK K
                    go_simp
                    refine wpAny_take (i := 33) (v := ?_) rfl (by kernel_rfl) (by kernel_rfl) (by kernel_rfl) (fun _ _ _ h => h) (Or.inl ⟨by rfl, ?_⟩) ?_
                    rotate_left
                    · intro y; go_simp; try (with_reducible rfl)
                    rotate_left
                    go_simp
                    refine wpAny_take (i := 34) (v := ?_) rfl (by kernel_rfl) (by kernel_rfl) (by kernel_rfl) (fun _ _ _ h => h) (Or.inl ⟨by rfl, ?_⟩) ?_
                    rotate_left
                    · intro y; go_simp; try (with_reducible rfl)
                    rotate_left
                    go_simp
                    refine wpAny_done (by kernel_rfl) ?_ _
                    exact hR.out _ _ ⟨rfl, rfl, by repeat (first | exact trivial | refine ⟨rfl, ?_⟩)⟩ hk32
                  exact AllReady.nil
                exact AllReady.nil
              exact AllReady.nil
            exact AllReady.nil
          exact AllReady.nil
        exact AllReady.nil
      refine AllReady.cons rfl (fun K hK => ?_) ?_
      ·
        apply step_wpG
        · rfl
        refine ow_load_pair _ _ rfl b (off + (n - 1) * 2) y rfl _ Try.underlying36 rfl rrSz (LY _ hk1).1 (LY _ hk1).2 ?_
        rw [← hYA.out]
        apply hK
        clear hK K
        go_simp
        refine wpAny_ready (rs := [15]) (by kernel_rfl) (by simp) ?_
        refine AllReady.cons rfl (fun K hK => ?_) ?_
        ·
          apply step_wpG
          · rfl
          refine ow_call _ _ _ (by kernel_rfl) (hRL.out _ hk1) ?_
          rintro e W15 ⟨rfl, hs15⟩
          refine ⟨_, rfl, ?_⟩
          have hk15 : Keep [] w2 W15 := hk1.trans hs15
          clear hs15
          apply hK
          clear hK K
          go_simp
          refine wpAny_take (i := 22) (v := ?_) rfl (by kernel_rfl) (by kernel_rfl) (by kernel_rfl) (fun _ _ _ h => h) (Or.inl ⟨by rfl, ?_⟩) ?_
          rotate_left
          · intro y; go_simp; try (with_reducible rfl)
          rotate_left
          go_simp
          refine wpAny_take (i := 23) (v := ?_) rfl (by kernel_rfl) (by kernel_rfl) (by kernel_rfl) (fun _ _ _ h => h) (Or.inl ⟨by rfl, ?_⟩) ?_
          rotate_left
          · intro y; go_simp; try (with_reducible rfl)
          rotate_left
          go_simp
          refine wpAny_take (i := 24) (v := ?_) rfl (by kernel_rfl) (by kernel_rfl) (by kernel_rfl) (fun _ _ _ h => h) (Or.inl ⟨by rfl, ?_⟩) ?_
          rotate_left
          · intro y; go_simp; try (with_reducible rfl)
          rotate_left
          go_simp
          refine wpAny_take (i := 25) (v := ?_) rfl (by kernel_rfl) (by kernel_rfl) (by kernel_rfl) (fun _ _ _ h => h) (Or.inl ⟨by rfl, ?_⟩) ?_
          rotate_left
          · intro y; go_simp; try (with_reducible rfl)
          rotate_left
          go_simp
          refine wpAny_take (i := 26) (v := ?_) rfl (by kernel_rfl) (by kernel_rfl) (by kernel_rfl) (fun _ _ _ h => h) (Or.inl ⟨by rfl, ?_⟩) ?_
          rotate_left
          · intro y; go_simp; try (with_reducible rfl)
          rotate_left
          go_simp
          refine wpAny_take (i := 29) (v := ?_) rfl (by kernel_rfl) (by kernel_rfl) (by kernel_rfl) (fun _ _ _ h => h) (Or.inl ⟨by rfl, ?_⟩) ?_
          rotate_left
          · intro y; go_simp; try (with_reducible rfl)
          rotate_left
          go_simp
          refine wpAny_ready (rs := [27, 30]) (by kernel_rfl) (by simp) ?_
          refine AllReady.cons rfl (fun K hK => ?_) ?_
          ·
            apply step_wpG
            · rfl
            refine ow_load_pair _ _ rfl O 0 o rfl _ Try.underlying26 rfl srSz (LO _ hk15).1 (LO _ hk15).2 ?_
            rw [← hOA.out]
            apply hK
            clear hK K
            go_simp
            refine wpAny_ready (rs := [28, 30]) (by kernel_rfl) (by simp) ?_
            refine AllReady.cons rfl (fun K hK => ?_) ?_
            ·
              apply step_wpG
              · rfl
              refine ow_call _ _ _ (by kernel_rfl) (hCV.out _ hk15) ?_
              rintro e W28 ⟨rfl, hs28⟩
              refine ⟨_, rfl, ?_⟩
              have hk28 : Keep [] w2 W28 := hk15.trans hs28
              clear hs28
              apply hK
              clear hK K
              go_simp
              refine wpAny_ready (rs := [30]) (by kernel_rfl) (by simp) ?_
              refine AllReady.cons rfl (fun K hK => ?_) ?_
              ·
                apply step_wpG
                · rfl
                refine ow_load_pair _ _ rfl O 0 o rfl _ Try.underlying26 rfl srSz (LO _ hk28).1 (LO _ hk28).2 ?_
                rw [← hOA.out]
                apply hK
                clear hK K
                go_simp
                refine wpAny_ready (rs := [31]) (by kernel_rfl) (by simp) ?_
                refine AllReady.cons rfl (fun K hK => ?_) ?_
                ·
                  apply step_wpG
                  · rfl
                  refine ow_call _ _ _ (by kernel_rfl) (hRO.out _ hk28) ?_
                  rintro e W31 ⟨rfl, hs31⟩
                  refine ⟨_, rfl, ?_⟩
                  have hk31 : Keep [] w2 W31 := hk28.trans hs31
                  clear hs31
                  apply hK
                  clear hK K
                  go_simp
                  refine wpAny_ready (rs := [32]) (by kernel_rfl) (by simp) ?_
                  refine AllReady.cons rfl (fun K hK => ?_) ?_
                  ·
                    apply step_wpG
                    · rfl
                    refine ow_call _ _ _ (by kernel_rfl) (hRC.out _ hk31) ?_
                    rintro e W32 ⟨rfl, hs32⟩
                    refine ⟨_, rfl, ?_⟩
                    have hk32 : Keep [] w2 W32 := hk31.trans hs32
                    clear hs32
                    apply hK
                    clear hK K
                    go_simp
                    refine wpAny_take (i := 33) (v := ?_) rfl (by kernel_rfl) (by kernel_rfl) (by kernel_rfl) (fun _ _ _ h => h) (Or.inl ⟨by rfl, ?_⟩) ?_
                    rotate_left
                    · intro y; go_simp; try (with_reducible rfl)
                    rotate_left
                    go_simp
                    refine wpAny_take (i := 34) (v := ?_) rfl (by kernel_rfl) (by kernel_rfl) (by kernel_rfl) (fun _ _ _ h => h) (Or.inl ⟨by rfl, ?_⟩) ?_
                    rotate_left
                    · intro y; go_simp; try (with_reducible rfl)
                    rotate_left
                    go_simp
                    refine wpAny_done (by kernel_rfl) ?_ _
                    exact hR.out _ _ ⟨rfl, rfl, by repeat (first | exact trivial | refine ⟨rfl, ?_⟩)⟩ hk32
                  exact AllReady.nil
                exact AllReady.nil
              exact AllReady.nil
            refine AllReady.cons rfl (fun K hK => ?_) ?_
            ·
              apply step_wpG
              · rfl
              refine ow_load_pair _ _ rfl O 0 o rfl _ Try.underlying26 rfl srSz (LO _ hk15).1 (LO _ hk15).2 ?_
              rw [← hOA.out]
              apply hK
              clear hK K
              go_simp
              refine wpAny_ready (rs := [28]) (by kernel_rfl) (by simp) ?_
              refine AllReady.cons rfl (fun K hK => ?_) ?_
              ·
                apply step_wpG
                · rfl
                refine ow_call _ _ _ (by kernel_rfl) (hCV.out _ hk15) ?_
                rintro e W28 ⟨rfl, hs28⟩
                refine ⟨_, rfl, ?_⟩
                have hk28 : Keep [] w2 W28 := hk15.trans hs28
                clear hs28
                apply hK
                clear hK K
                go_simp
                refine wpAny_ready (rs := [31]) (by kernel_rfl) (by simp) ?_
                refine AllReady.cons rfl (fun K hK => ?_) ?_
                ·
                  apply step_wpG
                  · rfl
                  refine ow_call _ _ _ (by kernel_rfl) (hRO.out _ hk28) ?_
                  rintro e W31 ⟨rfl, hs31⟩
                  refine ⟨_, rfl, ?_⟩
                  have hk31 : Keep [] w2 W31 := hk28.trans hs31
                  clear hs31
                  apply hK
                  clear hK K
                  go_simp
                  refine wpAny_ready (rs := [32]) (by kernel_rfl) (by simp) ?_
                  refine AllReady.cons rfl (fun K hK => ?_) ?_
                  ·
                    apply step_wpG
                    · rfl
                    refine ow_call _ _ _ (by kernel_rfl) (hRC.out _ hk31) ?_
                    rintro e W32 ⟨rfl, hs32⟩
                    refine ⟨_, rfl, ?_⟩
                    have hk32 : Keep [] w2 W32 := hk31.trans hs32
                    clear hs32
                    apply hK
                    clear hK K
                    go_simp
                    refine wpAny_take (i := 33) (v := ?_) rfl (by kernel_rfl) (by kernel_rfl) (by kernel_rfl) (fun _ _ _ h => h) (Or.inl ⟨by rfl, ?_⟩) ?_
                    rotate_left
                    · intro y; go_simp; try (with_reducible rfl)
                    rotate_left
                    go_simp
                    refine wpAny_take (i := 34) (v := ?_) rfl (by kernel_rfl) (by kernel_rfl) (by kernel_rfl) (fun _ _ _ h => h) (Or.inl ⟨by rfl, ?_⟩) ?_
                    rotate_left
                    · intro y; go_simp; try (with_reducible rfl)
                    rotate_left
                    go_simp
                    refine wpAny_done (by kernel_rfl) ?_ _
                    exact hR.out _ _ ⟨rfl, rfl, by repeat (first | exact trivial | refine ⟨rfl, ?_⟩)⟩ hk32
                  exact AllReady.nil
                exact AllReady.nil
              exact AllReady.nil
            exact AllReady.nil
          refine AllReady.cons rfl (fun K hK => ?_) ?_
          ·
            apply step_wpG
            · rfl
            refine ow_load_pair _ _ rfl O 0 o rfl _ Try.underlying26 rfl srSz (LO _ hk15).1 (LO _ hk15).2 ?_
            rw [← hOA.out]
            apply hK
            clear hK K
            go_simp
            refine wpAny_ready (rs := [27]) (by kernel_rfl) (by simp) ?_
            refine AllReady.cons rfl (fun K hK => ?_) ?_
            ·
              apply step_wpG
              · rfl
              refine ow_load_pair _ _ rfl O 0 o rfl _ Try.underlying26 rfl srSz (LO _ hk15).1 (LO _ hk15).2 ?_
              rw [← hOA.out]
              apply hK
              clear hK K
              go_simp
              refine wpAny_ready (rs := [28]) (by kernel_rfl) (by simp) ?_
              refine AllReady.cons rfl (fun K hK => ?_) ?_
              ·
                apply step_wpG
                · rfl
                refine ow_call _ _ _ (by kernel_rfl) (hCV.out _ hk15) ?_
                rintro e W28 ⟨rfl, hs28⟩
                refine ⟨_, rfl, ?_⟩
                have hk28 : Keep [] w2 W28 := hk15.trans hs28
                clear hs28
                apply hK
                clear hK K
                go_simp
                refine wpAny_ready (rs := [31]) (by kernel_rfl) (by simp) ?_
                refine AllReady.cons rfl (fun K hK => ?_) ?_
                ·
                  apply step_wpG
                  · rfl
                  refine ow_call _ _ _ (by kernel_rfl) (hRO.out _ hk28) ?_
                  rintro e W31 ⟨rfl, hs31⟩
                  refine ⟨_, rfl, ?_⟩
                  have hk31 : Keep [] w2 W31 := hk28.trans hs31
                  clear hs31
                  apply hK
                  clear hK K
                  go_simp
                  refine wpAny_ready (rs := [32]) (by kernel_rfl) (by simp) ?_
                  refine AllReady.cons rfl (fun K hK => ?_) ?_
                  ·
                    apply step_wpG
                    · rfl
                    refine ow_call _ _ _ (by kernel_rfl) (hRC.out _ hk31) ?_
                    rintro e W32 ⟨rfl, hs32⟩
                    refine ⟨_, rfl, ?_⟩
                    have hk32 : Keep [] w2 W32 := hk31.trans hs32
                    clear hs32
                    apply hK
                    clear hK K
                    go_simp
                    refine wpAny_take (i := 33) (v := ?_) rfl (by kernel_rfl) (by kernel_rfl) (by kernel_rfl) (fun _ _ _ h => h) (Or.inl ⟨by rfl, ?_⟩) ?_
                    rotate_left
                    · intro y; go_simp; try (with_reducible rfl)
                    rotate_left
                    go_simp
                    refine wpAny_take (i := 34) (v := ?_) rfl (by kernel_rfl) (by kernel_rfl) (by kernel_rfl) (fun _ _ _ h => h) (Or.inl ⟨by rfl, ?_⟩) ?_
                    rotate_left
                    · intro y; go_simp; try (with_reducible rfl)
                    rotate_left
                    go_simp
                    refine wpAny_done (by kernel_rfl) ?_ _
                    exact hR.out _ _ ⟨rfl, rfl, by repeat (first | exact trivial | refine ⟨rfl, ?_⟩)⟩ hk32
                  exact AllReady.nil
                exact AllReady.nil
              exact AllReady.nil
            exact AllReady.nil
          exact AllReady.nil
        exact AllReady.nil
      exact AllReady.nil
    refine AllReady.cons rfl (fun K hK => ?_) ?_
    ·
      apply step_wpG
      · rfl
      refine ow_load_pair _ _ rfl b (off + (n - 1) * 2) y rfl _ Try.underlying36 rfl rrSz (LY _ hk1).1 (LY _ hk1).2 ?_
      rw [← hYA.out]
      apply hK
      clear hK K
      go_simp
      refine wpAny_ready (rs := [14]) (by kernel_rfl) (by simp) ?_
      refine AllReady.cons rfl (fun K hK => ?_) ?_
      ·
        apply step_wpG
        · rfl
        refine ow_load_pair _ _ rfl M 0 y rfl _ Try.underlying26 rfl srSz (LM _ hk1).1 (LM _ hk1).2 ?_
        rw [← hYA.out]
        apply hK
        clear hK K
        go_simp
        refine wpAny_ready (rs := [15]) (by kernel_rfl) (by simp) ?_
        refine AllReady.cons rfl (fun K hK => ?_) ?_
        ·
          apply step_wpG
          · rfl
          refine ow_call _ _ _ (by kernel_rfl) (hRL.out _ hk1) ?_
          rintro e W15 ⟨rfl, hs15⟩
          refine ⟨_, rfl, ?_⟩
          have hk15 : Keep [] w2 W15 := hk1.trans hs15
          clear hs15
          apply hK
          clear hK K
          go_simp
          refine wpAny_take (i := 22) (v := ?_) rfl (by kernel_rfl) (by kernel_rfl) (by kernel_rfl) (fun _ _ _ h => h) (Or.inl ⟨by rfl, ?_⟩) ?_
          rotate_left
          · intro y; go_simp; try (with_reducible rfl)
          rotate_left
          go_simp
          refine wpAny_take (i := 23) (v := ?_) rfl (by kernel_rfl) (by kernel_rfl) (by kernel_rfl) (fun _ _ _ h => h) (Or.inl ⟨by rfl, ?_⟩) ?_
          rotate_left
          · intro y; go_simp; try (with_reducible rfl)
          rotate_left
          go_simp
          refine wpAny_take (i := 24) (v := ?_) rfl (by kernel_rfl) (by kernel_rfl) (by kernel_rfl) (fun _ _ _ h => h) (Or.inl ⟨by rfl, ?_⟩) ?_
          rotate_left
          · intro y; go_simp; try (with_reducible rfl)
          rotate_left
          go_simp
          refine wpAny_take (i := 25) (v := ?_) rfl (by kernel_rfl) (by kernel_rfl) (by kernel_rfl) (fun _ _ _ h => h) (Or.inl ⟨by rfl, ?_⟩) ?_
          rotate_left
          · intro y; go_simp; try (with_reducible rfl)
          rotate_left
          go_simp
          refine wpAny_take (i := 26) (v := ?_) rfl (by kernel_rfl) (by kernel_rfl) (by kernel_rfl) (fun _ _ _ h => h) (Or.inl ⟨by rfl, ?_⟩) ?_
          rotate_left
          · intro y; go_simp; try (with_reducible rfl)
          rotate_left
          go_simp
          refine wpAny_take (i := 29) (v := ?_) rfl (by kernel_rfl) (by kernel_rfl) (by kernel_rfl) (fun _ _ _ h => h) (Or.inl ⟨by rfl, ?_⟩) ?_
          rotate_left
          · intro y; go_simp; try (with_reducible rfl)
          rotate_left
          go_simp
          refine wpAny_ready (rs := [27, 30]) (by kernel_rfl) (by simp) ?_
          refine AllReady.cons rfl (fun K hK => ?_) ?_
          ·
            apply step_wpG
            · rfl
            refine ow_load_pair _ _ rfl O 0 o rfl _ Try.underlying26 rfl srSz (LO _ hk15).1 (LO _ hk15).2 ?_
            rw [← hOA.out]
            apply hK
            clear hK K
            go_simp
            refine wpAny_ready (rs := [28, 30]) (by kernel_rfl) (by simp) ?_
            refine AllReady.cons rfl (fun K hK => ?_) ?_
            ·
              apply step_wpG
              · rfl
              refine ow_call _ _ _ (by kernel_rfl) (hCV.out _ hk15) ?_
              rintro e W28 ⟨rfl, hs28⟩
              refine ⟨_, rfl, ?_⟩
              have hk28 : Keep [] w2 W28 := hk15.trans hs28
              clear hs28
              apply hK
              clear hK K
              go_simp
              refine wpAny_ready (rs := [30]) (by kernel_rfl) (by simp) ?_
              refine AllReady.cons rfl (fun K hK => ?_) ?_
              ·
                apply step_wpG
                · rfl
                refine ow_load_pair _ _ rfl O 0 o rfl _ Try.underlying26 rfl srSz (LO _ hk28).1 (LO _ hk28).2 ?_
                rw [← hOA.out]
                apply hK
                clear hK K
                go_simp
                refine wpAny_ready (rs := [31]) (by kernel_rfl) (by simp) ?_
                refine AllReady.cons rfl (fun K hK => ?_) ?_
                ·
                  apply step_wpG
                  · rfl
                  refine ow_call _ _ _ (by kernel_rfl) (hRO.out _ hk28) ?_
                  rintro e W31 ⟨rfl, hs31⟩
                  refine ⟨_, rfl, ?_⟩
                  have hk31 : Keep [] w2 W31 := hk28.trans hs31
                  clear hs31
                  apply hK
                  clear hK K
                  go_simp
                  refine wpAny_ready (rs := [32]) (by kernel_rfl) (by simp) ?_
                  refine AllReady.cons rfl (fun K hK => ?_) ?_
                  ·
                    apply step_wpG
                    · rfl
                    refine ow_call _ _ _ (by kernel_rfl) (hRC.out _ hk31) ?_
                    rintro e W32 ⟨rfl, hs32⟩
                    refine ⟨_, rfl, ?_⟩
                    have hk32 : Keep [] w2 W32 := hk31.trans hs32
                    clear hs32
                    apply hK
                    clear hK K
                    go_simp
                    refine wpAny_take (i := 33) (v := ?_) rfl (by kernel_rfl) (by kernel_rfl) (by kernel_rfl) (fun _ _ _ h => h) (Or.inl ⟨by rfl, ?_⟩) ?_
                    rotate_left
                    · intro y; go_simp; try (with_reducible rfl)
                    rotate_left
                    go_simp
                    refine wpAny_take (i := 34) (v := ?_) rfl (by kernel_rfl) (by kernel_rfl) (by kernel_rfl) (fun _ _ _ h => h) (Or.inl ⟨by rfl, ?_⟩) ?_
                    rotate_left
                    · intro y; go_simp; try (with_reducible rfl)
                    rotate_left
                    go_simp
                    refine wpAny_done (by kernel_rfl) ?_ _
                    exact hR.out _ _ ⟨rfl, rfl, by repeat (first | exact trivial | refine ⟨rfl, ?_⟩)⟩ hk32
                  exact AllReady.nil
                exact AllReady.nil
              exact AllReady.nil
            refine AllReady.cons rfl (fun K hK => ?_) ?_
            ·
              apply step_wpG
              · rfl
              refine ow_load_pair _ _ rfl O 0 o rfl _ Try.underlying26 rfl srSz (LO _ hk15).1 (LO _ hk15).2 ?_
              rw [← hOA.out]
              apply hK
              clear hK K
              go_simp
              refine wpAny_ready (rs := [28]) (by kernel_rfl) (by simp) ?_
              refine AllReady.cons rfl (fun K hK => ?_) ?_
              ·
                apply step_wpG
                · rfl
                refine ow_call _ _ _ (by kernel_rfl) (hCV.out _ hk15) ?_
                rintro e W28 ⟨rfl, hs28⟩
                refine ⟨_, rfl, ?_⟩
                have hk28 : Keep [] w2 W28 := hk15.trans hs28
                clear hs28
                apply hK
                clear hK K
                go_simp
                refine wpAny_ready (rs := [31]) (by kernel_rfl) (by simp) ?_
                refine AllReady.cons rfl (fun K hK => ?_) ?_
                ·
                  apply step_wpG
                  · rfl
                  refine ow_call _ _ _ (by kernel_rfl) (hRO.out _ hk28) ?_
                  rintro e W31 ⟨rfl, hs31⟩
                  refine ⟨_, rfl, ?_⟩
                  have hk31 : Keep [] w2 W31 := hk28.trans hs31
                  clear hs31
                  apply hK
                  clear hK K
                  go_simp
                  refine wpAny_ready (rs := [32]) (by kernel_rfl) (by simp) ?_
                  refine AllReady.cons rfl (fun K hK => ?_) ?_
                  ·
                    apply step_wpG
                    · rfl
                    refine ow_call _ _ _ (by kernel_rfl) (hRC.out _ hk31) ?_
                    rintro e W32 ⟨rfl, hs32⟩
                    refine ⟨_, rfl, ?_⟩
                    have hk32 : Keep [] w2 W32 := hk31.trans hs32
                    clear hs32
                    apply hK
                    clear hK K
                    go_simp
                    refine wpAny_take (i := 33) (v := ?_) rfl (by kernel_rfl) (by kernel_rfl) (by kernel_rfl) (fun _ _ _ h => h) (Or.inl ⟨by rfl, ?_⟩) ?_
                    rotate_left
                    · intro y; go_simp; try (with_reducible rfl)
                    rotate_left
                    go_simp
                    refine wpAny_take (i := 34) (v := ?_) rfl (by kernel_rfl) (by kernel_rfl) (by kernel_rfl) (fun _ _ _ h => h) (Or.inl ⟨by rfl, ?_⟩) ?_
                    rotate_left
                    · intro y; go_simp; try (with_reducible rfl)
                    rotate_left
                    go_simp
                    refine wpAny_done (by kernel_rfl) ?_ _
                    exact hR.out _ _ ⟨rfl, rfl, by repeat (first | exact trivial | refine ⟨rfl, ?_⟩)⟩ hk32
                  exact AllReady.nil
                exact AllReady.nil
              exact AllReady.nil
            exact AllReady.nil
          refine AllReady.cons rfl (fun K hK => ?_) ?_
          ·
            apply step_wpG
            · rfl
            refine ow_load_pair _ _ rfl O 0 o rfl _ Try.underlying26 rfl srSz (LO _ hk15).1 (LO _ hk15).2 ?_
            rw [← hOA.out]
            apply hK
            clear hK K
            go_simp
            refine wpAny_ready (rs := [27]) (by kernel_rfl) (by simp) ?_
            refine AllReady.cons rfl (fun K hK => ?_) ?_
            ·
              apply step_wpG
              · rfl
              refine ow_load_pair _ _ rfl O 0 o rfl _ Try.underlying26 rfl srSz (LO _ hk15).1 (LO _ hk15).2 ?_
              rw [← hOA.out]
              apply hK
              clear hK K
              go_simp
              refine wpAny_ready (rs := [28]) (by kernel_rfl) (by simp) ?_
              refine AllReady.cons rfl (fun K hK => ?_) ?_
              ·
                apply step_wpG
                · rfl
                refine ow_call _ _ _ (by kernel_rfl) (hCV.out _ hk15) ?_
                rintro e W28 ⟨rfl, hs28⟩
                refine ⟨_, rfl, ?_⟩
                have hk28 : Keep [] w2 W28 := hk15.trans hs28
                clear hs28
                apply hK
                clear hK K
                go_simp
                refine wpAny_ready (rs := [31]) (by kernel_rfl) (by simp) ?_
                refine AllReady.cons rfl (fun K hK => ?_) ?_
                ·
                  apply step_wpG
                  · rfl
                  refine ow_call _ _ _ (by kernel_rfl) (hRO.out _ hk28) ?_
                  rintro e W31 ⟨rfl, hs31⟩
                  refine ⟨_, rfl, ?_⟩
                  have hk31 : Keep [] w2 W31 := hk28.trans hs31
                  clear hs31
                  apply hK
                  clear hK K
                  go_simp
                  refine wpAny_ready (rs := [32]) (by kernel_rfl) (by simp) ?_
                  refine AllReady.cons rfl (fun K hK => ?_) ?_
                  ·
                    apply step_wpG
                    · rfl
                    refine ow_call _ _ _ (by kernel_rfl) (hRC.out _ hk31) ?_
                    rintro e W32 ⟨rfl, hs32⟩
                    refine ⟨_, rfl, ?_⟩
                    have hk32 : Keep [] w2 W32 := hk31.trans hs32
                    clear hs32
                    apply hK
                    clear hK K
                    go_simp
                    refine wpAny_take (i := 33) (v := ?_) rfl (by kernel_rfl) (by kernel_rfl) (by kernel_rfl) (fun _ _ _ h => h) (Or.inl ⟨by rfl, ?_⟩) ?_
                    rotate_left
                    · intro y; go_simp; try (with_reducible rfl)
                    rotate_left
                    go_simp
                    refine wpAny_take (i := 34) (v := ?_) rfl (by kernel_rfl) (by kernel_rfl) (by kernel_rfl) (fun _ _ _ h => h) (Or.inl ⟨by rfl, ?_⟩) ?_
                    rotate_left
                    · intro y; go_simp; try (with_reducible rfl)
                    rotate_left
                    go_simp
                    refine wpAny_done (by kernel_rfl) ?_ _
                    exact hR.out _ _ ⟨rfl, rfl, by repeat (first | exact trivial | refine ⟨rfl, ?_⟩)⟩ hk32
                  exact AllReady.nil
                exact AllReady.nil
              exact AllReady.nil
            exact AllReady.nil
          exact AllReady.nil
        exact AllReady.nil
      exact AllReady.nil
    exact AllReady.nil
  exact AllReady.nil
end Go.Proofs.Ytpckbmebdhmfaaa
