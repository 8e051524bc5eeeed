/-
  SpanPlays: what is looked for.
-/
import Derived.Test.YtpckbmebdhmfaaaSpanI
namespace Go.Proofs.Ytpckbmebdhmfaaa
open Go.RowKit

noncomputable def hplaysW : Code := loopOf Try.f3 3
set_option maxRecDepth 100000 in
set_option maxHeartbeats 8000000 in
theorem plays_want (R : Act → World → Prop) (a : Act) (w2 : World) (n c q Z : Nat) (A : Option Addr) (l : List (Nat × Nat)) (v2 v7 v9 v30 v31 v222 v223 v224 : Value) (hn : Hid (n = l.length)) (hA : Hid (S2 w2 (.slice A n c) l)) (hq : q < 18446744073709551616) (hZ : Hid (Blk w2 Z 36 (pc (0, 0)).toArray))
    (hF : Fr 288 [(2, v2), (7, v7), (9, v9), (10, .slice A n c), (29, .int .u64 (q : Nat)), (30, v30), (31, v31), (32, .pointer (some ⟨Z, 0, none⟩)), (222, v222), (223, v223), (224, v224), (234, .slice A n c), (235, .int .i64 (n : Nat)), (236, .int .i64 0)] a)
    (hQ : ∀ a' w', Fr 288 [(2, v2), (7, v7), (9, v9), (10, .slice A n c), (29, .int .u64 (q : Nat)), (30, v30), (31, v31), (32, .pointer (some ⟨Z, 0, none⟩)), (222, v222), (223, v223), (224, v224)] a' → Blk w' Z 36 (pc ((Span.first l q).getD (0, 0))).toArray → Keep [Z] w2 w' → R a' w') :
    Code.wp Try.prog (.loop hplaysW) (OutX 7 R) a w2 := by
  refine wp_loop_ghost_k (fun μ a wr => ∃ i : Nat, μ + i = n ∧ Fr 288 [(2, v2), (7, v7), (9, v9), (10, .slice A n c), (29, .int .u64 (q : Nat)), (30, v30), (31, v31), (32, .pointer (some ⟨Z, 0, none⟩)), (222, v222), (223, v223), (224, v224), (234, .slice A n c), (235, .int .i64 (n : Nat)), (236, .int .i64 i)] a ∧ Span.first (l.drop i) q = Span.first l q ∧ Keep [] w2 wr)
    n ⟨0, by omega, hF, rfl, Keep.refl _ _⟩ ?_
  clear hF
  rintro μ a wr ⟨i, hmi, hFr, hfd, hk⟩ J K hJ hK1
  have HJ := Lib.hid hJ
  have HM := Lib.hid hmi
  have HK := Lib.hid hk
  have HQ := Lib.hid hQ
  have HFD := Lib.hid hfd
  obtain ⟨fr, ⟨f2, f7, f9, f10, f29, f30, f31, f32, f222, f223, f224, f234, f235, f236, -⟩, rfl⟩ := hFr.open288
  simp only [f2, f7, f9, f10, f29, f30, f31, f32, f222, f223, f224, f234, f235, f236]
  clear f2 f7 f9 f10 f29 f30 f31 f32 f222 f223 f224 f234 f235 f236 hFr hJ hmi hk hQ hfd
  conv => arg 2; whnf
  by_cases hi : i < n
  · have bi : (0 : Int) ≤ i ∧ (i : Int) < n := ⟨by omega, by omega⟩
    have hn63 : (n : Int) ≤ 9223372036854775807 := by
      obtain ⟨A', c', e, h1, h2, -⟩ := hA.out
      simp only [Value.slice.injEq] at e
      have := hn.out
      omega
    have hwr : wrap64 ((i : Int) + 1) = (i : Int) + 1 := by unfold wrap64; omega
    obtain ⟨b, off, eA, hb, c0, c1⟩ := (hA.out.keep0 HK.out).at i (by have := hn.out; omega)
    have hx := hA.out.p64.getD i
    have HF1 := Lib.hid (fun h => Span.first_drop l q i (by have := hn.out; omega) h)
    have HF2 := Lib.hid (fun h => Span.first_hit l q i (by have := hn.out; omega) h)
    obtain ⟨x, hxx⟩ : ∃ x, x = l.getD i (0, 0) := ⟨_, rfl⟩
    rw [← hxx] at c0 c1 hx HF1 HF2
    subst eA
    obtain ⟨X, hX⟩ : ∃ X, X = (pc x).toArray := ⟨_, rfl⟩
    have HX := Lib.hid hX
    have HXS := Lib.hid (show X.size = 2 by rw [hX]; rfl)
    have HX1 := Lib.hid (show X.all (·.oneCell') = true by rw [hX]; exact pc_all x)
    clear hxx hX
    obtain ⟨T, hT⟩ : ∃ T, T = wr.heap.size := ⟨_, rfl⟩
    go_upto_region 58 with (first
      | (refine wl_load_pair rfl _ _ rfl b (off + i * 2) x rfl _ Try.underlying36 rfl rrSz c0 c1 ?_; rw [← HX.out])
      | (refine wl_alloc_rowZ rfl _ rfl (pc (0, 0)).toArray 2 rrZ ?_; intro w3 hB3 hk3 hz3; have HB3 := Lib.hid hB3; have HK3 := Lib.hid hk3; clear hB3 hk3 hz3)
      | (refine wl_store_row rfl _ _ _ rfl wr.heap.size rfl X rfl _ _ HB3.out (by rw [HXS.out]; exact rrSz) (by rw [HXS.out]; rfl) HX1.out ?_; intro w4 hB4 hk4 hz4; have HB4 := Lib.hid hB4; have HK4 := Lib.hid hk4; clear hB4 hk4 hz4))
    have HK4' := Lib.hid (show Keep [] wr w4 from HK3.out.trans' HK4.out (fun q hq => by right; simp at hq; omega))
    have HKW := Lib.hid (HK.out.trans HK4'.out)
    have HBT := (show Blk w4 T 36 (pc x).toArray by rw [hT, ← HX.out]; exact HB4.out)
    obtain ⟨t0, t1⟩ := HBT.pair
    have HZ4 := Lib.hid (hZ.out.keep HKW.out (by simp))
    rw [← hT]
    clear hT HB3 HB4 HK3 HK4 HBT c0 c1
    have bx1 := u64_lt hx.1
    have bx2 := u64_lt hx.2
    have bq := u64_lt hq
    by_cases hh : q < x.2
    · have d1 : ((q : Nat) : Int) < ((x.2 : Nat) : Int) := by omega
      obtain ⟨mx, hmx⟩ : ∃ mx, mx = max x.1 q := ⟨_, rfl⟩
      have emax : max ((x.1 : Nat) : Int) ((q : Nat) : Int) = ((mx : Nat) : Int) := by omega
      have HE := Lib.hid (show (Span.first l q).getD (0, 0) = (mx, x.2) by rw [← HFD.out, HF2.out hh, hmx]; rfl)
      clear hmx
      go_wp2_with (refine wl_store_row rfl _ _ _ rfl Z rfl (pc (mx, x.2)).toArray (by with_unfolding_all rfl) _ _ HZ4.out rrSz pc_size (pc_all _) ?_; intro w5 hB5 hk5 hz5; have HB5 := Lib.hid hB5; have HK5 := Lib.hid hk5; clear hB5 hk5 hz5)
      exact ⟨rfl, HQ.out _ _ ⟨rfl, rfl, by repeat (first | exact trivial | refine ⟨rfl, ?_⟩)⟩ (by rw [HE.out]; exact HB5.out) (HKW.out.more0.trans HK5.out)⟩
    · have d1 : ¬ ((q : Nat) : Int) < ((x.2 : Nat) : Int) := by omega
      go_wp2_with fail
      exact Handed.intro (μ - 1) (by have := HM.out; omega) (HJ.out _ _ _ ⟨i + 1, by have := HM.out; omega, ⟨rfl, rfl, by repeat (first | exact trivial | refine ⟨rfl, ?_⟩)⟩, by rw [← HF1.out hh]; exact HFD.out, HKW.out⟩)
  · obtain rfl : i = n := by have := HM.out; omega
    have HE := Lib.hid (show (Span.first l q).getD (0, 0) = (0, 0) by rw [← HFD.out, List.drop_of_length_le (by have := hn.out; omega)]; rfl)
    go_wp2_with fail
    exact ⟨rfl, HQ.out _ _ ⟨rfl, rfl, by repeat (first | exact trivial | refine ⟨rfl, ?_⟩)⟩ (by rw [HE.out]; exact hZ.out.keep HK.out (by simp)) HK.out.more0⟩

noncomputable def hplays61 : Code := regionOf Try.f3 61
set_option maxRecDepth 100000 in
set_option maxHeartbeats 8000000 in
theorem plays_r61 (R : Act → World → Prop) (a : Act) (w2 : World) (s M Z n c q q3 : Nat) (A : Option Addr) (hb cb fb : Bool) (f : Nat × Nat) (FA : Array Value) (v2 v7 v222 v223 v224 : Value) (hf : f.1 < 18446744073709551616 ∧ f.2 < 18446744073709551616) (hfb : decide (0 < f.2) = fb) (hwq : IntKind.u64.wrap ((q : Int) + 3) = ((q3 : Nat) : Int))
    (hFA : Hid (FA = (pc f).toArray)) (hM : Hid (Blk w2 M 26 (pc f).toArray)) (hZ : Hid (Blk w2 Z 36 (pc f).toArray))
    (hHS : Hid (∀ W, Keep [] w2 W → Calls Try.prog 25 #[.pointer (some ⟨s, 0, none⟩), .int .u64 (q : Nat)] W fun e w' => e = .returned (.bool hb) ∧ Keep [] W w'))
    (hRH : Hid (∀ W, Keep [] w2 W → Calls Try.prog 26 #[.slice A n c, .int .u64 (q : Nat)] W fun e w' => e = .returned (.bool hb) ∧ Keep [] W w'))
    (hRF : Hid (∀ W, Keep [] w2 W → Calls Try.prog 12 #[.agg FA] W fun e w' => e = .returned (.agg FA) ∧ Keep [] W w'))
    (hCV : Hid (∀ W, Keep [] w2 W → Calls Try.prog 22 #[.pointer (some ⟨s, 0, none⟩), .agg #[.int .u64 (q : Nat), .int .u64 (q3 : Nat)]] W fun e w' => e = .returned (.bool cb) ∧ Keep [] W w'))
    (hRC : Hid (∀ W, Keep [] w2 W → Calls Try.prog 23 #[.slice A n c, .agg #[.int .u64 (q : Nat), .int .u64 (q3 : Nat)]] W fun e w' => e = .returned (.bool cb) ∧ Keep [] W w'))
    (hF : Fr 288 [(2, v2), (7, v7), (9, .pointer (some ⟨s, 0, none⟩)), (10, .slice A n c), (29, .int .u64 (q : Nat)), (30, .pointer (some ⟨M, 0, none⟩)), (31, .bool fb), (32, .pointer (some ⟨Z, 0, none⟩)), (222, v222), (223, v223), (224, v224)] a)
    (hR : Hid (∀ a' w', Fr 288 [(2, v2), (7, v7), (9, .pointer (some ⟨s, 0, none⟩)), (10, .slice A n c), (222, v222), (223, v223), (224, v224), (286, .bool false)] a' → Keep [] w2 w' → R a' w')) :
    Code.wp Try.prog hplays61 (OutN R) a w2 := by
  have LM : ∀ W, Keep [] w2 W → W.cell? ⟨M, 0, none⟩ = some (.int .u64 (f.1 : Nat)) ∧ W.cell? ⟨M, 0 + 1, none⟩ = some (.int .u64 (f.2 : Nat)) := fun W h => (hM.out.keep h (by simp)).pair
  have LZ : ∀ W, Keep [] w2 W → W.cell? ⟨Z, 0, none⟩ = some (.int .u64 (f.1 : Nat)) ∧ W.cell? ⟨Z, 0 + 1, none⟩ = some (.int .u64 (f.2 : Nat)) := fun W h => (hZ.out.keep h (by simp)).pair
  have LZ1 : ∀ W, Keep [] w2 W → W.cell? ⟨Z, 1, none⟩ = some (.int .u64 (f.2 : Nat)) := fun W h => (hZ.out.keep h (by simp)).pair.2
  have EQ : ∀ W, (Op.equalIn 10000 36 (.agg FA) (.agg FA)).run Try.prog W = .ok true W := fun W => by
    have := rrEq 9998 f f hf hf W
    rw [decide_eq_true rfl] at this
    rw [hFA.out]; exact this
  clear hf
  obtain ⟨fr, ⟨f2, f7, f9, f10, f29, f30, f31, f32, f222, f223, f224, -⟩, rfl⟩ := hF.open288
  simp only [f2, f7, f9, f10, f29, f30, f31, f32, f222, f223, f224]
  clear f2 f7 f9 f10 f29 f30 f31 f32 f222 f223 f224 hF
  conv => arg 2; whnf
  refine wp_region_any (by kernel_rfl) ?_
  change wpAny _ _ _ _ _ _ _ (World.drew _)
  obtain ⟨W0, hW0⟩ : ∃ W0, W0 = w2.drew := ⟨_, rfl⟩
  rw [← hW0]
  have hk0 : Keep [] w2 W0 := by rw [hW0]; exact (Keep.refl [] w2).drew
  clear hW0
  go_simp
  refine wpAny_take (i := 0) (v := ?_) rfl (by kernel_rfl) (by kernel_rfl) (by kernel_rfl) (fun _ _ _ h => h) (Or.inl ⟨by rfl, ?_⟩) ?_
  rotate_left
  · intro y; go_simp; try (with_reducible rfl)
  rotate_left
  go_simp
  refine wpAny_take (i := 1) (v := ?_) rfl (by kernel_rfl) (by kernel_rfl) (by kernel_rfl) (fun _ _ _ h => h) (Or.inl ⟨by rfl, ?_⟩) ?_
  rotate_left
  · intro y; go_simp; try (with_reducible rfl)
  rotate_left
  go_simp
  refine wpAny_take (i := 3) (v := ?_) rfl (by kernel_rfl) (by kernel_rfl) (by kernel_rfl) (fun _ _ _ h => h) (Or.inl ⟨by rfl, ?_⟩) ?_
  rotate_left
  · intro y; go_simp; try (with_reducible rfl)
  rotate_left
  go_simp
  refine wpAny_take (i := 4) (v := ?_) rfl (by kernel_rfl) (by kernel_rfl) (by kernel_rfl) (fun _ _ _ h => h) (Or.inl ⟨by rfl, ?_⟩) ?_
  rotate_left
  · intro y; go_simp; try (with_reducible rfl)
  rotate_left
  go_simp
  refine wpAny_ready (rs := [2]) (by kernel_rfl) (by simp) ?_
  refine AllReady.cons rfl (fun K hK => ?_) ?_
  ·
    apply step_wp
    · rfl
    refine ow_call _ _ _ (by kernel_rfl) (hHS.out _ hk0) ?_
    rintro e W2 ⟨rfl, hs2⟩
    refine ⟨_, rfl, ?_⟩
    have hk2 : Keep [] w2 W2 := hk0.trans hs2
    clear hs2
    apply hK
    clear hK K
    go_simp
    refine wpAny_ready (rs := [5]) (by kernel_rfl) (by simp) ?_
    refine AllReady.cons rfl (fun K hK => ?_) ?_
    ·
      apply step_wp
      · rfl
      refine ow_call _ _ _ (by kernel_rfl) (hRH.out _ hk2) ?_
      rintro e W5 ⟨rfl, hs5⟩
      refine ⟨_, rfl, ?_⟩
      have hk5 : Keep [] w2 W5 := hk2.trans hs5
      clear hs5
      apply hK
      clear hK K
      go_simp
      refine wpAny_take (i := 6) (v := ?_) rfl (by kernel_rfl) (by kernel_rfl) (by kernel_rfl) (fun _ _ _ h => h) (Or.inl ⟨by rfl, ?_⟩) ?_
      rotate_left
      · intro y; go_simp; try (with_reducible rfl)
      rotate_left
      go_simp
      refine wpAny_take (i := 7) (v := ?_) rfl (by kernel_rfl) (by kernel_rfl) (by kernel_rfl) (fun _ _ _ h => h) (Or.inl ⟨by rfl, ?_⟩) ?_
      rotate_left
      · intro y; go_simp; try (with_reducible rfl)
      rotate_left
      go_simp
      refine wpAny_take (i := 8) (v := ?_) rfl (by kernel_rfl) (by kernel_rfl) (by kernel_rfl) (fun _ _ _ h => h) (Or.inl ⟨by rfl, ?_⟩) ?_
      rotate_left
      · intro y; go_simp; try (with_reducible rfl)
      rotate_left
      go_simp
      refine wpAny_take (i := 9) (v := ?_) rfl (by kernel_rfl) (by kernel_rfl) (by kernel_rfl) (fun _ _ _ h => h) (Or.inl ⟨by rfl, ?_⟩) ?_
      rotate_left
      · intro y; go_simp; try (with_reducible rfl)
      rotate_left
      go_simp
      refine wpAny_ready (rs := [10]) (by kernel_rfl) (by simp) ?_
      refine AllReady.cons rfl (fun K hK => ?_) ?_
      ·
        apply step_wpG
        · rfl
        have q9 := LZ1 _ hk5
        refine ow_load1 _ _ rfl ⟨Z, 1, none⟩ rfl (.int .u64 (f.2 : Nat)) (by simp [go_sem, q9]) ?_
        clear q9
        apply hK
        clear hK K
        go_simp
        refine wpAny_take (i := 11) (v := ?_) rfl (by kernel_rfl) (by kernel_rfl) (by kernel_rfl) (fun _ _ _ h => h) (Or.inl ⟨by rfl, ?_⟩) ?_
        rotate_left
        · intro y; go_simp; try (with_reducible rfl)
        rotate_left
        go_simp
        refine wpAny_take (i := 12) (v := ?_) rfl (by kernel_rfl) (by kernel_rfl) (by kernel_rfl) (fun _ _ _ h => h) (Or.inl ⟨by rfl, ?_⟩) ?_
        rotate_left
        · intro y; go_simp; try (with_reducible rfl)
        rotate_left
        go_simp
        refine wpAny_take (i := 13) (v := ?_) rfl (by kernel_rfl) (by kernel_rfl) (by kernel_rfl) (fun _ _ _ h => h) (Or.inl ⟨by rfl, ?_⟩) ?_
        rotate_left
        · intro y; go_simp; try (with_reducible rfl)
        rotate_left
        go_simp
        refine wpAny_take (i := 14) (v := ?_) rfl (by kernel_rfl) (by kernel_rfl) (by kernel_rfl) (fun _ _ _ h => h) (Or.inl ⟨by rfl, ?_⟩) ?_
        rotate_left
        · intro y; go_simp; try (with_reducible rfl)
        rotate_left
        go_simp
        refine wpAny_ready (rs := [15, 17]) (by kernel_rfl) (by simp) ?_
        refine AllReady.cons rfl (fun K hK => ?_) ?_
        ·
          apply step_wpG
          · rfl
          refine ow_load_pair _ _ rfl M 0 f rfl _ Try.underlying26 rfl srSz (LM _ hk5).1 (LM _ hk5).2 ?_
          rw [← hFA.out]
          apply hK
          clear hK K
          go_simp
          refine wpAny_ready (rs := [16, 17]) (by kernel_rfl) (by simp) ?_
          refine AllReady.cons rfl (fun K hK => ?_) ?_
          ·
            apply step_wpG
            · rfl
            refine ow_call _ _ _ (by kernel_rfl) (hRF.out _ hk5) ?_
            rintro e W16 ⟨rfl, hs16⟩
            refine ⟨_, rfl, ?_⟩
            have hk16 : Keep [] w2 W16 := hk5.trans hs16
            clear hs16
            apply hK
            clear hK K
            go_simp
            refine wpAny_ready (rs := [17]) (by kernel_rfl) (by simp) ?_
            refine AllReady.cons rfl (fun K hK => ?_) ?_
            ·
              apply step_wpG
              · rfl
              refine ow_load_pair _ _ rfl Z 0 f rfl _ Try.underlying36 rfl rrSz (LZ _ hk16).1 (LZ _ hk16).2 ?_
              rw [← hFA.out]
              apply hK
              clear hK K
              go_simp
              refine wpAny_take (i := 18) (v := ?_) rfl (by kernel_rfl) (by kernel_rfl) (by kernel_rfl) (fun _ _ _ h => h) (Or.inl ⟨by rfl, ?_⟩) ?_
              rotate_left
              · intro y; go_simp; try (with_reducible rfl)
              rotate_left
              go_simp
              refine wpAny_take (i := 19) (v := ?_) rfl (by kernel_rfl) (by kernel_rfl) (by kernel_rfl) (fun _ _ _ h => h) (Or.inl ⟨by rfl, ?_⟩) ?_
              rotate_left
              · intro y; go_simp; try (with_reducible rfl)
              rotate_left
              go_simp
              refine wpAny_take (i := 20) (v := ?_) rfl (by kernel_rfl) (by kernel_rfl) (by kernel_rfl) (fun _ _ _ h => h) (Or.inl ⟨by rfl, ?_⟩) ?_
              rotate_left
              · intro y; go_simp; try (with_reducible rfl)
              rotate_left
              go_simp
              refine wpAny_take (i := 21) (v := ?_) rfl (by kernel_rfl) (by kernel_rfl) (by kernel_rfl) (fun _ _ _ h => h) (Or.inl ⟨by rfl, ?_⟩) ?_
              rotate_left
              · intro y; go_simp; try (with_reducible rfl)
              rotate_left
              go_simp
              refine wpAny_take (i := 22) (v := ?_) rfl (by kernel_rfl) (by kernel_rfl) (by kernel_rfl) (fun _ _ _ h => h) (Or.inl ⟨by rfl, ?_⟩) ?_
              rotate_left
              · intro y; go_simp; try (with_reducible rfl)
              rotate_left
              go_simp
              refine wpAny_take (i := 23) (v := ?_) rfl (by kernel_rfl) (by kernel_rfl) (by kernel_rfl) (fun _ _ _ h => h) (Or.inl ⟨by rfl, ?_⟩) ?_
              rotate_left
              · intro y; go_simp; try (with_reducible rfl)
              rotate_left
              go_simp
              refine wpAny_take (i := 24) (v := ?_) rfl (by kernel_rfl) (by kernel_rfl) (by kernel_rfl) (fun _ _ _ h => h) (Or.inl ⟨by rfl, ?_⟩) ?_
              rotate_left
              · intro y; go_simp; try (with_reducible rfl)
              rotate_left
              go_simp
              refine wpAny_take (i := 25) (v := ?_) rfl (by kernel_rfl) (by kernel_rfl) (by kernel_rfl) (fun _ _ _ h => h) (Or.inl ⟨by rfl, ?_⟩) ?_
              rotate_left
              · intro y; go_simp; try (with_reducible rfl)
              rotate_left
              go_simp
              refine wpAny_take (i := 27) (v := ?_) rfl (by kernel_rfl) (by kernel_rfl) (by kernel_rfl) (fun _ _ _ h => h) (Or.inl ⟨by rfl, ?_⟩) ?_
              rotate_left
              · intro y; go_simp; try (with_reducible rfl)
              rotate_left
              go_simp
              refine wpAny_take (i := 28) (v := ?_) rfl (by kernel_rfl) (by kernel_rfl) (by kernel_rfl) (fun _ _ _ h => h) (Or.inl ⟨by rfl, ?_⟩) ?_
              rotate_left
              · intro y; go_simp; try (with_reducible rfl)
              rotate_left
              go_simp
              refine wpAny_take (i := 29) (v := ?_) rfl (by kernel_rfl) (by kernel_rfl) (by kernel_rfl) (fun _ _ _ h => h) (Or.inl ⟨by rfl, ?_⟩) ?_
              rotate_left
              · intro y; go_simp; try (with_reducible rfl)
              rotate_left
              go_simp
              refine wpAny_take (i := 30) (v := ?_) rfl (by kernel_rfl) (by kernel_rfl) (by kernel_rfl) (fun _ _ _ h => h) (Or.inl ⟨by rfl, ?_⟩) ?_
              rotate_left
              · intro y; go_simp; try (with_reducible rfl)
              rotate_left
              go_simp
              refine wpAny_take (i := 31) (v := ?_) rfl (by kernel_rfl) (by kernel_rfl) (by kernel_rfl) (fun _ _ _ h => h) (Or.inl ⟨by rfl, ?_⟩) ?_
              rotate_left
              · intro y; go_simp; try (with_reducible rfl)
              rotate_left
              go_simp
              refine wpAny_ready (rs := [26]) (by kernel_rfl) (by simp) ?_
              refine AllReady.cons rfl (fun K hK => ?_) ?_
              ·
                apply step_wpG
                · rfl
                refine ow_call _ _ _ (by kernel_rfl) (hCV.out _ hk16) ?_
                rintro e W26 ⟨rfl, hs26⟩
                refine ⟨_, rfl, ?_⟩
                have hk26 : Keep [] w2 W26 := hk16.trans hs26
                clear hs26
                apply hK
                clear hK K
                go_simp
                refine wpAny_ready (rs := [32]) (by kernel_rfl) (by simp) ?_
                refine AllReady.cons rfl (fun K hK => ?_) ?_
                ·
                  apply step_wpG
                  · rfl
                  refine ow_call _ _ _ (by kernel_rfl) (hRC.out _ hk26) ?_
                  rintro e W32 ⟨rfl, hs32⟩
                  refine ⟨_, rfl, ?_⟩
                  have hk32 : Keep [] w2 W32 := hk26.trans hs32
                  clear hs32
                  apply hK
                  clear hK K
                  go_simp
                  refine wpAny_take (i := 33) (v := ?_) rfl (by kernel_rfl) (by kernel_rfl) (by kernel_rfl) (fun _ _ _ h => h) (Or.inl ⟨by rfl, ?_⟩) ?_
                  rotate_left
                  · intro y; go_simp; try (with_reducible rfl)
                  rotate_left
                  go_simp
                  refine wpAny_take (i := 34) (v := ?_) rfl (by kernel_rfl) (by kernel_rfl) (by kernel_rfl) (fun _ _ _ h => h) (Or.inl ⟨by rfl, ?_⟩) ?_
                  rotate_left
                  · intro y; go_simp; try (with_reducible rfl)
                  rotate_left
                  go_simp
                  refine wpAny_done (by kernel_rfl) ?_ _
                  exact hR.out _ _ ⟨rfl, rfl, by repeat (first | exact trivial | refine ⟨rfl, ?_⟩)⟩ hk32
                exact AllReady.nil
              exact AllReady.nil
            exact AllReady.nil
          refine AllReady.cons rfl (fun K hK => ?_) ?_
          ·
            apply step_wpG
            · rfl
            refine ow_load_pair _ _ rfl Z 0 f rfl _ Try.underlying36 rfl rrSz (LZ _ hk5).1 (LZ _ hk5).2 ?_
            rw [← hFA.out]
            apply hK
            clear hK K
            go_simp
            refine wpAny_ready (rs := [16]) (by kernel_rfl) (by simp) ?_
            refine AllReady.cons rfl (fun K hK => ?_) ?_
            ·
              apply step_wpG
              · rfl
              refine ow_call _ _ _ (by kernel_rfl) (hRF.out _ hk5) ?_
              rintro e W16 ⟨rfl, hs16⟩
              refine ⟨_, rfl, ?_⟩
              have hk16 : Keep [] w2 W16 := hk5.trans hs16
              clear hs16
              apply hK
              clear hK K
              go_simp
              refine wpAny_take (i := 18) (v := ?_) rfl (by kernel_rfl) (by kernel_rfl) (by kernel_rfl) (fun _ _ _ h => h) (Or.inl ⟨by rfl, ?_⟩) ?_
              rotate_left
              · intro y; go_simp; try (with_reducible rfl)
              rotate_left
              go_simp
              refine wpAny_take (i := 19) (v := ?_) rfl (by kernel_rfl) (by kernel_rfl) (by kernel_rfl) (fun _ _ _ h => h) (Or.inl ⟨by rfl, ?_⟩) ?_
              rotate_left
              · intro y; go_simp; try (with_reducible rfl)
              rotate_left
              go_simp
              refine wpAny_take (i := 20) (v := ?_) rfl (by kernel_rfl) (by kernel_rfl) (by kernel_rfl) (fun _ _ _ h => h) (Or.inl ⟨by rfl, ?_⟩) ?_
              rotate_left
              · intro y; go_simp; try (with_reducible rfl)
              rotate_left
              go_simp
              refine wpAny_take (i := 21) (v := ?_) rfl (by kernel_rfl) (by kernel_rfl) (by kernel_rfl) (fun _ _ _ h => h) (Or.inl ⟨by rfl, ?_⟩) ?_
              rotate_left
              · intro y; go_simp; try (with_reducible rfl)
              rotate_left
              go_simp
              refine wpAny_take (i := 22) (v := ?_) rfl (by kernel_rfl) (by kernel_rfl) (by kernel_rfl) (fun _ _ _ h => h) (Or.inl ⟨by rfl, ?_⟩) ?_
              rotate_left
              · intro y; go_simp; try (with_reducible rfl)
              rotate_left
              go_simp
              refine wpAny_take (i := 23) (v := ?_) rfl (by kernel_rfl) (by kernel_rfl) (by kernel_rfl) (fun _ _ _ h => h) (Or.inl ⟨by rfl, ?_⟩) ?_
              rotate_left
              · intro y; go_simp; try (with_reducible rfl)
              rotate_left
              go_simp
              refine wpAny_take (i := 24) (v := ?_) rfl (by kernel_rfl) (by kernel_rfl) (by kernel_rfl) (fun _ _ _ h => h) (Or.inl ⟨by rfl, ?_⟩) ?_
              rotate_left
              · intro y; go_simp; try (with_reducible rfl)
              rotate_left
              go_simp
              refine wpAny_take (i := 25) (v := ?_) rfl (by kernel_rfl) (by kernel_rfl) (by kernel_rfl) (fun _ _ _ h => h) (Or.inl ⟨by rfl, ?_⟩) ?_
              rotate_left
              · intro y; go_simp; try (with_reducible rfl)
              rotate_left
              go_simp
              refine wpAny_take (i := 27) (v := ?_) rfl (by kernel_rfl) (by kernel_rfl) (by kernel_rfl) (fun _ _ _ h => h) (Or.inl ⟨by rfl, ?_⟩) ?_
              rotate_left
              · intro y; go_simp; try (with_reducible rfl)
              rotate_left
              go_simp
              refine wpAny_take (i := 28) (v := ?_) rfl (by kernel_rfl) (by kernel_rfl) (by kernel_rfl) (fun _ _ _ h => h) (Or.inl ⟨by rfl, ?_⟩) ?_
              rotate_left
              · intro y; go_simp; try (with_reducible rfl)
              rotate_left
              go_simp
              refine wpAny_take (i := 29) (v := ?_) rfl (by kernel_rfl) (by kernel_rfl) (by kernel_rfl) (fun _ _ _ h => h) (Or.inl ⟨by rfl, ?_⟩) ?_
              rotate_left
              · intro y; go_simp; try (with_reducible rfl)
              rotate_left
              go_simp
              refine wpAny_take (i := 30) (v := ?_) rfl (by kernel_rfl) (by kernel_rfl) (by kernel_rfl) (fun _ _ _ h => h) (Or.inl ⟨by rfl, ?_⟩) ?_
              rotate_left
              · intro y; go_simp; try (with_reducible rfl)
              rotate_left
              go_simp
              refine wpAny_take (i := 31) (v := ?_) rfl (by kernel_rfl) (by kernel_rfl) (by kernel_rfl) (fun _ _ _ h => h) (Or.inl ⟨by rfl, ?_⟩) ?_
              rotate_left
              · intro y; go_simp; try (with_reducible rfl)
              rotate_left
              go_simp
              refine wpAny_ready (rs := [26]) (by kernel_rfl) (by simp) ?_
              refine AllReady.cons rfl (fun K hK => ?_) ?_
              ·
                apply step_wpG
                · rfl
                refine ow_call _ _ _ (by kernel_rfl) (hCV.out _ hk16) ?_
                rintro e W26 ⟨rfl, hs26⟩
                refine ⟨_, rfl, ?_⟩
                have hk26 : Keep [] w2 W26 := hk16.trans hs26
                clear hs26
                apply hK
                clear hK K
                go_simp
                refine wpAny_ready (rs := [32]) (by kernel_rfl) (by simp) ?_
                refine AllReady.cons rfl (fun K hK => ?_) ?_
                ·
                  apply step_wpG
                  · rfl
                  refine ow_call _ _ _ (by kernel_rfl) (hRC.out _ hk26) ?_
                  rintro e W32 ⟨rfl, hs32⟩
                  refine ⟨_, rfl, ?_⟩
                  have hk32 : Keep [] w2 W32 := hk26.trans hs32
                  clear hs32
                  apply hK
                  clear hK K
                  go_simp
                  refine wpAny_take (i := 33) (v := ?_) rfl (by kernel_rfl) (by kernel_rfl) (by kernel_rfl) (fun _ _ _ h => h) (Or.inl ⟨by rfl, ?_⟩) ?_
                  rotate_left
                  · intro y; go_simp; try (with_reducible rfl)
                  rotate_left
                  go_simp
                  refine wpAny_take (i := 34) (v := ?_) rfl (by kernel_rfl) (by kernel_rfl) (by kernel_rfl) (fun _ _ _ h => h) (Or.inl ⟨by rfl, ?_⟩) ?_
                  rotate_left
                  · intro y; go_simp; try (with_reducible rfl)
                  rotate_left
                  go_simp
                  refine wpAny_done (by kernel_rfl) ?_ _
                  exact hR.out _ _ ⟨rfl, rfl, by repeat (first | exact trivial | refine ⟨rfl, ?_⟩)⟩ hk32
                exact AllReady.nil
              exact AllReady.nil
            exact AllReady.nil
          exact AllReady.nil
        refine AllReady.cons rfl (fun K hK => ?_) ?_
        ·
          apply step_wpG
          · rfl
          refine ow_load_pair _ _ rfl Z 0 f rfl _ Try.underlying36 rfl rrSz (LZ _ hk5).1 (LZ _ hk5).2 ?_
          rw [← hFA.out]
          apply hK
          clear hK K
          go_simp
          refine wpAny_ready (rs := [15]) (by kernel_rfl) (by simp) ?_
          refine AllReady.cons rfl (fun K hK => ?_) ?_
          ·
            apply step_wpG
            · rfl
            refine ow_load_pair _ _ rfl M 0 f rfl _ Try.underlying26 rfl srSz (LM _ hk5).1 (LM _ hk5).2 ?_
            rw [← hFA.out]
            apply hK
            clear hK K
            go_simp
            refine wpAny_ready (rs := [16]) (by kernel_rfl) (by simp) ?_
            refine AllReady.cons rfl (fun K hK => ?_) ?_
            ·
              apply step_wpG
              · rfl
              refine ow_call _ _ _ (by kernel_rfl) (hRF.out _ hk5) ?_
              rintro e W16 ⟨rfl, hs16⟩
              refine ⟨_, rfl, ?_⟩
              have hk16 : Keep [] w2 W16 := hk5.trans hs16
              clear hs16
              apply hK
              clear hK K
              go_simp
              refine wpAny_take (i := 18) (v := ?_) rfl (by kernel_rfl) (by kernel_rfl) (by kernel_rfl) (fun _ _ _ h => h) (Or.inl ⟨by rfl, ?_⟩) ?_
              rotate_left
              · intro y; go_simp; try (with_reducible rfl)
              rotate_left
              go_simp
              refine wpAny_take (i := 19) (v := ?_) rfl (by kernel_rfl) (by kernel_rfl) (by kernel_rfl) (fun _ _ _ h => h) (Or.inl ⟨by rfl, ?_⟩) ?_
              rotate_left
              · intro y; go_simp; try (with_reducible rfl)
              rotate_left
              go_simp
              refine wpAny_take (i := 20) (v := ?_) rfl (by kernel_rfl) (by kernel_rfl) (by kernel_rfl) (fun _ _ _ h => h) (Or.inl ⟨by rfl, ?_⟩) ?_
              rotate_left
              · intro y; go_simp; try (with_reducible rfl)
              rotate_left
              go_simp
              refine wpAny_take (i := 21) (v := ?_) rfl (by kernel_rfl) (by kernel_rfl) (by kernel_rfl) (fun _ _ _ h => h) (Or.inl ⟨by rfl, ?_⟩) ?_
              rotate_left
              · intro y; go_simp; try (with_reducible rfl)
              rotate_left
              go_simp
              refine wpAny_take (i := 22) (v := ?_) rfl (by kernel_rfl) (by kernel_rfl) (by kernel_rfl) (fun _ _ _ h => h) (Or.inl ⟨by rfl, ?_⟩) ?_
              rotate_left
              · intro y; go_simp; try (with_reducible rfl)
              rotate_left
              go_simp
              refine wpAny_take (i := 23) (v := ?_) rfl (by kernel_rfl) (by kernel_rfl) (by kernel_rfl) (fun _ _ _ h => h) (Or.inl ⟨by rfl, ?_⟩) ?_
              rotate_left
              · intro y; go_simp; try (with_reducible rfl)
              rotate_left
              go_simp
              refine wpAny_take (i := 24) (v := ?_) rfl (by kernel_rfl) (by kernel_rfl) (by kernel_rfl) (fun _ _ _ h => h) (Or.inl ⟨by rfl, ?_⟩) ?_
              rotate_left
              · intro y; go_simp; try (with_reducible rfl)
              rotate_left
              go_simp
              refine wpAny_take (i := 25) (v := ?_) rfl (by kernel_rfl) (by kernel_rfl) (by kernel_rfl) (fun _ _ _ h => h) (Or.inl ⟨by rfl, ?_⟩) ?_
              rotate_left
              · intro y; go_simp; try (with_reducible rfl)
              rotate_left
              go_simp
              refine wpAny_take (i := 27) (v := ?_) rfl (by kernel_rfl) (by kernel_rfl) (by kernel_rfl) (fun _ _ _ h => h) (Or.inl ⟨by rfl, ?_⟩) ?_
              rotate_left
              · intro y; go_simp; try (with_reducible rfl)
              rotate_left
              go_simp
              refine wpAny_take (i := 28) (v := ?_) rfl (by kernel_rfl) (by kernel_rfl) (by kernel_rfl) (fun _ _ _ h => h) (Or.inl ⟨by rfl, ?_⟩) ?_
              rotate_left
              · intro y; go_simp; try (with_reducible rfl)
              rotate_left
              go_simp
              refine wpAny_take (i := 29) (v := ?_) rfl (by kernel_rfl) (by kernel_rfl) (by kernel_rfl) (fun _ _ _ h => h) (Or.inl ⟨by rfl, ?_⟩) ?_
              rotate_left
              · intro y; go_simp; try (with_reducible rfl)
              rotate_left
              go_simp
              refine wpAny_take (i := 30) (v := ?_) rfl (by kernel_rfl) (by kernel_rfl) (by kernel_rfl) (fun _ _ _ h => h) (Or.inl ⟨by rfl, ?_⟩) ?_
              rotate_left
              · intro y; go_simp; try (with_reducible rfl)
              rotate_left
              go_simp
              refine wpAny_take (i := 31) (v := ?_) rfl (by kernel_rfl) (by kernel_rfl) (by kernel_rfl) (fun _ _ _ h => h) (Or.inl ⟨by rfl, ?_⟩) ?_
              rotate_left
              · intro y; go_simp; try (with_reducible rfl)
              rotate_left
              go_simp
              refine wpAny_ready (rs := [26]) (by kernel_rfl) (by simp) ?_
              refine AllReady.cons rfl (fun K hK => ?_) ?_
              ·
                apply step_wpG
                · rfl
                refine ow_call _ _ _ (by kernel_rfl) (hCV.out _ hk16) ?_
                rintro e W26 ⟨rfl, hs26⟩
                refine ⟨_, rfl, ?_⟩
                have hk26 : Keep [] w2 W26 := hk16.trans hs26
                clear hs26
                apply hK
                clear hK K
                go_simp
                refine wpAny_ready (rs := [32]) (by kernel_rfl) (by simp) ?_
                refine AllReady.cons rfl (fun K hK => ?_) ?_
                ·
                  apply step_wpG
                  · rfl
                  refine ow_call _ _ _ (by kernel_rfl) (hRC.out _ hk26) ?_
                  rintro e W32 ⟨rfl, hs32⟩
                  refine ⟨_, rfl, ?_⟩
                  have hk32 : Keep [] w2 W32 := hk26.trans hs32
                  clear hs32
                  apply hK
                  clear hK K
                  go_simp
                  refine wpAny_take (i := 33) (v := ?_) rfl (by kernel_rfl) (by kernel_rfl) (by kernel_rfl) (fun _ _ _ h => h) (Or.inl ⟨by rfl, ?_⟩) ?_
                  rotate_left
                  · intro y; go_simp; try (with_reducible rfl)
                  rotate_left
                  go_simp
                  refine wpAny_take (i := 34) (v := ?_) rfl (by kernel_rfl) (by kernel_rfl) (by kernel_rfl) (fun _ _ _ h => h) (Or.inl ⟨by rfl, ?_⟩) ?_
                  rotate_left
                  · intro y; go_simp; try (with_reducible rfl)
                  rotate_left
                  go_simp
                  refine wpAny_done (by kernel_rfl) ?_ _
                  exact hR.out _ _ ⟨rfl, rfl, by repeat (first | exact trivial | refine ⟨rfl, ?_⟩)⟩ hk32
                exact AllReady.nil
              exact AllReady.nil
            exact AllReady.nil
          exact AllReady.nil
        exact AllReady.nil
      exact AllReady.nil
    exact AllReady.nil
  exact AllReady.nil
end Go.Proofs.Ytpckbmebdhmfaaa
