/-
  Span's laws: are ranges apart; are they rising; put together again.
-/
import Derived.Test.YtpckbmebdhmfaaaSpanC
import Derived.BigQuiet
namespace Go.Proofs.Ytpckbmebdhmfaaa
open Go.RowKit

noncomputable def hasksE : Code := loopOf Try.f4 1
set_option maxRecDepth 100000 in
set_option maxHeartbeats 8000000 in
theorem asks_apart (R : Act → World → Prop) (a : Act) (w2 : World) (G n c : Nat) (A : Option Addr) (l : List (Nat × Nat)) (r : Nat × Nat) (v5 : Value) (hn : Hid (n = l.length)) (hA : Hid (S2 w2 (.slice A n c) l)) (hG : Hid (Blk w2 G 26 (pc r).toArray)) (hr : r.1 < 18446744073709551616 ∧ r.2 < 18446744073709551616)
    (hF : Fr 128 [(3, .pointer (some ⟨G, 0, none⟩)), (5, v5), (8, .slice A n c), (9, .bool (true)), (34, .slice A n c), (35, .int .i64 (n : Nat)), (36, .int .i64 0)] a)
    (hQ : ∀ a' w', Fr 128 [(3, .pointer (some ⟨G, 0, none⟩)), (5, v5), (8, .slice A n c), (9, .bool (em l r n))] a' → Keep [] w2 w' → R a' w') :
    Code.wp Try.prog (.loop hasksE) (OutX 2 R) a w2 := by
  refine wp_loop_ghost_k (fun μ a wr => ∃ i : Nat, μ + i = n ∧ Fr 128 [(3, .pointer (some ⟨G, 0, none⟩)), (5, v5), (8, .slice A n c), (9, .bool (em l r i)), (34, .slice A n c), (35, .int .i64 (n : Nat)), (36, .int .i64 i)] a ∧ Keep [] w2 wr)
    n ⟨0, by omega, hF, Keep.refl _ _⟩ ?_
  clear hF
  rintro μ a wr ⟨i, hmi, hFr, hk⟩ J K hJ hK1
  have HJ := Lib.hid hJ
  have HM := Lib.hid hmi
  have HK := Lib.hid hk
  have HQ := Lib.hid hQ
  obtain ⟨fr, ⟨f3, f5, f8, f9, f34, f35, f36, -⟩, rfl⟩ := hFr.open128
  simp only [f3, f5, f8, f9, f34, f35, f36]
  clear f3 f5 f8 f9 f34 f35 f36 hFr hJ hmi hk hQ
  conv => arg 2; whnf
  by_cases hi : i < n
  · obtain ⟨b, off, eA, hb, c0, c1⟩ := (hA.out.keep0 HK.out).at i (by have := hn.out; omega)
    have hx := hA.out.p64.getD i
    have he := em_succ l r i (by have := hn.out; omega)
    have hn63 : (n : Int) ≤ 9223372036854775807 := by
      obtain ⟨A', c', e, h1, h2, -⟩ := hA.out
      simp only [Value.slice.injEq] at e
      have := hn.out
      omega
    have hwr : wrap64 ((i : Int) + 1) = (i : Int) + 1 := by unfold wrap64; omega
    have bi : (0 : Int) ≤ i ∧ (i : Int) < n := ⟨by omega, by omega⟩
    obtain ⟨x, hxx⟩ : ∃ x, x = l.getD i (0, 0) := ⟨_, rfl⟩
    rw [← hxx] at c0 c1 hx he
    subst eA
    obtain ⟨X, hX⟩ : ∃ X, X = (pc x).toArray := ⟨_, rfl⟩
    have HX := Lib.hid hX
    have HXS := Lib.hid (show X.size = 2 by rw [hX]; rfl)
    have HX1 := Lib.hid (show X.all (·.oneCell') = true by rw [hX]; exact pc_all x)
    have HE := Lib.hid he
    clear hxx hX he
    obtain ⟨T, hT⟩ : ∃ T, T = wr.heap.size := ⟨_, rfl⟩
    go_upto_region 15 with (first
      | (refine wl_load_pair rfl _ _ rfl b (off + i * 2) x rfl _ Try.underlying26 rfl srSz c0 c1 ?_; rw [← HX.out])
      | (refine wl_alloc_rowZ rfl _ rfl (pc (0, 0)).toArray 2 srZ ?_; intro w3 hB3 hk3 hz3; have HB3 := Lib.hid hB3; have HK3 := Lib.hid hk3; clear hB3 hk3 hz3)
      | (refine wl_store_row rfl _ _ _ rfl wr.heap.size rfl X rfl _ _ HB3.out (by rw [HXS.out]; exact srSz) (by rw [HXS.out]; rfl) HX1.out ?_; intro w4 hB4 hk4 hz4; have HB4 := Lib.hid hB4; have HK4 := Lib.hid hk4; clear hB4 hk4 hz4))
    have HK4' := Lib.hid (show Keep [] wr w4 from HK3.out.trans' HK4.out (fun q hq => by right; simp at hq; omega))
    have HKW := Lib.hid (HK.out.trans HK4'.out)
    have HBT := (show Blk w4 T 26 (pc x).toArray by rw [hT, ← HX.out]; exact HB4.out)
    obtain ⟨t0, t1⟩ := HBT.pair
    obtain ⟨g0, g1⟩ := (hG.out.keep HKW.out (by simp)).pair
    rw [← hT]
    clear hT HB3 HB4 HK3 HK4 HBT c0 c1
    have bx1 := u64_lt hx.1
    have bx2 := u64_lt hx.2
    have br1 := u64_lt hr.1
    have br2 := u64_lt hr.2
    cases hem : em l r i
    · rw [hem, Bool.false_and] at HE
      go_wp2_with fail
      exact Handed.intro (μ - 1) (by have := HM.out; omega) (HJ.out _ _ _ ⟨i + 1, by have := HM.out; omega, ⟨rfl, rfl, by rw [HE.out]; repeat (first | exact trivial | refine ⟨rfl, ?_⟩)⟩, HKW.out⟩)
    · rw [hem, Bool.true_and] at HE
      by_cases h1 : x.2 ≤ r.1
      · have d1 : ((x.2 : Nat) : Int) ≤ ((r.1 : Nat) : Int) := by omega
        rw [decide_eq_true h1, Bool.true_or] at HE
        go_wp2_with fail
        exact Handed.intro (μ - 1) (by have := HM.out; omega) (HJ.out _ _ _ ⟨i + 1, by have := HM.out; omega, ⟨rfl, rfl, by rw [HE.out]; repeat (first | exact trivial | refine ⟨rfl, ?_⟩)⟩, HKW.out⟩)
      · have d1 : ¬ ((x.2 : Nat) : Int) ≤ ((r.1 : Nat) : Int) := by omega
        rw [decide_eq_false h1, Bool.false_or] at HE
        by_cases h2 : r.2 ≤ x.1
        · have d2 : ((r.2 : Nat) : Int) ≤ ((x.1 : Nat) : Int) := by omega
          rw [decide_eq_true h2] at HE
          go_wp2_with fail
          exact Handed.intro (μ - 1) (by have := HM.out; omega) (HJ.out _ _ _ ⟨i + 1, by have := HM.out; omega, ⟨rfl, rfl, by rw [HE.out]; repeat (first | exact trivial | refine ⟨rfl, ?_⟩)⟩, HKW.out⟩)
        · have d2 : ¬ ((r.2 : Nat) : Int) ≤ ((x.1 : Nat) : Int) := by omega
          rw [decide_eq_false h2] at HE
          go_wp2_with fail
          exact Handed.intro (μ - 1) (by have := HM.out; omega) (HJ.out _ _ _ ⟨i + 1, by have := HM.out; omega, ⟨rfl, rfl, by rw [HE.out]; repeat (first | exact trivial | refine ⟨rfl, ?_⟩)⟩, HKW.out⟩)
  · obtain rfl : i = n := by have := HM.out; omega
    go_wp2_with fail
    exact ⟨rfl, HQ.out _ _ ⟨rfl, rfl, by repeat (first | exact trivial | refine ⟨rfl, ?_⟩)⟩ HK.out⟩

noncomputable def hparts_r14z : Code := regionOf Try.f6 14
set_option maxRecDepth 100000 in
set_option maxHeartbeats 4000000 in
theorem parts_r14z (R : Act → World → Prop) (a : Act) (w2 : World) (T n c i : Nat) (A : Option Addr) (x : Nat × Nat) (v1 v5 v36 v37 v38 : Value) (hi : i = 0) (hpos : x.1 < x.2) (hx : x.1 < 18446744073709551616 ∧ x.2 < 18446744073709551616) (hT : Hid (Blk w2 T 26 (pc x).toArray))
    (hF : Fr 120 [(1, v1), (5, v5), (8, .slice A n c), (9, .int .i64 i), (10, .pointer (some ⟨T, 0, none⟩)), (36, v36), (37, v37), (38, v38)] a)
    (hR : Hid (∀ a' w', Fr 120 [(1, v1), (5, v5), (8, .slice A n c), (36, v36), (37, v37), (38, v38), (62, .bool false)] a' → Keep [] w2 w' → R a' w')) :
    Code.wp Try.prog hparts_r14z (OutN R) a w2 := by
  subst hi
  have LT0 : ∀ W, Keep [] w2 W → W.cell? ⟨T, 0, none⟩ = some (.int .u64 (x.1 : Nat)) := fun W h => (hT.out.keep h (by simp)).pair.1
  have LT1 : ∀ W, Keep [] w2 W → W.cell? ⟨T, 1, none⟩ = some (.int .u64 (x.2 : Nat)) := fun W h => (hT.out.keep h (by simp)).pair.2
  have bx1 := u64_lt hx.1
  have bx2 := u64_lt hx.2
  have d0 : ¬ ((x.2 : Nat) : Int) ≤ ((x.1 : Nat) : Int) := by omega
  have dd0 : decide (((x.2 : Nat) : Int) ≤ ((x.1 : Nat) : Int)) = false := decide_eq_false d0
  obtain ⟨f, ⟨f1, f5, f8, f9, f10, f36, f37, f38, -⟩, rfl⟩ := hF.open120
  simp only [f1, f5, f8, f9, f10, f36, f37, f38]
  clear f1 f5 f8 f9 f10 f36 f37 f38 hF
  conv => arg 2; whnf
  refine wp_region_any (by kernel_rfl) ?_
  change wpAny _ _ _ _ _ _ _ (World.drew _)
  obtain ⟨W0, hW0⟩ : ∃ W0, W0 = w2.drew := ⟨_, rfl⟩
  rw [← hW0]
  have hk0 : Keep [] w2 W0 := by rw [hW0]; exact (Keep.refl [] w2).drew
  clear hW0
  go_simp
  refine wpAny_take (i := 0) (v := ?_) rfl (by kernel_rfl) (by kernel_rfl) (by kernel_rfl) (fun _ _ _ h => h) (Or.inl ⟨by rfl, ?_⟩) ?_
  rotate_left
  · intro y; go_simp; try (with_reducible rfl)
  rotate_left
  go_simp
  refine wpAny_take (i := 2) (v := ?_) rfl (by kernel_rfl) (by kernel_rfl) (by kernel_rfl) (fun _ _ _ h => h) (Or.inl ⟨by rfl, ?_⟩) ?_
  rotate_left
  · intro y; go_simp; try (with_reducible rfl)
  rotate_left
  go_simp
  refine wpAny_ready (rs := [1, 3]) (by kernel_rfl) (by simp) ?_
  refine AllReady.cons rfl (fun K hK => ?_) ?_
  ·
    apply step_wp
    · rfl
    have q := LT0 _ hk0
    refine ow_load1 _ _ rfl ⟨T, 0, none⟩ rfl (.int .u64 (x.1 : Nat)) (by simp [go_sem, q]) ?_
    clear q
    apply hK
    clear hK K
    go_simp
    refine wpAny_ready (rs := [3]) (by kernel_rfl) (by simp) ?_
    refine AllReady.cons rfl (fun K hK => ?_) ?_
    ·
      apply step_wp
      · rfl
      have q := LT1 _ hk0
      refine ow_load1 _ _ rfl ⟨T, 1, none⟩ rfl (.int .u64 (x.2 : Nat)) (by simp [go_sem, q]) ?_
      clear q
      apply hK
      clear hK K
      go_simp
      refine wpAny_take (i := 4) (v := ?_) rfl (by kernel_rfl) (by kernel_rfl) (by kernel_rfl) (fun _ _ _ h => h) (Or.inl ⟨by rfl, ?_⟩) ?_
      rotate_left
      · intro y; go_simp; try (with_reducible rfl)
      rotate_left
      go_simp
      refine wpAny_take (i := 5) (v := ?_) rfl (by kernel_rfl) (by kernel_rfl) (by kernel_rfl) (fun _ _ _ h => h) (Or.inl ⟨by rfl, ?_⟩) ?_
      rotate_left
      · intro y; go_simp; try (with_reducible rfl)
      rotate_left
      go_simp
      refine wpAny_take (i := 6) (v := ?_) rfl (by kernel_rfl) (by kernel_rfl) (by kernel_rfl) (fun _ _ _ h => h) (Or.inl ⟨by rfl, ?_⟩) ?_
      rotate_left
      · intro y; go_simp; try (with_reducible rfl)
      rotate_left
      go_simp
      refine wpAny_take (i := 7) (v := ?_) rfl (by kernel_rfl) (by kernel_rfl) (by kernel_rfl) (fun _ _ _ h => h) (Or.inl ⟨by rfl, ?_⟩) ?_
      rotate_left
      · intro y; go_simp; try (with_reducible rfl)
      rotate_left
      go_simp
      refine wpAny_take (i := 8) (v := ?_) rfl (by kernel_rfl) (by kernel_rfl) (by kernel_rfl) (fun _ _ _ h => h) (Or.inl ⟨by rfl, ?_⟩) ?_
      rotate_left
      · intro y; go_simp; try (with_reducible rfl)
      rotate_left
      go_simp
      refine wpAny_take (i := 9) (v := undef) rfl (by kernel_rfl) (by kernel_rfl) (by kernel_rfl) (fun _ _ _ h => h) (Or.inr ⟨by rfl, rfl⟩) ?_
      go_simp
      refine wpAny_take (i := 10) (v := undef) rfl (by kernel_rfl) (by kernel_rfl) (by kernel_rfl) (fun _ _ _ h => h) (Or.inr ⟨by rfl, rfl⟩) ?_
      go_simp
      refine wpAny_take (i := 11) (v := undef) rfl (by kernel_rfl) (by kernel_rfl) (by kernel_rfl) (fun _ _ _ h => h) (Or.inr ⟨by rfl, rfl⟩) ?_
      go_simp
      refine wpAny_take (i := 12) (v := undef) rfl (by kernel_rfl) (by kernel_rfl) (by kernel_rfl) (fun _ _ _ h => h) (Or.inr ⟨by rfl, rfl⟩) ?_
      go_simp
      refine wpAny_take (i := 13) (v := undef) rfl (by kernel_rfl) (by kernel_rfl) (by kernel_rfl) (fun _ _ _ h => h) (Or.inr ⟨by rfl, rfl⟩) ?_
      go_simp
      refine wpAny_take (i := 14) (v := undef) rfl (by kernel_rfl) (by kernel_rfl) (by kernel_rfl) (fun _ _ _ h => h) (Or.inr ⟨by rfl, rfl⟩) ?_
      go_simp
      refine wpAny_take (i := 15) (v := undef) rfl (by kernel_rfl) (by kernel_rfl) (by kernel_rfl) (fun _ _ _ h => h) (Or.inr ⟨by rfl, rfl⟩) ?_
      go_simp
      refine wpAny_take (i := 16) (v := undef) rfl (by kernel_rfl) (by kernel_rfl) (by kernel_rfl) (fun _ _ _ h => h) (Or.inr ⟨by rfl, rfl⟩) ?_
      go_simp
      refine wpAny_take (i := 17) (v := undef) rfl (by kernel_rfl) (by kernel_rfl) (by kernel_rfl) (fun _ _ _ h => h) (Or.inr ⟨by rfl, rfl⟩) ?_
      go_simp
      refine wpAny_take (i := 18) (v := ?_) rfl (by kernel_rfl) (by kernel_rfl) (by kernel_rfl) (fun _ _ _ h => h) (Or.inl ⟨by rfl, ?_⟩) ?_
      rotate_left
      · intro y; go_simp; try (with_reducible rfl)
      rotate_left
      go_simp
      refine wpAny_take (i := 19) (v := ?_) rfl (by kernel_rfl) (by kernel_rfl) (by kernel_rfl) (fun _ _ _ h => h) (Or.inl ⟨by rfl, ?_⟩) ?_
      rotate_left
      · intro y; go_simp; try (with_reducible rfl)
      rotate_left
      go_simp
      refine wpAny_done (by kernel_rfl) ?_ _
      exact hR.out _ _ ⟨rfl, rfl, by repeat (first | exact trivial | refine ⟨rfl, ?_⟩)⟩ hk0
    exact AllReady.nil
  refine AllReady.cons rfl (fun K hK => ?_) ?_
  ·
    apply step_wp
    · rfl
    have q := LT1 _ hk0
    refine ow_load1 _ _ rfl ⟨T, 1, none⟩ rfl (.int .u64 (x.2 : Nat)) (by simp [go_sem, q]) ?_
    clear q
    apply hK
    clear hK K
    go_simp
    refine wpAny_ready (rs := [1]) (by kernel_rfl) (by simp) ?_
    refine AllReady.cons rfl (fun K hK => ?_) ?_
    ·
      apply step_wp
      · rfl
      have q := LT0 _ hk0
      refine ow_load1 _ _ rfl ⟨T, 0, none⟩ rfl (.int .u64 (x.1 : Nat)) (by simp [go_sem, q]) ?_
      clear q
      apply hK
      clear hK K
      go_simp
      refine wpAny_take (i := 4) (v := ?_) rfl (by kernel_rfl) (by kernel_rfl) (by kernel_rfl) (fun _ _ _ h => h) (Or.inl ⟨by rfl, ?_⟩) ?_
      rotate_left
      · intro y; go_simp; try (with_reducible rfl)
      rotate_left
      go_simp
      refine wpAny_take (i := 5) (v := ?_) rfl (by kernel_rfl) (by kernel_rfl) (by kernel_rfl) (fun _ _ _ h => h) (Or.inl ⟨by rfl, ?_⟩) ?_
      rotate_left
      · intro y; go_simp; try (with_reducible rfl)
      rotate_left
      go_simp
      refine wpAny_take (i := 6) (v := ?_) rfl (by kernel_rfl) (by kernel_rfl) (by kernel_rfl) (fun _ _ _ h => h) (Or.inl ⟨by rfl, ?_⟩) ?_
      rotate_left
      · intro y; go_simp; try (with_reducible rfl)
      rotate_left
      go_simp
      refine wpAny_take (i := 7) (v := ?_) rfl (by kernel_rfl) (by kernel_rfl) (by kernel_rfl) (fun _ _ _ h => h) (Or.inl ⟨by rfl, ?_⟩) ?_
      rotate_left
      · intro y; go_simp; try (with_reducible rfl)
      rotate_left
      go_simp
      refine wpAny_take (i := 8) (v := ?_) rfl (by kernel_rfl) (by kernel_rfl) (by kernel_rfl) (fun _ _ _ h => h) (Or.inl ⟨by rfl, ?_⟩) ?_
      rotate_left
      · intro y; go_simp; try (with_reducible rfl)
      rotate_left
      go_simp
      refine wpAny_take (i := 9) (v := undef) rfl (by kernel_rfl) (by kernel_rfl) (by kernel_rfl) (fun _ _ _ h => h) (Or.inr ⟨by rfl, rfl⟩) ?_
      go_simp
      refine wpAny_take (i := 10) (v := undef) rfl (by kernel_rfl) (by kernel_rfl) (by kernel_rfl) (fun _ _ _ h => h) (Or.inr ⟨by rfl, rfl⟩) ?_
      go_simp
      refine wpAny_take (i := 11) (v := undef) rfl (by kernel_rfl) (by kernel_rfl) (by kernel_rfl) (fun _ _ _ h => h) (Or.inr ⟨by rfl, rfl⟩) ?_
      go_simp
      refine wpAny_take (i := 12) (v := undef) rfl (by kernel_rfl) (by kernel_rfl) (by kernel_rfl) (fun _ _ _ h => h) (Or.inr ⟨by rfl, rfl⟩) ?_
      go_simp
      refine wpAny_take (i := 13) (v := undef) rfl (by kernel_rfl) (by kernel_rfl) (by kernel_rfl) (fun _ _ _ h => h) (Or.inr ⟨by rfl, rfl⟩) ?_
      go_simp
      refine wpAny_take (i := 14) (v := undef) rfl (by kernel_rfl) (by kernel_rfl) (by kernel_rfl) (fun _ _ _ h => h) (Or.inr ⟨by rfl, rfl⟩) ?_
      go_simp
      refine wpAny_take (i := 15) (v := undef) rfl (by kernel_rfl) (by kernel_rfl) (by kernel_rfl) (fun _ _ _ h => h) (Or.inr ⟨by rfl, rfl⟩) ?_
      go_simp
      refine wpAny_take (i := 16) (v := undef) rfl (by kernel_rfl) (by kernel_rfl) (by kernel_rfl) (fun _ _ _ h => h) (Or.inr ⟨by rfl, rfl⟩) ?_
      go_simp
      refine wpAny_take (i := 17) (v := undef) rfl (by kernel_rfl) (by kernel_rfl) (by kernel_rfl) (fun _ _ _ h => h) (Or.inr ⟨by rfl, rfl⟩) ?_
      go_simp
      refine wpAny_take (i := 18) (v := ?_) rfl (by kernel_rfl) (by kernel_rfl) (by kernel_rfl) (fun _ _ _ h => h) (Or.inl ⟨by rfl, ?_⟩) ?_
      rotate_left
      · intro y; go_simp; try (with_reducible rfl)
      rotate_left
      go_simp
      refine wpAny_take (i := 19) (v := ?_) rfl (by kernel_rfl) (by kernel_rfl) (by kernel_rfl) (fun _ _ _ h => h) (Or.inl ⟨by rfl, ?_⟩) ?_
      rotate_left
      · intro y; go_simp; try (with_reducible rfl)
      rotate_left
      go_simp
      refine wpAny_done (by kernel_rfl) ?_ _
      exact hR.out _ _ ⟨rfl, rfl, by repeat (first | exact trivial | refine ⟨rfl, ?_⟩)⟩ hk0
    exact AllReady.nil
  exact AllReady.nil

noncomputable def hparts_r14p : Code := regionOf Try.f6 14
set_option maxRecDepth 100000 in
set_option maxHeartbeats 4000000 in
theorem parts_r14p (R : Act → World → Prop) (a : Act) (w2 : World) (T n c i : Nat) (A : Option Addr) (x : Nat × Nat) (v1 v5 v36 v37 v38 : Value) (b off : Nat) (y : Nat × Nat) (eA : A = some ⟨b, off, none⟩) (hi : 0 < i) (hin : i < n) (hn63 : (n : Int) ≤ 9223372036854775807) (hxy : y.2 < x.1) (hy : y.2 < 18446744073709551616) (hb : b < w2.heap.size) (hc : Hid (w2.cell? ⟨b, off + (i - 1) * 2 + 1, none⟩ = some (.int .u64 (y.2 : Nat)))) (hpos : x.1 < x.2) (hx : x.1 < 18446744073709551616 ∧ x.2 < 18446744073709551616) (hT : Hid (Blk w2 T 26 (pc x).toArray))
    (hF : Fr 120 [(1, v1), (5, v5), (8, .slice A n c), (9, .int .i64 i), (10, .pointer (some ⟨T, 0, none⟩)), (36, v36), (37, v37), (38, v38)] a)
    (hR : Hid (∀ a' w', Fr 120 [(1, v1), (5, v5), (8, .slice A n c), (36, v36), (37, v37), (38, v38), (62, .bool false)] a' → Keep [] w2 w' → R a' w')) :
    Code.wp Try.prog hparts_r14p (OutN R) a w2 := by
  subst eA
  have LY : ∀ W, Keep [] w2 W → W.cell? ⟨b, off + (i - 1) * 2 + 1, none⟩ = some (.int .u64 (y.2 : Nat)) := fun W h => (h.cell (p := ⟨b, off + (i - 1) * 2 + 1, none⟩) hb (by simp)).trans hc.out
  have by2 := u64_lt hy
  have d1 : ¬ ((x.1 : Nat) : Int) ≤ ((y.2 : Nat) : Int) := by omega
  have dd1 : decide (((x.1 : Nat) : Int) ≤ ((y.2 : Nat) : Int)) = false := decide_eq_false d1
  have hi1 : (0 : Int) < (i : Int) := by omega
  have hi2 : (1 : Int) ≤ (i : Int) := by omega
  have hdi : decide ((0 : Int) < (i : Int)) = true := decide_eq_true hi1
  have hw1 : IntKind.i64.wrap ((i : Int) - 1) = (i : Int) - 1 := IntWalk.i64_in _ ⟨by omega, by omega⟩
  have hw2 : ((i : Int) - 1).toNat = i - 1 := by omega
  have bj : (0 : Int) ≤ (i : Int) - 1 ∧ (i : Int) - 1 < n := ⟨by omega, by omega⟩
  have LT0 : ∀ W, Keep [] w2 W → W.cell? ⟨T, 0, none⟩ = some (.int .u64 (x.1 : Nat)) := fun W h => (hT.out.keep h (by simp)).pair.1
  have LT1 : ∀ W, Keep [] w2 W → W.cell? ⟨T, 1, none⟩ = some (.int .u64 (x.2 : Nat)) := fun W h => (hT.out.keep h (by simp)).pair.2
  have bx1 := u64_lt hx.1
  have bx2 := u64_lt hx.2
  have d0 : ¬ ((x.2 : Nat) : Int) ≤ ((x.1 : Nat) : Int) := by omega
  have dd0 : decide (((x.2 : Nat) : Int) ≤ ((x.1 : Nat) : Int)) = false := decide_eq_false d0
  obtain ⟨f, ⟨f1, f5, f8, f9, f10, f36, f37, f38, -⟩, rfl⟩ := hF.open120
  simp only [f1, f5, f8, f9, f10, f36, f37, f38]
  clear f1 f5 f8 f9 f10 f36 f37 f38 hF
  conv => arg 2; whnf
  refine wp_region_any (by kernel_rfl) ?_
  change wpAny _ _ _ _ _ _ _ (World.drew _)
  obtain ⟨W0, hW0⟩ : ∃ W0, W0 = w2.drew := ⟨_, rfl⟩
  rw [← hW0]
  have hk0 : Keep [] w2 W0 := by rw [hW0]; exact (Keep.refl [] w2).drew
  clear hW0
  go_simp
  refine wpAny_take (i := 0) (v := ?_) rfl (by kernel_rfl) (by kernel_rfl) (by kernel_rfl) (fun _ _ _ h => h) (Or.inl ⟨by rfl, ?_⟩) ?_
  rotate_left
  · intro y; go_simp; try (with_reducible rfl)
  rotate_left
  go_simp
  refine wpAny_take (i := 2) (v := ?_) rfl (by kernel_rfl) (by kernel_rfl) (by kernel_rfl) (fun _ _ _ h => h) (Or.inl ⟨by rfl, ?_⟩) ?_
  rotate_left
  · intro y; go_simp; try (with_reducible rfl)
  rotate_left
  go_simp
  refine wpAny_ready (rs := [1, 3]) (by kernel_rfl) (by simp) ?_
  refine AllReady.cons rfl (fun K hK => ?_) ?_
  ·
    apply step_wp
    · rfl
    have q := LT0 _ hk0
    refine ow_load1 _ _ rfl ⟨T, 0, none⟩ rfl (.int .u64 (x.1 : Nat)) (by simp [go_sem, q]) ?_
    clear q
    apply hK
    clear hK K
    go_simp
    refine wpAny_ready (rs := [3]) (by kernel_rfl) (by simp) ?_
    refine AllReady.cons rfl (fun K hK => ?_) ?_
    ·
      apply step_wp
      · rfl
      have q := LT1 _ hk0
      refine ow_load1 _ _ rfl ⟨T, 1, none⟩ rfl (.int .u64 (x.2 : Nat)) (by simp [go_sem, q]) ?_
      clear q
      apply hK
      clear hK K
      go_simp
      refine wpAny_take (i := 4) (v := ?_) rfl (by kernel_rfl) (by kernel_rfl) (by kernel_rfl) (fun _ _ _ h => h) (Or.inl ⟨by rfl, ?_⟩) ?_
      rotate_left
      · intro y; go_simp; try (with_reducible rfl)
      rotate_left
      go_simp
      refine wpAny_take (i := 5) (v := ?_) rfl (by kernel_rfl) (by kernel_rfl) (by kernel_rfl) (fun _ _ _ h => h) (Or.inl ⟨by rfl, ?_⟩) ?_
      rotate_left
      · intro y; go_simp; try (with_reducible rfl)
      rotate_left
      go_simp
      refine wpAny_take (i := 6) (v := ?_) rfl (by kernel_rfl) (by kernel_rfl) (by kernel_rfl) (fun _ _ _ h => h) (Or.inl ⟨by rfl, ?_⟩) ?_
      rotate_left
      · intro y; go_simp; try (with_reducible rfl)
      rotate_left
      go_simp
      refine wpAny_take (i := 7) (v := ?_) rfl (by kernel_rfl) (by kernel_rfl) (by kernel_rfl) (fun _ _ _ h => h) (Or.inl ⟨by rfl, ?_⟩) ?_
      rotate_left
      · intro y; go_simp; try (with_reducible rfl)
      rotate_left
      go_simp
      refine wpAny_take (i := 8) (v := ?_) rfl (by kernel_rfl) (by kernel_rfl) (by kernel_rfl) (fun _ _ _ h => h) (Or.inl ⟨by rfl, ?_⟩) ?_
      rotate_left
      · intro y; go_simp; try (with_reducible rfl)
      rotate_left
      go_simp
      refine wpAny_take (i := 9) (v := ?_) rfl (by kernel_rfl) (by kernel_rfl) (by kernel_rfl) (fun _ _ _ h => h) (Or.inl ⟨by rfl, ?_⟩) ?_
      rotate_left
      · intro y; go_simp; try (with_reducible rfl)
      rotate_left
      go_simp
      refine wpAny_take (i := 10) (v := ?_) rfl (by kernel_rfl) (by kernel_rfl) (by kernel_rfl) (fun _ _ _ h => h) (Or.inl ⟨by rfl, ?_⟩) ?_
      rotate_left
      · intro y; go_simp; try (with_reducible rfl)
      rotate_left
      go_simp
      refine wpAny_take (i := 11) (v := ?_) rfl (by kernel_rfl) (by kernel_rfl) (by kernel_rfl) (fun _ _ _ h => h) (Or.inl ⟨by rfl, ?_⟩) ?_
      rotate_left
      · intro y; go_simp; try (with_reducible rfl)
      rotate_left
      go_simp
      refine wpAny_take (i := 12) (v := ?_) rfl (by kernel_rfl) (by kernel_rfl) (by kernel_rfl) (fun _ _ _ h => h) (Or.inl ⟨by rfl, ?_⟩) ?_
      rotate_left
      · intro y; go_simp; try (with_reducible rfl)
      rotate_left
      go_simp
      refine wpAny_take (i := 13) (v := ?_) rfl (by kernel_rfl) (by kernel_rfl) (by kernel_rfl) (fun _ _ _ h => h) (Or.inl ⟨by rfl, ?_⟩) ?_
      rotate_left
      · intro y; go_simp; try (with_reducible rfl)
      rotate_left
      go_simp
      refine wpAny_take (i := 15) (v := ?_) rfl (by kernel_rfl) (by kernel_rfl) (by kernel_rfl) (fun _ _ _ h => h) (Or.inl ⟨by rfl, ?_⟩) ?_
      rotate_left
      · intro y; go_simp; try (with_reducible rfl)
      rotate_left
      go_simp
      refine wpAny_ready (rs := [14, 16]) (by kernel_rfl) (by simp) ?_
      refine AllReady.cons rfl (fun K hK => ?_) ?_
      ·
        apply step_wpG
        · rfl
        have q := LY _ hk0
        refine ow_load1 _ _ rfl ⟨b, off + (i - 1) * 2 + 1, none⟩ rfl (.int .u64 (y.2 : Nat)) (by simp [go_sem, q]) ?_
        clear q
        apply hK
        clear hK K
        go_simp
        refine wpAny_ready (rs := [16]) (by kernel_rfl) (by simp) ?_
        refine AllReady.cons rfl (fun K hK => ?_) ?_
        ·
          apply step_wpG
          · rfl
          have q := LT0 _ hk0
          refine ow_load1 _ _ rfl ⟨T, 0, none⟩ rfl (.int .u64 (x.1 : Nat)) (by simp [go_sem, q]) ?_
          clear q
          apply hK
          clear hK K
          go_simp
          refine wpAny_take (i := 17) (v := ?_) rfl (by kernel_rfl) (by kernel_rfl) (by kernel_rfl) (fun _ _ _ h => h) (Or.inl ⟨by rfl, ?_⟩) ?_
          rotate_left
          · intro y; go_simp; try (with_reducible rfl)
          rotate_left
          go_simp
          refine wpAny_take (i := 18) (v := ?_) rfl (by kernel_rfl) (by kernel_rfl) (by kernel_rfl) (fun _ _ _ h => h) (Or.inl ⟨by rfl, ?_⟩) ?_
          rotate_left
          · intro y; go_simp; try (with_reducible rfl)
          rotate_left
          go_simp
          refine wpAny_take (i := 19) (v := ?_) rfl (by kernel_rfl) (by kernel_rfl) (by kernel_rfl) (fun _ _ _ h => h) (Or.inl ⟨by rfl, ?_⟩) ?_
          rotate_left
          · intro y; go_simp; try (with_reducible rfl)
          rotate_left
          go_simp
          refine wpAny_done (by kernel_rfl) ?_ _
          exact hR.out _ _ ⟨rfl, rfl, by repeat (first | exact trivial | refine ⟨rfl, ?_⟩)⟩ hk0
        exact AllReady.nil
      refine AllReady.cons rfl (fun K hK => ?_) ?_
      ·
        apply step_wpG
        · rfl
        have q := LT0 _ hk0
        refine ow_load1 _ _ rfl ⟨T, 0, none⟩ rfl (.int .u64 (x.1 : Nat)) (by simp [go_sem, q]) ?_
        clear q
        apply hK
        clear hK K
        go_simp
        refine wpAny_ready (rs := [14]) (by kernel_rfl) (by simp) ?_
        refine AllReady.cons rfl (fun K hK => ?_) ?_
        ·
          apply step_wpG
          · rfl
          have q := LY _ hk0
          refine ow_load1 _ _ rfl ⟨b, off + (i - 1) * 2 + 1, none⟩ rfl (.int .u64 (y.2 : Nat)) (by simp [go_sem, q]) ?_
          clear q
          apply hK
          clear hK K
          go_simp
          refine wpAny_take (i := 17) (v := ?_) rfl (by kernel_rfl) (by kernel_rfl) (by kernel_rfl) (fun _ _ _ h => h) (Or.inl ⟨by rfl, ?_⟩) ?_
          rotate_left
          · intro y; go_simp; try (with_reducible rfl)
          rotate_left
          go_simp
          refine wpAny_take (i := 18) (v := ?_) rfl (by kernel_rfl) (by kernel_rfl) (by kernel_rfl) (fun _ _ _ h => h) (Or.inl ⟨by rfl, ?_⟩) ?_
          rotate_left
          · intro y; go_simp; try (with_reducible rfl)
          rotate_left
          go_simp
          refine wpAny_take (i := 19) (v := ?_) rfl (by kernel_rfl) (by kernel_rfl) (by kernel_rfl) (fun _ _ _ h => h) (Or.inl ⟨by rfl, ?_⟩) ?_
          rotate_left
          · intro y; go_simp; try (with_reducible rfl)
          rotate_left
          go_simp
          refine wpAny_done (by kernel_rfl) ?_ _
          exact hR.out _ _ ⟨rfl, rfl, by repeat (first | exact trivial | refine ⟨rfl, ?_⟩)⟩ hk0
        exact AllReady.nil
      exact AllReady.nil
    exact AllReady.nil
  refine AllReady.cons rfl (fun K hK => ?_) ?_
  ·
    apply step_wp
    · rfl
    have q := LT1 _ hk0
    refine ow_load1 _ _ rfl ⟨T, 1, none⟩ rfl (.int .u64 (x.2 : Nat)) (by simp [go_sem, q]) ?_
    clear q
    apply hK
    clear hK K
    go_simp
    refine wpAny_ready (rs := [1]) (by kernel_rfl) (by simp) ?_
    refine AllReady.cons rfl (fun K hK => ?_) ?_
    ·
      apply step_wp
      · rfl
      have q := LT0 _ hk0
      refine ow_load1 _ _ rfl ⟨T, 0, none⟩ rfl (.int .u64 (x.1 : Nat)) (by simp [go_sem, q]) ?_
      clear q
      apply hK
      clear hK K
      go_simp
      refine wpAny_take (i := 4) (v := ?_) rfl (by kernel_rfl) (by kernel_rfl) (by kernel_rfl) (fun _ _ _ h => h) (Or.inl ⟨by rfl, ?_⟩) ?_
      rotate_left
      · intro y; go_simp; try (with_reducible rfl)
      rotate_left
      go_simp
      refine wpAny_take (i := 5) (v := ?_) rfl (by kernel_rfl) (by kernel_rfl) (by kernel_rfl) (fun _ _ _ h => h) (Or.inl ⟨by rfl, ?_⟩) ?_
      rotate_left
      · intro y; go_simp; try (with_reducible rfl)
      rotate_left
      go_simp
      refine wpAny_take (i := 6) (v := ?_) rfl (by kernel_rfl) (by kernel_rfl) (by kernel_rfl) (fun _ _ _ h => h) (Or.inl ⟨by rfl, ?_⟩) ?_
      rotate_left
      · intro y; go_simp; try (with_reducible rfl)
      rotate_left
      go_simp
      refine wpAny_take (i := 7) (v := ?_) rfl (by kernel_rfl) (by kernel_rfl) (by kernel_rfl) (fun _ _ _ h => h) (Or.inl ⟨by rfl, ?_⟩) ?_
      rotate_left
      · intro y; go_simp; try (with_reducible rfl)
      rotate_left
      go_simp
      refine wpAny_take (i := 8) (v := ?_) rfl (by kernel_rfl) (by kernel_rfl) (by kernel_rfl) (fun _ _ _ h => h) (Or.inl ⟨by rfl, ?_⟩) ?_
      rotate_left
      · intro y; go_simp; try (with_reducible rfl)
      rotate_left
      go_simp
      refine wpAny_take (i := 9) (v := ?_) rfl (by kernel_rfl) (by kernel_rfl) (by kernel_rfl) (fun _ _ _ h => h) (Or.inl ⟨by rfl, ?_⟩) ?_
      rotate_left
      · intro y; go_simp; try (with_reducible rfl)
      rotate_left
      go_simp
      refine wpAny_take (i := 10) (v := ?_) rfl (by kernel_rfl) (by kernel_rfl) (by kernel_rfl) (fun _ _ _ h => h) (Or.inl ⟨by rfl, ?_⟩) ?_
      rotate_left
      · intro y; go_simp; try (with_reducible rfl)
      rotate_left
      go_simp
      refine wpAny_take (i := 11) (v := ?_) rfl (by kernel_rfl) (by kernel_rfl) (by kernel_rfl) (fun _ _ _ h => h) (Or.inl ⟨by rfl, ?_⟩) ?_
      rotate_left
      · intro y; go_simp; try (with_reducible rfl)
      rotate_left
      go_simp
      refine wpAny_take (i := 12) (v := ?_) rfl (by kernel_rfl) (by kernel_rfl) (by kernel_rfl) (fun _ _ _ h => h) (Or.inl ⟨by rfl, ?_⟩) ?_
      rotate_left
      · intro y; go_simp; try (with_reducible rfl)
      rotate_left
      go_simp
      refine wpAny_take (i := 13) (v := ?_) rfl (by kernel_rfl) (by kernel_rfl) (by kernel_rfl) (fun _ _ _ h => h) (Or.inl ⟨by rfl, ?_⟩) ?_
      rotate_left
      · intro y; go_simp; try (with_reducible rfl)
      rotate_left
      go_simp
      refine wpAny_take (i := 15) (v := ?_) rfl (by kernel_rfl) (by kernel_rfl) (by kernel_rfl) (fun _ _ _ h => h) (Or.inl ⟨by rfl, ?_⟩) ?_
      rotate_left
      · intro y; go_simp; try (with_reducible rfl)
      rotate_left
      go_simp
      refine wpAny_ready (rs := [14, 16]) (by kernel_rfl) (by simp) ?_
      refine AllReady.cons rfl (fun K hK => ?_) ?_
      ·
        apply step_wpG
        · rfl
        have q := LY _ hk0
        refine ow_load1 _ _ rfl ⟨b, off + (i - 1) * 2 + 1, none⟩ rfl (.int .u64 (y.2 : Nat)) (by simp [go_sem, q]) ?_
        clear q
        apply hK
        clear hK K
        go_simp
        refine wpAny_ready (rs := [16]) (by kernel_rfl) (by simp) ?_
        refine AllReady.cons rfl (fun K hK => ?_) ?_
        ·
          apply step_wpG
          · rfl
          have q := LT0 _ hk0
          refine ow_load1 _ _ rfl ⟨T, 0, none⟩ rfl (.int .u64 (x.1 : Nat)) (by simp [go_sem, q]) ?_
          clear q
          apply hK
          clear hK K
          go_simp
          refine wpAny_take (i := 17) (v := ?_) rfl (by kernel_rfl) (by kernel_rfl) (by kernel_rfl) (fun _ _ _ h => h) (Or.inl ⟨by rfl, ?_⟩) ?_
          rotate_left
          · intro y; go_simp; try (with_reducible rfl)
          rotate_left
          go_simp
          refine wpAny_take (i := 18) (v := ?_) rfl (by kernel_rfl) (by kernel_rfl) (by kernel_rfl) (fun _ _ _ h => h) (Or.inl ⟨by rfl, ?_⟩) ?_
          rotate_left
          · intro y; go_simp; try (with_reducible rfl)
          rotate_left
          go_simp
          refine wpAny_take (i := 19) (v := ?_) rfl (by kernel_rfl) (by kernel_rfl) (by kernel_rfl) (fun _ _ _ h => h) (Or.inl ⟨by rfl, ?_⟩) ?_
          rotate_left
          · intro y; go_simp; try (with_reducible rfl)
          rotate_left
          go_simp
          refine wpAny_done (by kernel_rfl) ?_ _
          exact hR.out _ _ ⟨rfl, rfl, by repeat (first | exact trivial | refine ⟨rfl, ?_⟩)⟩ hk0
        exact AllReady.nil
      refine AllReady.cons rfl (fun K hK => ?_) ?_
      ·
        apply step_wpG
        · rfl
        have q := LT0 _ hk0
        refine ow_load1 _ _ rfl ⟨T, 0, none⟩ rfl (.int .u64 (x.1 : Nat)) (by simp [go_sem, q]) ?_
        clear q
        apply hK
        clear hK K
        go_simp
        refine wpAny_ready (rs := [14]) (by kernel_rfl) (by simp) ?_
        refine AllReady.cons rfl (fun K hK => ?_) ?_
        ·
          apply step_wpG
          · rfl
          have q := LY _ hk0
          refine ow_load1 _ _ rfl ⟨b, off + (i - 1) * 2 + 1, none⟩ rfl (.int .u64 (y.2 : Nat)) (by simp [go_sem, q]) ?_
          clear q
          apply hK
          clear hK K
          go_simp
          refine wpAny_take (i := 17) (v := ?_) rfl (by kernel_rfl) (by kernel_rfl) (by kernel_rfl) (fun _ _ _ h => h) (Or.inl ⟨by rfl, ?_⟩) ?_
          rotate_left
          · intro y; go_simp; try (with_reducible rfl)
          rotate_left
          go_simp
          refine wpAny_take (i := 18) (v := ?_) rfl (by kernel_rfl) (by kernel_rfl) (by kernel_rfl) (fun _ _ _ h => h) (Or.inl ⟨by rfl, ?_⟩) ?_
          rotate_left
          · intro y; go_simp; try (with_reducible rfl)
          rotate_left
          go_simp
          refine wpAny_take (i := 19) (v := ?_) rfl (by kernel_rfl) (by kernel_rfl) (by kernel_rfl) (fun _ _ _ h => h) (Or.inl ⟨by rfl, ?_⟩) ?_
          rotate_left
          · intro y; go_simp; try (with_reducible rfl)
          rotate_left
          go_simp
          refine wpAny_done (by kernel_rfl) ?_ _
          exact hR.out _ _ ⟨rfl, rfl, by repeat (first | exact trivial | refine ⟨rfl, ?_⟩)⟩ hk0
        exact AllReady.nil
      exact AllReady.nil
    exact AllReady.nil
  exact AllReady.nil

noncomputable def hpartsR : Code := loopOf Try.f6 1
set_option maxRecDepth 100000 in
set_option maxHeartbeats 8000000 in
theorem parts_rising (R : Act → World → Prop) (a : Act) (w2 : World) (n c : Nat) (A : Option Addr) (l : List (Nat × Nat)) (v1 v5 : Value) (hn : Hid (n = l.length)) (hA : Hid (S2 w2 (.slice A n c) l)) (hl : Hid (Span.Nrm l))
    (hF : Fr 120 [(1, v1), (5, v5), (8, .slice A n c), (36, .slice A n c), (37, .int .i64 (n : Nat)), (38, .int .i64 0)] a)
    (hQ : ∀ a' w', Fr 120 [(1, v1), (5, v5), (8, .slice A n c)] a' → Keep [] w2 w' → R a' w') :
    Code.wp Try.prog (.loop hpartsR) (OutX 2 R) a w2 := by
  refine wp_loop_ghost_k (fun μ a wr => ∃ i : Nat, μ + i = n ∧ Fr 120 [(1, v1), (5, v5), (8, .slice A n c), (36, .slice A n c), (37, .int .i64 (n : Nat)), (38, .int .i64 i)] a ∧ Keep [] w2 wr)
    n ⟨0, by omega, hF, Keep.refl _ _⟩ ?_
  clear hF
  rintro μ a wr ⟨i, hmi, hFr, hk⟩ J K hJ hK1
  have HJ := Lib.hid hJ
  have HM := Lib.hid hmi
  have HK := Lib.hid hk
  have HQ := Lib.hid hQ
  obtain ⟨fr, ⟨f1, f5, f8, f36, f37, f38, -⟩, rfl⟩ := hFr.open120
  simp only [f1, f5, f8, f36, f37, f38]
  clear f1 f5 f8 f36 f37 f38 hFr hJ hmi hk hQ
  conv => arg 2; whnf
  by_cases hi : i < n
  · obtain ⟨b, off, eA, hb, c0, c1⟩ := (hA.out.keep0 HK.out).at i (by have := hn.out; omega)
    have hx := hA.out.p64.getD i
    have hpos := hl.out.posD i (by have := hn.out; omega)
    have hn63 : (n : Int) ≤ 9223372036854775807 := by
      obtain ⟨A', c', e, h1, h2, -⟩ := hA.out
      simp only [Value.slice.injEq] at e
      have := hn.out
      omega
    have hwr : wrap64 ((i : Int) + 1) = (i : Int) + 1 := by unfold wrap64; omega
    have bi : (0 : Int) ≤ i ∧ (i : Int) < n := ⟨by omega, by omega⟩
    have HN := Lib.hid (fun h => hl.out.next (i - 1) h)
    obtain ⟨x, hxx⟩ : ∃ x, x = l.getD i (0, 0) := ⟨_, rfl⟩
    have HXX := Lib.hid hxx
    rw [← hxx] at c0 c1 hx hpos
    subst eA
    obtain ⟨X, hX⟩ : ∃ X, X = (pc x).toArray := ⟨_, rfl⟩
    have HX := Lib.hid hX
    have HXS := Lib.hid (show X.size = 2 by rw [hX]; rfl)
    have HX1 := Lib.hid (show X.all (·.oneCell') = true by rw [hX]; exact pc_all x)
    clear hxx hX
    obtain ⟨T, hT⟩ : ∃ T, T = wr.heap.size := ⟨_, rfl⟩
    go_upto_region 14 with (first
      | (refine wl_load_pair rfl _ _ rfl b (off + i * 2) x rfl _ Try.underlying26 rfl srSz c0 c1 ?_; rw [← HX.out])
      | (refine wl_alloc_rowZ rfl _ rfl (pc (0, 0)).toArray 2 srZ ?_; intro w3 hB3 hk3 hz3; have HB3 := Lib.hid hB3; have HK3 := Lib.hid hk3; clear hB3 hk3 hz3)
      | (refine wl_store_row rfl _ _ _ rfl wr.heap.size rfl X rfl _ _ HB3.out (by rw [HXS.out]; exact srSz) (by rw [HXS.out]; rfl) HX1.out ?_; intro w4 hB4 hk4 hz4; have HB4 := Lib.hid hB4; have HK4 := Lib.hid hk4; clear hB4 hk4 hz4))
    have HK4' := Lib.hid (show Keep [] wr w4 from HK3.out.trans' HK4.out (fun q hq => by right; simp at hq; omega))
    have HKW := Lib.hid (HK.out.trans HK4'.out)
    have HBT := (show Blk w4 T 26 (pc x).toArray by rw [hT, ← HX.out]; exact HB4.out)
    obtain ⟨t0, t1⟩ := HBT.pair
    rw [← hT]
    clear hT HB3 HB4 HK3 HK4 c0 c1
    have bx1 := u64_lt hx.1
    have bx2 := u64_lt hx.2
    have HTB := Lib.hid HBT
    clear HBT t0 t1 bx1 bx2
    have fin : ∀ (f2 : Nat → Value) (w5 : World), True := fun _ _ => trivial
    clear fin
    by_cases h0 : i = 0
    · refine OutN.use (parts_r14z (fun a' w' => Fr 120 [(1, v1), (5, v5), (8, .slice (some ⟨b, off, none⟩) n c), (36, .slice (some ⟨b, off, none⟩) n c), (37, .int .i64 (n : Nat)), (38, .int .i64 i), (62, .bool false)] a' ∧ Keep [] w4 w') _ w4 T n c i (some ⟨b, off, none⟩) x _ _ _ _ _ h0 hpos hx HTB
        ⟨rfl, rfl, by repeat (first | exact trivial | refine ⟨rfl, ?_⟩)⟩ (Lib.hid fun a' w' h1 h2 => ⟨h1, h2⟩)) ?_
      rintro a' w5 ⟨hF5, hk5⟩
      have HK5 := Lib.hid (HKW.out.trans hk5)
      obtain ⟨fr', ⟨f1, f5, f8, f36, f37, f38, f62, -⟩, rfl⟩ := hF5.open120
      simp only [f1, f5, f8, f36, f37, f38, f62]
      clear f1 f5 f8 f36 f37 f38 f62 hF5 hk5 h0
      go_wp2_with fail
      exact Handed.intro (μ - 1) (by have := HM.out; omega) (HJ.out _ _ _ ⟨i + 1, by have := HM.out; omega, ⟨rfl, rfl, by repeat (first | exact trivial | refine ⟨rfl, ?_⟩)⟩, HK5.out⟩)
    · have hne := HN.out (by have := hn.out; omega)
      obtain ⟨b', off', eA, hb', -, c1⟩ := (hA.out.keep0 HKW.out).at (i - 1) (by have := hn.out; omega)
      rw [show i - 1 + 1 = i by omega, ← HXX.out] at hne
      have hy := hA.out.p64.getD (i - 1)
      refine OutN.use (parts_r14p (fun a' w' => Fr 120 [(1, v1), (5, v5), (8, .slice (some ⟨b, off, none⟩) n c), (36, .slice (some ⟨b, off, none⟩) n c), (37, .int .i64 (n : Nat)), (38, .int .i64 i), (62, .bool false)] a' ∧ Keep [] w4 w') _ w4 T n c i (some ⟨b, off, none⟩) x _ _ _ _ _ b' off' _ eA (by omega) hi hn63 hne hy.2 hb' (Lib.hid c1) hpos hx HTB
        ⟨rfl, rfl, by repeat (first | exact trivial | refine ⟨rfl, ?_⟩)⟩ (Lib.hid fun a' w' h1 h2 => ⟨h1, h2⟩)) ?_
      rintro a' w5 ⟨hF5, hk5⟩
      have HK5 := Lib.hid (HKW.out.trans hk5)
      obtain ⟨fr', ⟨f1, f5, f8, f36, f37, f38, f62, -⟩, rfl⟩ := hF5.open120
      simp only [f1, f5, f8, f36, f37, f38, f62]
      clear f1 f5 f8 f36 f37 f38 f62 hF5 hk5 hne hy c1 eA
      go_wp2_with fail
      exact Handed.intro (μ - 1) (by have := HM.out; omega) (HJ.out _ _ _ ⟨i + 1, by have := HM.out; omega, ⟨rfl, rfl, by repeat (first | exact trivial | refine ⟨rfl, ?_⟩)⟩, HK5.out⟩)
  · obtain rfl : i = n := by have := HM.out; omega
    go_wp2_with fail
    exact ⟨rfl, HQ.out _ _ ⟨rfl, rfl, by repeat (first | exact trivial | refine ⟨rfl, ?_⟩)⟩ HK.out⟩
end Go.Proofs.Ytpckbmebdhmfaaa
