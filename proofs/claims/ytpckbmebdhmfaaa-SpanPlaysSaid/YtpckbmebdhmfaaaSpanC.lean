/-
  Span's laws: the other loops of SpanAsks and SpanParts.
-/
import Derived.Test.YtpckbmebdhmfaaaSpanB
namespace Go.Proofs.Ytpckbmebdhmfaaa
open Go.RowKit

theorem srEq (d : Nat) (x y : Nat × Nat) (hx : x.1 < 18446744073709551616 ∧ x.2 < 18446744073709551616) (hy : y.1 < 18446744073709551616 ∧ y.2 < 18446744073709551616) (W : World) :
    (Op.equalIn (d + 2) 26 (.agg (pc x).toArray) (.agg (pc y).toArray)).run Try.prog W = .ok (decide (x = y)) W :=
  run_eq_pair rfl Try.underlying26 rfl rfl rfl rfl (by kernel_rfl) Try.underlying24 (by kernel_rfl) (by kernel_rfl) 2 (by kernel_rfl) d x y hx hy W
/-- A pair of a slice of pairs. -/
theorem S2.at {w : World} {A : Option Addr} {n c : Nat} {l : List (Nat × Nat)} (h : S2 w (.slice A n c) l) (i : Nat) (hi : i < l.length) :
    ∃ b off, A = some ⟨b, off, none⟩ ∧ b < w.heap.size ∧ w.cell? ⟨b, off + i * 2, none⟩ = some (.int .u64 ((l.getD i (0, 0)).1 : Nat)) ∧ w.cell? ⟨b, off + i * 2 + 1, none⟩ = some (.int .u64 ((l.getD i (0, 0)).2 : Nat)) := by
  obtain ⟨b, off, c', e, _, _, hlt, hc⟩ := h.cells (by omega)
  simp only [Value.slice.injEq] at e
  obtain ⟨rfl, _, _⟩ := e
  exact ⟨b, off, rfl, hlt, (hc i hi).1, (hc i hi).2⟩
/-- Are so many of them apart from a range? -/
def em (l : List (Nat × Nat)) (r : Nat × Nat) (i : Nat) : Bool := (l.take i).all fun x => decide (x.2 ≤ r.1) || decide (r.2 ≤ x.1)
theorem em_succ (l : List (Nat × Nat)) (r : Nat × Nat) (i : Nat) (h : i < l.length) : em l r (i + 1) = (em l r i && (decide ((l.getD i (0, 0)).2 ≤ r.1) || decide (r.2 ≤ (l.getD i (0, 0)).1))) := by
  unfold em
  rw [List.take_add_one, List.all_append, List.getElem?_eq_getElem h, List.getD_eq_getElem?_getD, List.getElem?_eq_getElem h]
  simp
theorem pcZ_size {x : Nat × Nat} : (pc (0, 0)).toArray.size = (pc x).toArray.size := rfl

noncomputable def hasks_eqR : Code := regionOf Try.f4 32
set_option maxRecDepth 100000 in
set_option maxHeartbeats 4000000 in
theorem asks_eq_reg (R : Act → World → Prop) (a : Act) (w2 : World) (b off b2 off2 n c d i : Nat) (A B : Option Addr) (x : Nat × Nat) (v3 v5 v113 : Value) (eA : A = some ⟨b, off, none⟩) (eB : B = some ⟨b2, off2, none⟩) (hi : i < n) (hx : x.1 < 18446744073709551616 ∧ x.2 < 18446744073709551616)
    (hb : b < w2.heap.size) (hb2 : b2 < w2.heap.size) (h0 : Hid (w2.cell? ⟨b, off + i * 2, none⟩ = some (.int .u64 (x.1 : Nat)))) (h1 : Hid (w2.cell? ⟨b, off + i * 2 + 1, none⟩ = some (.int .u64 (x.2 : Nat))))
    (g0 : Hid (w2.cell? ⟨b2, off2 + i * 2, none⟩ = some (.int .u64 (x.1 : Nat)))) (g1 : Hid (w2.cell? ⟨b2, off2 + i * 2 + 1, none⟩ = some (.int .u64 (x.2 : Nat))))
    (hF : Fr 128 [(3, v3), (5, v5), (8, .slice B n d), (13, .slice A n c), (14, .int .i64 i), (113, v113), (114, .int .i64 (n : Nat)), (115, .int .i64 i)] a)
    (hR : Hid (∀ a' w', Fr 128 [(3, v3), (5, v5), (8, .slice B n d), (13, .slice A n c), (113, v113), (114, .int .i64 (n : Nat)), (115, .int .i64 i), (126, .bool false)] a' → Keep [] w2 w' → R a' w')) :
    Code.wp Try.prog hasks_eqR (OutN R) a w2 := by
  subst eA; subst eB
  have LA : ∀ W, Keep [] w2 W → W.cell? ⟨b, off + i * 2, none⟩ = some (.int .u64 (x.1 : Nat)) ∧ W.cell? ⟨b, off + i * 2 + 1, none⟩ = some (.int .u64 (x.2 : Nat)) := fun W h => ⟨(h.cell (p := ⟨b, off + i * 2, none⟩) hb (by simp)).trans h0.out, (h.cell (p := ⟨b, off + i * 2 + 1, none⟩) hb (by simp)).trans h1.out⟩
  have LB : ∀ W, Keep [] w2 W → W.cell? ⟨b2, off2 + i * 2, none⟩ = some (.int .u64 (x.1 : Nat)) ∧ W.cell? ⟨b2, off2 + i * 2 + 1, none⟩ = some (.int .u64 (x.2 : Nat)) := fun W h => ⟨(h.cell (p := ⟨b2, off2 + i * 2, none⟩) hb2 (by simp)).trans g0.out, (h.cell (p := ⟨b2, off2 + i * 2 + 1, none⟩) hb2 (by simp)).trans g1.out⟩
  have EQ : ∀ W, (Op.equalIn 10000 26 (.agg (pc x).toArray) (.agg (pc x).toArray)).run Try.prog W = .ok true W := fun W => by
    have := srEq 9998 x x hx hx W
    rwa [decide_eq_true rfl] at this
  obtain ⟨X, hX⟩ : ∃ X, X = (pc x).toArray := ⟨_, rfl⟩
  rw [← hX] at EQ
  have HX := Lib.hid hX
  clear hX
  have bi : (0 : Int) ≤ i ∧ (i : Int) < n := ⟨by omega, by omega⟩
  obtain ⟨f, ⟨f3, f5, f8, f13, f14, f113, f114, f115, -⟩, rfl⟩ := hF.open128
  simp only [f3, f5, f8, f13, f14, f113, f114, f115]
  clear f3 f5 f8 f13 f14 f113 f114 f115 hF
  conv => arg 2; whnf
  refine wp_region_any (by kernel_rfl) ?_
  change wpAny _ _ _ _ _ _ _ (World.drew _)
  obtain ⟨W0, hW0⟩ : ∃ W0, W0 = w2.drew := ⟨_, rfl⟩
  rw [← hW0]
  have hk0 : Keep [] w2 W0 := by rw [hW0]; exact (Keep.refl [] w2).drew
  clear hW0
  go_simp
  refine wpAny_take (i := 0) (v := ?_) rfl (by kernel_rfl) (by kernel_rfl) (by kernel_rfl) (fun _ _ _ h => h) (Or.inl ⟨by rfl, ?_⟩) ?_
  rotate_left
  · intro y; go_simp; try (with_reducible rfl)
  rotate_left
  go_simp
  refine wpAny_take (i := 1) (v := ?_) rfl (by kernel_rfl) (by kernel_rfl) (by kernel_rfl) (fun _ _ _ h => h) (Or.inl ⟨by rfl, ?_⟩) ?_
  rotate_left
  · intro y; go_simp; try (with_reducible rfl)
  rotate_left
  go_simp
  refine wpAny_take (i := 2) (v := ?_) rfl (by kernel_rfl) (by kernel_rfl) (by kernel_rfl) (fun _ _ _ h => h) (Or.inl ⟨by rfl, ?_⟩) ?_
  rotate_left
  · intro y; go_simp; try (with_reducible rfl)
  rotate_left
  go_simp
  refine wpAny_take (i := 4) (v := ?_) rfl (by kernel_rfl) (by kernel_rfl) (by kernel_rfl) (fun _ _ _ h => h) (Or.inl ⟨by rfl, ?_⟩) ?_
  rotate_left
  · intro y; go_simp; try (with_reducible rfl)
  rotate_left
  go_simp
  refine wpAny_take (i := 5) (v := ?_) rfl (by kernel_rfl) (by kernel_rfl) (by kernel_rfl) (fun _ _ _ h => h) (Or.inl ⟨by rfl, ?_⟩) ?_
  rotate_left
  · intro y; go_simp; try (with_reducible rfl)
  rotate_left
  go_simp
  refine wpAny_take (i := 6) (v := ?_) rfl (by kernel_rfl) (by kernel_rfl) (by kernel_rfl) (fun _ _ _ h => h) (Or.inl ⟨by rfl, ?_⟩) ?_
  rotate_left
  · intro y; go_simp; try (with_reducible rfl)
  rotate_left
  go_simp
  refine wpAny_ready (rs := [3, 7]) (by kernel_rfl) (by simp) ?_
  refine AllReady.cons rfl (fun K hK => ?_) ?_
  ·
    apply step_wp
    · rfl
    refine ow_load_pair _ _ rfl b (off + i * 2) x rfl _ Try.underlying26 rfl srSz (LA _ hk0).1 (LA _ hk0).2 ?_
    rw [← HX.out]
    apply hK
    clear hK K
    go_simp
    refine wpAny_ready (rs := [7]) (by kernel_rfl) (by simp) ?_
    refine AllReady.cons rfl (fun K hK => ?_) ?_
    ·
      apply step_wp
      · rfl
      refine ow_load_pair _ _ rfl b2 (off2 + i * 2) x rfl _ Try.underlying26 rfl srSz (LB _ hk0).1 (LB _ hk0).2 ?_
      rw [← HX.out]
      apply hK
      clear hK K
      go_simp
      refine wpAny_take (i := 8) (v := ?_) rfl (by kernel_rfl) (by kernel_rfl) (by kernel_rfl) (fun _ _ _ h => h) (Or.inl ⟨by rfl, ?_⟩) ?_
      rotate_left
      · intro y; go_simp; try (with_reducible rfl)
      rotate_left
      go_simp
      refine wpAny_done (by kernel_rfl) ?_ _
      exact hR.out _ _ ⟨rfl, rfl, by repeat (first | exact trivial | refine ⟨rfl, ?_⟩)⟩ hk0
    exact AllReady.nil
  refine AllReady.cons rfl (fun K hK => ?_) ?_
  ·
    apply step_wp
    · rfl
    refine ow_load_pair _ _ rfl b2 (off2 + i * 2) x rfl _ Try.underlying26 rfl srSz (LB _ hk0).1 (LB _ hk0).2 ?_
    rw [← HX.out]
    apply hK
    clear hK K
    go_simp
    refine wpAny_ready (rs := [3]) (by kernel_rfl) (by simp) ?_
    refine AllReady.cons rfl (fun K hK => ?_) ?_
    ·
      apply step_wp
      · rfl
      refine ow_load_pair _ _ rfl b (off + i * 2) x rfl _ Try.underlying26 rfl srSz (LA _ hk0).1 (LA _ hk0).2 ?_
      rw [← HX.out]
      apply hK
      clear hK K
      go_simp
      refine wpAny_take (i := 8) (v := ?_) rfl (by kernel_rfl) (by kernel_rfl) (by kernel_rfl) (fun _ _ _ h => h) (Or.inl ⟨by rfl, ?_⟩) ?_
      rotate_left
      · intro y; go_simp; try (with_reducible rfl)
      rotate_left
      go_simp
      refine wpAny_done (by kernel_rfl) ?_ _
      exact hR.out _ _ ⟨rfl, rfl, by repeat (first | exact trivial | refine ⟨rfl, ?_⟩)⟩ hk0
    exact AllReady.nil
  exact AllReady.nil

noncomputable def hasks_eqL : Code := loopOf Try.f4 2
set_option maxRecDepth 100000 in
set_option maxHeartbeats 4000000 in
/-- The same ranges twice: none differs. -/
theorem asks_eq_loop (R : Act → World → Prop) (a : Act) (w2 : World) (n c d : Nat) (A B : Option Addr) (l : List (Nat × Nat)) (v3 v5 v113 : Value) (hn : Hid (n = l.length)) (hA : Hid (S2 w2 (.slice A n c) l)) (hB : Hid (S2 w2 (.slice B n d) l))
    (hF : Fr 128 [(3, v3), (5, v5), (8, .slice B n d), (13, .slice A n c), (113, v113), (114, .int .i64 (n : Nat)), (115, .int .i64 0)] a)
    (hQ : ∀ a' w', Fr 128 [(3, v3), (5, v5)] a' → Keep [] w2 w' → R a' w') :
    Code.wp Try.prog (.loop hasks_eqL) (OutX 4 R) a w2 := by
  refine wp_loop_ghost_k (fun μ a wr => ∃ i : Nat, μ + i = n ∧ Fr 128 [(3, v3), (5, v5), (8, .slice B n d), (13, .slice A n c), (113, v113), (114, .int .i64 (n : Nat)), (115, .int .i64 i)] a ∧ Keep [] w2 wr)
    n ⟨0, by omega, hF, Keep.refl _ _⟩ ?_
  clear hF
  rintro μ a wr ⟨i, hmi, hFr, hk⟩ J K hJ hK1
  have HJ := Lib.hid hJ
  have HM := Lib.hid hmi
  have HK := Lib.hid hk
  have HQ := Lib.hid hQ
  obtain ⟨fr, ⟨f3, f5, f8, f13, f113, f114, f115, -⟩, rfl⟩ := hFr.open128
  simp only [f3, f5, f8, f13, f113, f114, f115]
  clear f3 f5 f8 f13 f113 f114 f115 hFr hJ hmi hk hQ
  conv => arg 2; whnf
  by_cases hi : i < n
  · obtain ⟨b, off, eA, hb, c0, c1⟩ := (hA.out.keep0 HK.out).at i (by have := hn.out; omega)
    obtain ⟨b2, off2, eB, hb2, d0, d1⟩ := (hB.out.keep0 HK.out).at i (by have := hn.out; omega)
    have hx := hA.out.p64.getD i
    have hn63 : (n : Int) ≤ 9223372036854775807 := by
      obtain ⟨A', c', e, h1, h2, -⟩ := hA.out
      simp only [Value.slice.injEq] at e
      have := hn.out
      omega
    have hwr : wrap64 ((i : Int) + 1) = (i : Int) + 1 := by unfold wrap64; omega
    obtain ⟨x, hxx⟩ : ∃ x, x = l.getD i (0, 0) := ⟨_, rfl⟩
    rw [← hxx] at c0 c1 d0 d1 hx
    have C0 := Lib.hid c0
    have C1 := Lib.hid c1
    have D0 := Lib.hid d0
    have D1 := Lib.hid d1
    have EA := Lib.hid eA
    have EB := Lib.hid eB
    clear c0 c1 d0 d1 hxx eA eB
    go_upto_region 32 with fail
    refine OutN.use (asks_eq_reg (fun a' w' => Fr 128 [(3, v3), (5, v5), (8, .slice B n d), (13, .slice A n c), (113, v113), (114, .int .i64 (n : Nat)), (115, .int .i64 i), (126, .bool false)] a' ∧ Keep [] wr w') _ wr b off b2 off2 n c d i A B x _ _ _ EA.out EB.out hi hx hb hb2 C0 C1 D0 D1
      ⟨rfl, rfl, by repeat (first | exact trivial | refine ⟨rfl, ?_⟩)⟩ (Lib.hid fun a' w' h1 h2 => ⟨h1, h2⟩)) ?_
    rintro a' w3 ⟨hF3, hk3⟩
    have HK3 := Lib.hid (HK.out.trans hk3)
    obtain ⟨fr', ⟨f3, f5, f8, f13, f113, f114, f115, f126, -⟩, rfl⟩ := hF3.open128
    simp only [f3, f5, f8, f13, f113, f114, f115, f126]
    clear f3 f5 f8 f13 f113 f114 f115 f126 hF3 hk3
    go_wp2_with fail
    exact Handed.intro (μ - 1) (by have := HM.out; omega) (HJ.out _ _ _ ⟨i + 1, by have := HM.out; omega, ⟨rfl, rfl, by repeat (first | exact trivial | refine ⟨rfl, ?_⟩)⟩, HK3.out⟩)
  · have hnl : ¬ (i : Int) < (n : Int) := by omega
    go_wp2_with fail
    exact ⟨rfl, HQ.out _ _ ⟨rfl, rfl, by repeat (first | exact trivial | refine ⟨rfl, ?_⟩)⟩ HK.out⟩

noncomputable def hparts_eqR : Code := regionOf Try.f6 32
set_option maxRecDepth 100000 in
set_option maxHeartbeats 4000000 in
theorem parts_eq_reg (R : Act → World → Prop) (a : Act) (w2 : World) (b off b2 off2 n c d i : Nat) (A B : Option Addr) (x : Nat × Nat) (v1 v5 v105 : Value) (eA : A = some ⟨b, off, none⟩) (eB : B = some ⟨b2, off2, none⟩) (hi : i < n) (hx : x.1 < 18446744073709551616 ∧ x.2 < 18446744073709551616)
    (hb : b < w2.heap.size) (hb2 : b2 < w2.heap.size) (h0 : Hid (w2.cell? ⟨b, off + i * 2, none⟩ = some (.int .u64 (x.1 : Nat)))) (h1 : Hid (w2.cell? ⟨b, off + i * 2 + 1, none⟩ = some (.int .u64 (x.2 : Nat))))
    (g0 : Hid (w2.cell? ⟨b2, off2 + i * 2, none⟩ = some (.int .u64 (x.1 : Nat)))) (g1 : Hid (w2.cell? ⟨b2, off2 + i * 2 + 1, none⟩ = some (.int .u64 (x.2 : Nat))))
    (hF : Fr 120 [(1, v1), (5, v5), (8, .slice B n d), (15, .slice A n c), (16, .int .i64 i), (105, v105), (106, .int .i64 (n : Nat)), (107, .int .i64 i)] a)
    (hR : Hid (∀ a' w', Fr 120 [(1, v1), (5, v5), (8, .slice B n d), (15, .slice A n c), (105, v105), (106, .int .i64 (n : Nat)), (107, .int .i64 i), (118, .bool false)] a' → Keep [] w2 w' → R a' w')) :
    Code.wp Try.prog hparts_eqR (OutN R) a w2 := by
  subst eA; subst eB
  have LA : ∀ W, Keep [] w2 W → W.cell? ⟨b, off + i * 2, none⟩ = some (.int .u64 (x.1 : Nat)) ∧ W.cell? ⟨b, off + i * 2 + 1, none⟩ = some (.int .u64 (x.2 : Nat)) := fun W h => ⟨(h.cell (p := ⟨b, off + i * 2, none⟩) hb (by simp)).trans h0.out, (h.cell (p := ⟨b, off + i * 2 + 1, none⟩) hb (by simp)).trans h1.out⟩
  have LB : ∀ W, Keep [] w2 W → W.cell? ⟨b2, off2 + i * 2, none⟩ = some (.int .u64 (x.1 : Nat)) ∧ W.cell? ⟨b2, off2 + i * 2 + 1, none⟩ = some (.int .u64 (x.2 : Nat)) := fun W h => ⟨(h.cell (p := ⟨b2, off2 + i * 2, none⟩) hb2 (by simp)).trans g0.out, (h.cell (p := ⟨b2, off2 + i * 2 + 1, none⟩) hb2 (by simp)).trans g1.out⟩
  have EQ : ∀ W, (Op.equalIn 10000 26 (.agg (pc x).toArray) (.agg (pc x).toArray)).run Try.prog W = .ok true W := fun W => by
    have := srEq 9998 x x hx hx W
    rwa [decide_eq_true rfl] at this
  obtain ⟨X, hX⟩ : ∃ X, X = (pc x).toArray := ⟨_, rfl⟩
  rw [← hX] at EQ
  have HX := Lib.hid hX
  clear hX
  have bi : (0 : Int) ≤ i ∧ (i : Int) < n := ⟨by omega, by omega⟩
  obtain ⟨f, ⟨f1, f5, f8, f15, f16, f105, f106, f107, -⟩, rfl⟩ := hF.open120
  simp only [f1, f5, f8, f15, f16, f105, f106, f107]
  clear f1 f5 f8 f15 f16 f105 f106 f107 hF
  conv => arg 2; whnf
  refine wp_region_any (by kernel_rfl) ?_
  change wpAny _ _ _ _ _ _ _ (World.drew _)
  obtain ⟨W0, hW0⟩ : ∃ W0, W0 = w2.drew := ⟨_, rfl⟩
  rw [← hW0]
  have hk0 : Keep [] w2 W0 := by rw [hW0]; exact (Keep.refl [] w2).drew
  clear hW0
  go_simp
  refine wpAny_take (i := 0) (v := ?_) rfl (by kernel_rfl) (by kernel_rfl) (by kernel_rfl) (fun _ _ _ h => h) (Or.inl ⟨by rfl, ?_⟩) ?_
  rotate_left
  · intro y; go_simp; try (with_reducible rfl)
  rotate_left
  go_simp
  refine wpAny_take (i := 1) (v := ?_) rfl (by kernel_rfl) (by kernel_rfl) (by kernel_rfl) (fun _ _ _ h => h) (Or.inl ⟨by rfl, ?_⟩) ?_
  rotate_left
  · intro y; go_simp; try (with_reducible rfl)
  rotate_left
  go_simp
  refine wpAny_take (i := 2) (v := ?_) rfl (by kernel_rfl) (by kernel_rfl) (by kernel_rfl) (fun _ _ _ h => h) (Or.inl ⟨by rfl, ?_⟩) ?_
  rotate_left
  · intro y; go_simp; try (with_reducible rfl)
  rotate_left
  go_simp
  refine wpAny_take (i := 4) (v := ?_) rfl (by kernel_rfl) (by kernel_rfl) (by kernel_rfl) (fun _ _ _ h => h) (Or.inl ⟨by rfl, ?_⟩) ?_
  rotate_left
  · intro y; go_simp; try (with_reducible rfl)
  rotate_left
  go_simp
  refine wpAny_take (i := 5) (v := ?_) rfl (by kernel_rfl) (by kernel_rfl) (by kernel_rfl) (fun _ _ _ h => h) (Or.inl ⟨by rfl, ?_⟩) ?_
  rotate_left
  · intro y; go_simp; try (with_reducible rfl)
  rotate_left
  go_simp
  refine wpAny_take (i := 6) (v := ?_) rfl (by kernel_rfl) (by kernel_rfl) (by kernel_rfl) (fun _ _ _ h => h) (Or.inl ⟨by rfl, ?_⟩) ?_
  rotate_left
  · intro y; go_simp; try (with_reducible rfl)
  rotate_left
  go_simp
  refine wpAny_ready (rs := [3, 7]) (by kernel_rfl) (by simp) ?_
  refine AllReady.cons rfl (fun K hK => ?_) ?_
  ·
    apply step_wp
    · rfl
    refine ow_load_pair _ _ rfl b (off + i * 2) x rfl _ Try.underlying26 rfl srSz (LA _ hk0).1 (LA _ hk0).2 ?_
    rw [← HX.out]
    apply hK
    clear hK K
    go_simp
    refine wpAny_ready (rs := [7]) (by kernel_rfl) (by simp) ?_
    refine AllReady.cons rfl (fun K hK => ?_) ?_
    ·
      apply step_wp
      · rfl
      refine ow_load_pair _ _ rfl b2 (off2 + i * 2) x rfl _ Try.underlying26 rfl srSz (LB _ hk0).1 (LB _ hk0).2 ?_
      rw [← HX.out]
      apply hK
      clear hK K
      go_simp
      refine wpAny_take (i := 8) (v := ?_) rfl (by kernel_rfl) (by kernel_rfl) (by kernel_rfl) (fun _ _ _ h => h) (Or.inl ⟨by rfl, ?_⟩) ?_
      rotate_left
      · intro y; go_simp; try (with_reducible rfl)
      rotate_left
      go_simp
      refine wpAny_done (by kernel_rfl) ?_ _
      exact hR.out _ _ ⟨rfl, rfl, by repeat (first | exact trivial | refine ⟨rfl, ?_⟩)⟩ hk0
    exact AllReady.nil
  refine AllReady.cons rfl (fun K hK => ?_) ?_
  ·
    apply step_wp
    · rfl
    refine ow_load_pair _ _ rfl b2 (off2 + i * 2) x rfl _ Try.underlying26 rfl srSz (LB _ hk0).1 (LB _ hk0).2 ?_
    rw [← HX.out]
    apply hK
    clear hK K
    go_simp
    refine wpAny_ready (rs := [3]) (by kernel_rfl) (by simp) ?_
    refine AllReady.cons rfl (fun K hK => ?_) ?_
    ·
      apply step_wp
      · rfl
      refine ow_load_pair _ _ rfl b (off + i * 2) x rfl _ Try.underlying26 rfl srSz (LA _ hk0).1 (LA _ hk0).2 ?_
      rw [← HX.out]
      apply hK
      clear hK K
      go_simp
      refine wpAny_take (i := 8) (v := ?_) rfl (by kernel_rfl) (by kernel_rfl) (by kernel_rfl) (fun _ _ _ h => h) (Or.inl ⟨by rfl, ?_⟩) ?_
      rotate_left
      · intro y; go_simp; try (with_reducible rfl)
      rotate_left
      go_simp
      refine wpAny_done (by kernel_rfl) ?_ _
      exact hR.out _ _ ⟨rfl, rfl, by repeat (first | exact trivial | refine ⟨rfl, ?_⟩)⟩ hk0
    exact AllReady.nil
  exact AllReady.nil

noncomputable def hparts_eqL : Code := loopOf Try.f6 3
set_option maxRecDepth 100000 in
set_option maxHeartbeats 4000000 in
/-- The same ranges twice: none differs. -/
theorem parts_eq_loop (R : Act → World → Prop) (a : Act) (w2 : World) (n c d : Nat) (A B : Option Addr) (l : List (Nat × Nat)) (v1 v5 v105 : Value) (hn : Hid (n = l.length)) (hA : Hid (S2 w2 (.slice A n c) l)) (hB : Hid (S2 w2 (.slice B n d) l))
    (hF : Fr 120 [(1, v1), (5, v5), (8, .slice B n d), (15, .slice A n c), (105, v105), (106, .int .i64 (n : Nat)), (107, .int .i64 0)] a)
    (hQ : ∀ a' w', Fr 120 [(1, v1), (5, v5)] a' → Keep [] w2 w' → R a' w') :
    Code.wp Try.prog (.loop hparts_eqL) (OutX 6 R) a w2 := by
  refine wp_loop_ghost_k (fun μ a wr => ∃ i : Nat, μ + i = n ∧ Fr 120 [(1, v1), (5, v5), (8, .slice B n d), (15, .slice A n c), (105, v105), (106, .int .i64 (n : Nat)), (107, .int .i64 i)] a ∧ Keep [] w2 wr)
    n ⟨0, by omega, hF, Keep.refl _ _⟩ ?_
  clear hF
  rintro μ a wr ⟨i, hmi, hFr, hk⟩ J K hJ hK1
  have HJ := Lib.hid hJ
  have HM := Lib.hid hmi
  have HK := Lib.hid hk
  have HQ := Lib.hid hQ
  obtain ⟨fr, ⟨f1, f5, f8, f15, f105, f106, f107, -⟩, rfl⟩ := hFr.open120
  simp only [f1, f5, f8, f15, f105, f106, f107]
  clear f1 f5 f8 f15 f105 f106 f107 hFr hJ hmi hk hQ
  conv => arg 2; whnf
  by_cases hi : i < n
  · obtain ⟨b, off, eA, hb, c0, c1⟩ := (hA.out.keep0 HK.out).at i (by have := hn.out; omega)
    obtain ⟨b2, off2, eB, hb2, d0, d1⟩ := (hB.out.keep0 HK.out).at i (by have := hn.out; omega)
    have hx := hA.out.p64.getD i
    have hn63 : (n : Int) ≤ 9223372036854775807 := by
      obtain ⟨A', c', e, h1, h2, -⟩ := hA.out
      simp only [Value.slice.injEq] at e
      have := hn.out
      omega
    have hwr : wrap64 ((i : Int) + 1) = (i : Int) + 1 := by unfold wrap64; omega
    obtain ⟨x, hxx⟩ : ∃ x, x = l.getD i (0, 0) := ⟨_, rfl⟩
    rw [← hxx] at c0 c1 d0 d1 hx
    have C0 := Lib.hid c0
    have C1 := Lib.hid c1
    have D0 := Lib.hid d0
    have D1 := Lib.hid d1
    have EA := Lib.hid eA
    have EB := Lib.hid eB
    clear c0 c1 d0 d1 hxx eA eB
    go_upto_region 32 with fail
    refine OutN.use (parts_eq_reg (fun a' w' => Fr 120 [(1, v1), (5, v5), (8, .slice B n d), (15, .slice A n c), (105, v105), (106, .int .i64 (n : Nat)), (107, .int .i64 i), (118, .bool false)] a' ∧ Keep [] wr w') _ wr b off b2 off2 n c d i A B x _ _ _ EA.out EB.out hi hx hb hb2 C0 C1 D0 D1
      ⟨rfl, rfl, by repeat (first | exact trivial | refine ⟨rfl, ?_⟩)⟩ (Lib.hid fun a' w' h1 h2 => ⟨h1, h2⟩)) ?_
    rintro a' w3 ⟨hF3, hk3⟩
    have HK3 := Lib.hid (HK.out.trans hk3)
    obtain ⟨fr', ⟨f1, f5, f8, f15, f105, f106, f107, f118, -⟩, rfl⟩ := hF3.open120
    simp only [f1, f5, f8, f15, f105, f106, f107, f118]
    clear f1 f5 f8 f15 f105 f106 f107 f118 hF3 hk3
    go_wp2_with fail
    exact Handed.intro (μ - 1) (by have := HM.out; omega) (HJ.out _ _ _ ⟨i + 1, by have := HM.out; omega, ⟨rfl, rfl, by repeat (first | exact trivial | refine ⟨rfl, ?_⟩)⟩, HK3.out⟩)
  · have hnl : ¬ (i : Int) < (n : Int) := by omega
    go_wp2_with fail
    exact ⟨rfl, HQ.out _ _ ⟨rfl, rfl, by repeat (first | exact trivial | refine ⟨rfl, ?_⟩)⟩ HK.out⟩
end Go.Proofs.Ytpckbmebdhmfaaa
