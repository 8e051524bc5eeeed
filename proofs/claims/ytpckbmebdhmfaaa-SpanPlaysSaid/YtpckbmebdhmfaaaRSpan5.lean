/-
  The law's Same: a set's ranges held against the document's.
-/
import Derived.Test.YtpckbmebdhmfaaaRSpan4
import Derived.Test.YtpckbmebdhmfaaaOpensS
namespace Go.Proofs.Ytpckbmebdhmfaaa
open Go.RowKit

/-- A pair out of a slice, in a region. -/
theorem ow_load_pair {P : Program} {o : Oper} {a : Act} {w : World} {K : Act → World → Prop} {Q : Exit → Act → World → Prop} (t : TypeId) (p : Operand) (ho : o.op = .load t p) (b off : Nat) (x : Nat × Nat) (hp : a.eval p = .pointer (some ⟨b, off, none⟩))
    (d : TypeDesc) (hu : P.underlying t = some d) (hd : d.isRow = true) (hi : (P.info? t).map (·.size) = some 2) (h0 : w.cell? ⟨b, off, none⟩ = some (.int .u64 (x.1 : Nat))) (h1 : w.cell? ⟨b, off + 1, none⟩ = some (.int .u64 (x.2 : Nat)))
    (h : K (a.put o.dst (.agg (pc x).toArray)) w) : o.wp P a w K Q := by
  refine wp_load_mid t p ho b off hp (pc x) d ?_ hu hd hi h
  intro j v hv
  rcases j with _ | _ | j
  · rw [Nat.add_zero, h0]; exact hv
  · rw [Nat.zero_add, h1]; exact hv
  · cases hv

noncomputable def hsame6 : Code := regionOf Try.f17 6
set_option maxRecDepth 100000 in
set_option maxHeartbeats 4000000 in
theorem same_reg6 (R : Act → World → Prop) (a : Act) (w2 : World) (M b off n mc i : Nat) (mA : Option Addr) (x y : Nat × Nat) (s0 s2 s3 s4 s7 s8 s9 s10 s11 s12 s13 s14 : Value) (hmA : mA = some ⟨b, off, none⟩) (hi : i < n) (hx : x.1 < 18446744073709551616 ∧ x.2 < 18446744073709551616) (hy : y.1 < 18446744073709551616 ∧ y.2 < 18446744073709551616)
    (hB : Hid (Blk w2 M 26 (pc x).toArray)) (hb : b < w2.heap.size) (h0 : Hid (w2.cell? ⟨b, off + i * 2, none⟩ = some (.int .u64 (y.1 : Nat)))) (h1 : Hid (w2.cell? ⟨b, off + i * 2 + 1, none⟩ = some (.int .u64 (y.2 : Nat))))
    (hF : Fr 27 [(0, s0), (1, .slice mA n mc), (2, s2), (3, s3), (4, s4), (5, .int .i64 i), (6, .pointer (some ⟨M, 0, none⟩)), (7, s7), (8, s8), (9, s9), (10, s10), (11, s11), (12, s12), (13, s13), (14, s14)] a)
    (hR : Hid (∀ a' w', Fr 27 [(0, s0), (1, .slice mA n mc), (2, s2), (3, s3), (4, s4), (5, .int .i64 i), (6, .pointer (some ⟨M, 0, none⟩)), (7, s7), (8, s8), (9, s9), (10, s10), (11, s11), (12, s12), (13, s13), (14, s14), (25, .bool (!decide (x = y)))] a' → Keep [] w2 w' → R a' w')) :
    Code.wp Try.prog hsame6 (OutN R) a w2 := by
  subst hmA
  have LM : ∀ W, Keep [] w2 W → W.cell? ⟨M, 0, none⟩ = some (.int .u64 (x.1 : Nat)) ∧ W.cell? ⟨M, 0 + 1, none⟩ = some (.int .u64 (x.2 : Nat)) := fun W h => (hB.out.keep h (by simp)).pair
  have LE : ∀ W, Keep [] w2 W → W.cell? ⟨b, off + i * 2, none⟩ = some (.int .u64 (y.1 : Nat)) ∧ W.cell? ⟨b, off + i * 2 + 1, none⟩ = some (.int .u64 (y.2 : Nat)) := fun W h => ⟨(h.cell (p := ⟨b, off + i * 2, none⟩) hb (by simp)).trans h0.out, (h.cell (p := ⟨b, off + i * 2 + 1, none⟩) hb (by simp)).trans h1.out⟩
  have EQ : ∀ W, (Op.equalIn 10000 36 (.agg (pc x).toArray) (.agg (pc y).toArray)).run Try.prog W = .ok (decide (x = y)) W := fun W => rrEq 9998 x y hx hy W
  have RF : ∀ W, Calls Try.prog 12 #[.agg (pc x).toArray] W fun e w' => e = .returned (.agg (pc x).toArray) ∧ Keep [] W w' := fun W => ref_any x W
  obtain ⟨X, hX⟩ : ∃ X, X = (pc x).toArray := ⟨_, rfl⟩
  obtain ⟨Y, hY⟩ : ∃ Y, Y = (pc y).toArray := ⟨_, rfl⟩
  obtain ⟨e, he⟩ : ∃ e, e = decide (x = y) := ⟨_, rfl⟩
  rw [← hX, ← hY, ← he] at EQ
  rw [← hX] at RF
  rw [← he] at hR
  have HX := Lib.hid hX
  have HY := Lib.hid hY
  clear hX hY he
  have bi : (0 : Int) ≤ i ∧ (i : Int) < n := ⟨by omega, by omega⟩
  obtain ⟨f, ⟨f0, f1, f2, f3, f4, f5, f6, f7, f8, f9, f10, f11, f12, f13, f14, -⟩, rfl⟩ := hF.open27
  simp only [f0, f1, f2, f3, f4, f5, f6, f7, f8, f9, f10, f11, f12, f13, f14]
  clear f0 f1 f2 f3 f4 f5 f6 f7 f8 f9 f10 f11 f12 f13 f14 hF
  conv => arg 2; whnf
  refine wp_region_any (by kernel_rfl) ?_
  change wpAny _ _ _ _ _ _ _ (World.drew _)
  obtain ⟨W0, hW0⟩ : ∃ W0, W0 = w2.drew := ⟨_, rfl⟩
  rw [← hW0]
  have hk0 : Keep [] w2 W0 := by rw [hW0]; exact (Keep.refl [] w2).drew
  clear hW0
  go_simp
  refine wpAny_take (i := 2) (v := ?_) rfl (by kernel_rfl) (by kernel_rfl) (by kernel_rfl) (fun _ _ _ h => h) (Or.inl ⟨by rfl, ?_⟩) ?_
  rotate_left
  · intro y; go_simp; try (with_reducible rfl)
  rotate_left
  go_simp
  refine wpAny_take (i := 3) (v := ?_) rfl (by kernel_rfl) (by kernel_rfl) (by kernel_rfl) (fun _ _ _ h => h) (Or.inl ⟨by rfl, ?_⟩) ?_
  rotate_left
  · intro y; go_simp; try (with_reducible rfl)
  rotate_left
  go_simp
  refine wpAny_take (i := 4) (v := ?_) rfl (by kernel_rfl) (by kernel_rfl) (by kernel_rfl) (fun _ _ _ h => h) (Or.inl ⟨by rfl, ?_⟩) ?_
  rotate_left
  · intro y; go_simp; try (with_reducible rfl)
  rotate_left
  go_simp
  refine wpAny_ready (rs := [0, 5]) (by kernel_rfl) (by simp) ?_
  refine AllReady.cons rfl (fun K hK => ?_) ?_
  ·
    apply step_wp
    · rfl
    refine ow_load_pair _ _ rfl M 0 x rfl _ Try.underlying26 rfl srSz (LM _ hk0).1 (LM _ hk0).2 ?_
    rw [← HX.out]
    apply hK
    clear hK K
    go_simp
    refine wpAny_ready (rs := [1, 5]) (by kernel_rfl) (by simp) ?_
    refine AllReady.cons rfl (fun K hK => ?_) ?_
    ·
      apply step_wp
      · rfl
      refine ow_call _ _ _ (by kernel_rfl) (RF _) ?_
      rintro e W1 ⟨rfl, hs1⟩
      refine ⟨_, rfl, ?_⟩
      have hk1 : Keep [] w2 W1 := hk0.trans hs1
      clear hs1
      apply hK
      clear hK K
      go_simp
      refine wpAny_ready (rs := [5]) (by kernel_rfl) (by simp) ?_
      refine AllReady.cons rfl (fun K hK => ?_) ?_
      ·
        apply step_wp
        · rfl
        refine ow_load_pair _ _ rfl b (off + i * 2) y rfl _ Try.underlying36 rfl rrSz (LE _ hk1).1 (LE _ hk1).2 ?_
        rw [← HY.out]
        apply hK
        clear hK K
        go_simp
        refine wpAny_take (i := 6) (v := ?_) rfl (by kernel_rfl) (by kernel_rfl) (by kernel_rfl) (fun _ _ _ h => h) (Or.inl ⟨by rfl, ?_⟩) ?_
        rotate_left
        · intro y; go_simp; try (with_reducible rfl)
        rotate_left
        go_simp
        refine wpAny_done (by kernel_rfl) ?_ _
        exact hR.out _ _ ⟨rfl, rfl, by repeat (first | exact trivial | refine ⟨rfl, ?_⟩)⟩ hk1
      exact AllReady.nil
    refine AllReady.cons rfl (fun K hK => ?_) ?_
    ·
      apply step_wp
      · rfl
      refine ow_load_pair _ _ rfl b (off + i * 2) y rfl _ Try.underlying36 rfl rrSz (LE _ hk0).1 (LE _ hk0).2 ?_
      rw [← HY.out]
      apply hK
      clear hK K
      go_simp
      refine wpAny_ready (rs := [1]) (by kernel_rfl) (by simp) ?_
      refine AllReady.cons rfl (fun K hK => ?_) ?_
      ·
        apply step_wp
        · rfl
        refine ow_call _ _ _ (by kernel_rfl) (RF _) ?_
        rintro e W1 ⟨rfl, hs1⟩
        refine ⟨_, rfl, ?_⟩
        have hk1 : Keep [] w2 W1 := hk0.trans hs1
        clear hs1
        apply hK
        clear hK K
        go_simp
        refine wpAny_take (i := 6) (v := ?_) rfl (by kernel_rfl) (by kernel_rfl) (by kernel_rfl) (fun _ _ _ h => h) (Or.inl ⟨by rfl, ?_⟩) ?_
        rotate_left
        · intro y; go_simp; try (with_reducible rfl)
        rotate_left
        go_simp
        refine wpAny_done (by kernel_rfl) ?_ _
        exact hR.out _ _ ⟨rfl, rfl, by repeat (first | exact trivial | refine ⟨rfl, ?_⟩)⟩ hk1
      exact AllReady.nil
    exact AllReady.nil
  refine AllReady.cons rfl (fun K hK => ?_) ?_
  ·
    apply step_wp
    · rfl
    refine ow_load_pair _ _ rfl b (off + i * 2) y rfl _ Try.underlying36 rfl rrSz (LE _ hk0).1 (LE _ hk0).2 ?_
    rw [← HY.out]
    apply hK
    clear hK K
    go_simp
    refine wpAny_ready (rs := [0]) (by kernel_rfl) (by simp) ?_
    refine AllReady.cons rfl (fun K hK => ?_) ?_
    ·
      apply step_wp
      · rfl
      refine ow_load_pair _ _ rfl M 0 x rfl _ Try.underlying26 rfl srSz (LM _ hk0).1 (LM _ hk0).2 ?_
      rw [← HX.out]
      apply hK
      clear hK K
      go_simp
      refine wpAny_ready (rs := [1]) (by kernel_rfl) (by simp) ?_
      refine AllReady.cons rfl (fun K hK => ?_) ?_
      ·
        apply step_wp
        · rfl
        refine ow_call _ _ _ (by kernel_rfl) (RF _) ?_
        rintro e W1 ⟨rfl, hs1⟩
        refine ⟨_, rfl, ?_⟩
        have hk1 : Keep [] w2 W1 := hk0.trans hs1
        clear hs1
        apply hK
        clear hK K
        go_simp
        refine wpAny_take (i := 6) (v := ?_) rfl (by kernel_rfl) (by kernel_rfl) (by kernel_rfl) (fun _ _ _ h => h) (Or.inl ⟨by rfl, ?_⟩) ?_
        rotate_left
        · intro y; go_simp; try (with_reducible rfl)
        rotate_left
        go_simp
        refine wpAny_done (by kernel_rfl) ?_ _
        exact hR.out _ _ ⟨rfl, rfl, by repeat (first | exact trivial | refine ⟨rfl, ?_⟩)⟩ hk1
      exact AllReady.nil
    exact AllReady.nil
  exact AllReady.nil

set_option maxRecDepth 100000 in
set_option maxHeartbeats 4000000 in
theorem same_any (lv mv : Value) (l m : List (Nat × Nat)) (w : World) (hl : S2 w lv l) (hm : S2 w mv m) (hn : l.length ≤ 1000000) :
    Calls Try.prog 17 #[lv, mv] w fun e w' => e = .returned (.bool (decide (l = m))) ∧ Keep [] w w' := by
  have HL := Lib.hid hl
  have HM := Lib.hid hm
  obtain ⟨A, c, rfl, hc1, hc2, -, -⟩ := hl
  obtain ⟨B, d, rfl, hd1, hd2, -, -⟩ := hm
  obtain ⟨n, hn'⟩ : ∃ n, n = l.length := ⟨_, rfl⟩
  obtain ⟨k, hk'⟩ : ∃ k, k = m.length := ⟨_, rfl⟩
  have HN := Lib.hid hn'
  have HKN := Lib.hid hk'
  rw [← hn'] at HL hc1 hn ⊢
  rw [← hk'] at HM hd1 ⊢
  clear hn' hk'
  go_enter Try.func17, Try.ntmps17
  by_cases hnk : n = k
  · have HNK := Lib.hid hnk
    rw [← hnk] at HM hd1 ⊢
    clear hnk
    go_upto_block 0 with fail
    go_wp2_with fail
    go_loopw [5, 6, 14] (fun s5 s6 s14 wr => ∃ i : Nat, i ≤ n ∧ s14 = .int .i64 i ∧ Keep [] w wr ∧ l.take i = m.take i) (fun _ _ s14 _ => n - (intOf s14).toNat)
    case atStart => exact ⟨0, by omega, rfl, Keep.refl _ _, rfl⟩
    case round =>
      obtain ⟨i, hi, rfl, hk, htk⟩ := hrel
      have HT := Lib.hid htk
      have HK := Lib.hid hk
      clear htk hk
      by_cases hlt : i < n
      · have HLi := HL.out.keep0 HK.out
        have HMi := HM.out.keep0 HK.out
        have hx := HLi.p64.getD i
        have hy := HMi.p64.getD i
        have hlx : l.take (i + 1) = l.take i ++ [l.getD i (0, 0)] := by
          rw [List.take_add_one, List.getElem?_eq_getElem (by have := HN.out; omega), List.getD_eq_getElem?_getD, List.getElem?_eq_getElem (by have := HN.out; omega)]; rfl
        have hmy : m.take (i + 1) = m.take i ++ [m.getD i (0, 0)] := by
          rw [List.take_add_one, List.getElem?_eq_getElem (by have := HKN.out; have := HNK.out; omega), List.getD_eq_getElem?_getD, List.getElem?_eq_getElem (by have := HKN.out; have := HNK.out; omega)]; rfl
        obtain ⟨b, off, c', he, -, -, hblt, hcell⟩ := HLi.cells (by have := HN.out; omega)
        simp only [Value.slice.injEq] at he
        obtain ⟨rfl, -, rfl⟩ := he
        obtain ⟨b2, off2, d', he, -, -, hblt2, hcell2⟩ := HMi.cells (by have := HKN.out; have := HNK.out; omega)
        simp only [Value.slice.injEq] at he
        obtain ⟨rfl, -, rfl⟩ := he
        obtain ⟨x1, x2⟩ := hcell i (by have := HN.out; omega)
        obtain ⟨y1, y2⟩ := hcell2 i (by have := HKN.out; have := HNK.out; omega)
        obtain ⟨x, hxx⟩ : ∃ x, x = l.getD i (0, 0) := ⟨_, rfl⟩
        obtain ⟨y, hyy⟩ : ∃ y, y = m.getD i (0, 0) := ⟨_, rfl⟩
        rw [← hxx] at hx x1 x2 hlx
        rw [← hyy] at hy y1 y2 hmy
        have HLX := Lib.hid hlx
        have HMY := Lib.hid hmy
        have HY1 := Lib.hid y1
        have HY2 := Lib.hid y2
        have bi : (0 : Int) ≤ i ∧ (i : Int) < n := ⟨by omega, by omega⟩
        clear hcell hcell2 HLi HMi hxx hyy hlx hmy y1 y2
        go_upto_region 6 with (first
          | (refine wl_load_pair rfl _ _ rfl b (off + i * 2) x rfl _ Try.underlying26 rfl srSz x1 x2 ?_)
          | (refine wl_alloc_rowZ rfl _ rfl (pc (0, 0)).toArray 2 srZ ?_; intro w4 hB4 hk4 hz4; have HB4 := Lib.hid hB4; have HK4 := Lib.hid hk4; clear hB4 hk4 hz4)
          | (refine wl_store_row rfl _ _ _ rfl wr.heap.size rfl (pc x).toArray rfl _ _ HB4.out srSz pc_size (pc_all x) ?_; intro w5 hB5 hk5 hz5; have HB5 := Lib.hid hB5; have HK5 := Lib.hid hk5; clear hB5 hk5 hz5))
        have HK45 := Lib.hid (show Keep [] wr w5 from HK4.out.trans' HK5.out (fun y hy => by right; simp at hy; omega))
        have HY1' := Lib.hid ((HK45.out.cell (p := ⟨b2, off2 + i * 2, none⟩) hblt2 (by simp)).trans HY1.out)
        have HY2' := Lib.hid ((HK45.out.cell (p := ⟨b2, off2 + i * 2 + 1, none⟩) hblt2 (by simp)).trans HY2.out)
        have hb5 : b2 < w5.heap.size := Nat.lt_of_lt_of_le hblt2 HK45.out.size
        have HK05 := Lib.hid (HK.out.trans HK45.out)
        obtain ⟨M, hM⟩ : ∃ M, M = wr.heap.size := ⟨_, rfl⟩
        rw [← hM] at HB5 ⊢
        clear hM x1 x2
        refine OutN.use (same_reg6 (fun a' w' => Fr 27 [(0, .slice (some ⟨b, off, none⟩) n c), (1, .slice (some ⟨b2, off2, none⟩) n d), (2, undef), (3, undef), (4, u4), (5, .int .i64 i), (6, .pointer (some ⟨M, 0, none⟩)), (7, .slice (some ⟨b, off, none⟩) n c), (8, .int .i64 n), (9, .slice (some ⟨b2, off2, none⟩) n d), (10, .int .i64 n), (11, .bool false), (12, .slice (some ⟨b, off, none⟩) n c), (13, .int .i64 n), (14, .int .i64 i), (25, .bool (!decide (x = y)))] a' ∧ Keep [] w5 w') _ w5 M b2 off2 n d i _ x y _ _ _ _ _ _ _ _ _ _ _ _ rfl hlt hx hy HB5 hb5 HY1' HY2'
          ⟨rfl, rfl, by repeat (first | exact trivial | refine ⟨rfl, ?_⟩)⟩ (Lib.hid fun a' w' h1 h2 => ⟨h1, h2⟩)) ?_
        rintro a' w6 ⟨hF6, hk6⟩
        have HK6 := Lib.hid (HK05.out.trans hk6)
        obtain ⟨f, ⟨f0, f1, f2, f3, f4, f5, f6, f7, f8, f9, f10, f11, f12, f13, f14, f25, -⟩, rfl⟩ := hF6.open27
        simp only [f0, f1, f2, f3, f4, f5, f6, f7, f8, f9, f10, f11, f12, f13, f14, f25]
        clear f0 f1 f2 f3 f4 f5 f6 f7 f8 f9 f10 f11 f12 f13 f14 f25 hF6 hk6
        by_cases hxy : x = y
        · have hd : decide (x = y) = true := decide_eq_true hxy
          have HE := Lib.hid (show l.take (i + 1) = m.take (i + 1) by rw [HLX.out, HMY.out, HT.out, hxy])
          rw [hd]
          clear hxy
          go_wp2_with fail
          exact ⟨⟨i + 1, by omega, by go_num, HK6.out, HE.out⟩, by simp [intOf]; omega⟩
        · have hd : decide (x = y) = false := decide_eq_false hxy
          have HE := Lib.hid (show decide (l = m) = false from decide_eq_false (fun h => hxy (by
            have h1 := HLX.out
            rw [h, HMY.out, ← h] at h1
            have h2 := List.append_cancel_left (h1.trans rfl)
            simpa using h2.symm)))
          rw [hd]
          clear hxy
          go_wp2_with fail
          go_ret
          exact ⟨by rw [HE.out]; rfl, HK6.out⟩
      · have HE := Lib.hid (show decide (l = m) = true from decide_eq_true (by
          have h := HT.out
          rw [List.take_of_length_le (by have := HN.out; omega), List.take_of_length_le (by have := HKN.out; have := HNK.out; omega)] at h
          exact h))
        have hnl : ¬ (i : Int) < (n : Int) := by omega
        go_wp2_with fail
        go_ret
        exact ⟨by rw [HE.out]; rfl, HK.out⟩
  · have HH := Lib.hid (show decide (l = m) = false from decide_eq_false (fun h => hnk (by rw [HN.out, HKN.out, h])))
    have hne : ((n : Int) == (k : Int)) = false := beq_eq_false_iff_ne.2 (by omega)
    go_wp2_with fail
    go_ret
    exact ⟨by rw [HH.out]; rfl, Keep.refl _ _⟩

end Go.Proofs.Ytpckbmebdhmfaaa
