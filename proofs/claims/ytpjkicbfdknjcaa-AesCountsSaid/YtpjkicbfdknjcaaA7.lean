/-
  The landed aes: the drawn regions of Key and Turn.
-/
import Derived.Test.YtpjkicbfdknjcaaA6
import Derived.Test.YtpjkicbfdknjcaaOpensA
namespace Go.Proofs.Ytpjkicbfdknjcaa
open Go.RowKit

/-- Load and store of arrays by value: their sizes. -/
theorem blkSz (D : Array Value) (h : D.size = 16) : (Try.prog.info? 29).map (·.size) = some D.size := by rw [h]; exact blkCells
theorem blkSzL (l : List Value) (h : l.length = 16) : (Try.prog.info? 29).map (·.size) = some l.length := by rw [h]; exact blkCells

noncomputable def hkey5 : Code := regionOf Try.f14 5
set_option maxRecDepth 100000 in
set_option maxHeartbeats 4000000 in
theorem key_reg5 (R : Act → World → Prop) (a : Act) (w2 : World) (g P B : Nat) (D : Array Value) (pre old post : List Value) (hD : Hid (D.size = 16)) (hD1 : Hid (D.all (·.oneCell') = true)) (hp : Hid (pre.length = 1)) (ho : Hid (old.length = 16))
    (hBB : Hid (Blk w2 B 29 D)) (hBP : Hid (Blk w2 P 62 (pre ++ (old ++ post)).toArray))
    (hF : Fr 46 [(0, .pointer (some ⟨g, 0, none⟩)), (3, .pointer (some ⟨B, 0, none⟩)), (5, .pointer (some ⟨P, 0, none⟩))] a)
    (hR : Hid (∀ a' w', Fr 46 [(0, .pointer (some ⟨g, 0, none⟩)), (3, .pointer (some ⟨B, 0, none⟩)), (5, .pointer (some ⟨P, 0, none⟩))] a' → Blk w' P 62 (pre ++ (D.toList ++ post)).toArray → Keep [P] w2 w' → R a' w')) :
    Code.wp Try.prog hkey5 (OutN R) a w2 := by
  obtain ⟨f, ⟨f0, f3, f5, -⟩, rfl⟩ := hF.open46
  simp only [f0, f3, f5]
  clear f0 f3 f5 hF
  conv => arg 2; whnf
  refine wp_region_any (by kernel_rfl) ?_
  change wpAny _ _ _ _ _ _ _ (World.drew _)
  obtain ⟨W0, hW0⟩ : ∃ W0, W0 = w2.drew := ⟨_, rfl⟩
  rw [← hW0]
  have hk0 : Keep [P] w2 W0 := by rw [hW0]; exact (Keep.refl [P] w2).drew
  have hbb : Blk W0 B 29 D := by rw [hW0]; exact hBB.out.drew
  have hbp : Blk W0 P 62 (pre ++ (old ++ post)).toArray := by rw [hW0]; exact hBP.out.drew
  clear hW0
  go_simp
  refine wpAny_take (i := 0) (v := ?_) rfl (by kernel_rfl) (by kernel_rfl) (by kernel_rfl) (fun _ _ _ h => h) (Or.inl ⟨by rfl, ?_⟩) ?_
  rotate_left
  · intro y; go_simp; try (with_reducible rfl)
  rotate_left
  go_simp
  refine wpAny_take (i := 2) (v := ?_) rfl (by kernel_rfl) (by kernel_rfl) (by kernel_rfl) (fun _ _ _ h => h) (Or.inl ⟨by rfl, ?_⟩) ?_
  rotate_left
  · intro y; go_simp; try (with_reducible rfl)
  rotate_left
  go_simp
  refine wpAny_take (i := 3) (v := ?_) rfl (by kernel_rfl) (by kernel_rfl) (by kernel_rfl) (fun _ _ _ h => h) (Or.inl ⟨by rfl, ?_⟩) ?_
  rotate_left
  · intro y; go_simp; try (with_reducible rfl)
  rotate_left
  go_simp
  refine wpAny_ready (rs := [1]) (by kernel_rfl) (by simp) ?_
  refine AllReady.cons rfl (fun K hK => ?_) ?_
  ·
    apply step_wp
    · rfl
    refine ow_load _ _ rfl B rfl 16 5 Try.underlying29 _ D hbb (blkSz _ hD.out) ?_
    apply hK
    clear hK K
    go_simp
    refine wpAny_take (i := 4) (v := ?_) rfl (by kernel_rfl) (by kernel_rfl) (by kernel_rfl) (fun _ _ _ h => h) (Or.inl ⟨by rfl, ?_⟩) ?_
    rotate_left
    · intro y; go_simp; try (with_reducible rfl)
    rotate_left
    go_simp
    refine wpAny_ready (rs := [5]) (by kernel_rfl) (by simp) ?_
    refine AllReady.cons rfl (fun K hK => ?_) ?_
    ·
      apply step_wp
      · rfl
      refine ow_store_mid _ _ _ rfl P pre old post D _ (by rw [hp.out]) rfl rfl (blkSz _ hD.out) (by rw [hD.out]; exact ho.out) hD1.out _ hbp ?_
      intro W1 hbp1 hs1
      have hk1 : Keep [P] w2 W1 := hk0.trans hs1
      clear hs1
      apply hK
      clear hK K
      go_simp
      refine wpAny_done (by kernel_rfl) ?_ _
      exact hR.out _ _ ⟨rfl, rfl, by repeat (first | exact trivial | refine ⟨rfl, ?_⟩)⟩ hbp1 hk1
    exact AllReady.nil
  exact AllReady.nil

noncomputable def hkey10 : Code := regionOf Try.f14 10
set_option maxRecDepth 100000 in
set_option maxHeartbeats 4000000 in
theorem key_reg10 (R : Act → World → Prop) (a : Act) (w2 : World) (g P B n r : Nat) (p : Int) (pre1 l1 post1 pre2 old2 post2 : List Value) (E F : Array Value) (hr : r < 10) (hE : Hid (l1.toArray = E)) (hF0 : Hid (F.size = 16)) (hF1 : Hid (F.all (·.oneCell') = true))
    (hp1 : Hid (pre1.length = 1 + 16 * r)) (hl1 : Hid (l1.length = 16)) (hp2 : Hid (pre2.length = 1 + 16 * (r + 1))) (ho2 : Hid (old2.length = 16))
    (hB1 : Hid (Blk w2 P 62 (pre1 ++ (l1 ++ post1)).toArray)) (hB2 : Hid (Blk w2 P 62 (pre2 ++ (old2 ++ post2)).toArray)) (hA : Hid (AT w2 g n))
    (hC : Hid (∀ W, AT W g n → Calls Try.prog 21 #[.pointer (some ⟨g, 0, none⟩), .agg E, .int .u8 p] W fun e w' => e = .returned (.agg F) ∧ Keep [] W w'))
    (hF : Fr 46 [(0, .pointer (some ⟨g, 0, none⟩)), (3, .pointer (some ⟨B, 0, none⟩)), (5, .pointer (some ⟨P, 0, none⟩)), (6, .int .u8 p), (7, .int .i64 r), (24, .int .i64 r)] a)
    (hR : Hid (∀ a' w', Fr 46 [(0, .pointer (some ⟨g, 0, none⟩)), (3, .pointer (some ⟨B, 0, none⟩)), (5, .pointer (some ⟨P, 0, none⟩)), (6, .int .u8 p), (24, .int .i64 r)] a' → Blk w' P 62 (pre2 ++ (F.toList ++ post2)).toArray → Keep [P] w2 w' → R a' w')) :
    Code.wp Try.prog hkey10 (OutN R) a w2 := by
  have bi : (0 : Int) ≤ r ∧ (r : Int) < 11 := ⟨by omega, by omega⟩
  have bi2 : (0 : Int) ≤ (r : Int) + 1 ∧ (r : Int) + 1 < 11 := ⟨by omega, by omega⟩
  have hw : IntKind.i64.wrap ((r : Int) + 1) = (r : Int) + 1 := IntWalk.i64_in _ ⟨by omega, by omega⟩
  have ht : ((r : Int) + 1).toNat = r + 1 := by omega
  obtain ⟨f, ⟨f0, f3, f5, f6, f7, f24, -⟩, rfl⟩ := hF.open46
  simp only [f0, f3, f5, f6, f7, f24]
  clear f0 f3 f5 f6 f7 f24 hF
  conv => arg 2; whnf
  refine wp_region_any (by kernel_rfl) ?_
  change wpAny _ _ _ _ _ _ _ (World.drew _)
  obtain ⟨W0, hW0⟩ : ∃ W0, W0 = w2.drew := ⟨_, rfl⟩
  rw [← hW0]
  have hk0 : Keep [P] w2 W0 := by rw [hW0]; exact (Keep.refl [P] w2).drew
  have hb1 : Blk W0 P 62 (pre1 ++ (l1 ++ post1)).toArray := by rw [hW0]; exact hB1.out.drew
  have hb2 : Blk W0 P 62 (pre2 ++ (old2 ++ post2)).toArray := by rw [hW0]; exact hB2.out.drew
  have hat : AT W0 g n := by rw [hW0]; exact Blk.drew hA.out
  clear hW0
  go_simp
  refine wpAny_take (i := 0) (v := ?_) rfl (by kernel_rfl) (by kernel_rfl) (by kernel_rfl) (fun _ _ _ h => h) (Or.inl ⟨by rfl, ?_⟩) ?_
  rotate_left
  · intro y; go_simp; try (with_reducible rfl)
  rotate_left
  go_simp
  refine wpAny_take (i := 1) (v := ?_) rfl (by kernel_rfl) (by kernel_rfl) (by kernel_rfl) (fun _ _ _ h => h) (Or.inl ⟨by rfl, ?_⟩) ?_
  rotate_left
  · intro y; go_simp; try (with_reducible rfl)
  rotate_left
  go_simp
  refine wpAny_take (i := 2) (v := ?_) rfl (by kernel_rfl) (by kernel_rfl) (by kernel_rfl) (fun _ _ _ h => h) (Or.inl ⟨by rfl, ?_⟩) ?_
  rotate_left
  · intro y; go_simp; try (with_reducible rfl)
  rotate_left
  go_simp
  refine wpAny_take (i := 3) (v := ?_) rfl (by kernel_rfl) (by kernel_rfl) (by kernel_rfl) (fun _ _ _ h => h) (Or.inl ⟨by rfl, ?_⟩) ?_
  rotate_left
  · intro y; go_simp; try (with_reducible rfl)
  rotate_left
  go_simp
  refine wpAny_take (i := 4) (v := ?_) rfl (by kernel_rfl) (by kernel_rfl) (by kernel_rfl) (fun _ _ _ h => h) (Or.inl ⟨by rfl, ?_⟩) ?_
  rotate_left
  · intro y; go_simp; try (with_reducible rfl)
  rotate_left
  go_simp
  refine wpAny_take (i := 5) (v := ?_) rfl (by kernel_rfl) (by kernel_rfl) (by kernel_rfl) (fun _ _ _ h => h) (Or.inl ⟨by rfl, ?_⟩) ?_
  rotate_left
  · intro y; go_simp; try (with_reducible rfl)
  rotate_left
  go_simp
  refine wpAny_take (i := 6) (v := ?_) rfl (by kernel_rfl) (by kernel_rfl) (by kernel_rfl) (fun _ _ _ h => h) (Or.inl ⟨by rfl, ?_⟩) ?_
  rotate_left
  · intro y; go_simp; try (with_reducible rfl)
  rotate_left
  go_simp
  refine wpAny_take (i := 7) (v := ?_) rfl (by kernel_rfl) (by kernel_rfl) (by kernel_rfl) (fun _ _ _ h => h) (Or.inl ⟨by rfl, ?_⟩) ?_
  rotate_left
  · intro y; go_simp; try (with_reducible rfl)
  rotate_left
  go_simp
  refine wpAny_take (i := 8) (v := ?_) rfl (by kernel_rfl) (by kernel_rfl) (by kernel_rfl) (fun _ _ _ h => h) (Or.inl ⟨by rfl, ?_⟩) ?_
  rotate_left
  · intro y; go_simp; try (with_reducible rfl)
  rotate_left
  go_simp
  refine wpAny_take (i := 10) (v := ?_) rfl (by kernel_rfl) (by kernel_rfl) (by kernel_rfl) (fun _ _ _ h => h) (Or.inl ⟨by rfl, ?_⟩) ?_
  rotate_left
  · intro y; go_simp; try (with_reducible rfl)
  rotate_left
  go_simp
  refine wpAny_take (i := 12) (v := ?_) rfl (by kernel_rfl) (by kernel_rfl) (by kernel_rfl) (fun _ _ _ h => h) (Or.inl ⟨by rfl, ?_⟩) ?_
  rotate_left
  · intro y; go_simp; try (with_reducible rfl)
  rotate_left
  go_simp
  refine wpAny_take (i := 13) (v := ?_) rfl (by kernel_rfl) (by kernel_rfl) (by kernel_rfl) (fun _ _ _ h => h) (Or.inl ⟨by rfl, ?_⟩) ?_
  rotate_left
  · intro y; go_simp; try (with_reducible rfl)
  rotate_left
  go_simp
  refine wpAny_ready (rs := [9]) (by kernel_rfl) (by simp) ?_
  refine AllReady.cons rfl (fun K hK => ?_) ?_
  ·
    apply step_wp
    · rfl
    refine ow_load_mid _ _ rfl P pre1 l1 post1 _ ?_ rfl 16 5 Try.underlying29 (blkSzL _ hl1.out) _ hb1 ?_
    · rw [hp1.out]; omega
    rw [hE.out]
    apply hK
    clear hK K
    go_simp
    refine wpAny_ready (rs := [11]) (by kernel_rfl) (by simp) ?_
    refine AllReady.cons rfl (fun K hK => ?_) ?_
    ·
      apply step_wp
      · rfl
      refine ow_call _ _ _ (by kernel_rfl) (hC.out _ hat) ?_
      rintro e W1 ⟨rfl, hs1⟩
      refine ⟨_, rfl, ?_⟩
      have hk1 : Keep [P] w2 W1 := hk0.trans0 hs1
      replace hb2 := hb2.keep hs1 (by simp)
      clear hs1
      apply hK
      clear hK K
      go_simp
      refine wpAny_take (i := 14) (v := ?_) rfl (by kernel_rfl) (by kernel_rfl) (by kernel_rfl) (fun _ _ _ h => h) (Or.inl ⟨by rfl, ?_⟩) ?_
      rotate_left
      · intro y; go_simp; try (with_reducible rfl)
      rotate_left
      go_simp
      refine wpAny_ready (rs := [15]) (by kernel_rfl) (by simp) ?_
      refine AllReady.cons rfl (fun K hK => ?_) ?_
      ·
        apply step_wp
        · rfl
        refine ow_store_mid _ _ _ rfl P pre2 old2 post2 F _ ?_ rfl rfl (blkSz _ hF0.out) (by rw [hF0.out]; exact ho2.out) hF1.out _ hb2 ?_
        · rw [hp2.out]; omega
        intro W2 hb3 hs2
        have hk2 : Keep [P] w2 W2 := hk1.trans hs2
        clear hs2
        apply hK
        clear hK K
        go_simp
        refine wpAny_done (by kernel_rfl) ?_ _
        exact hR.out _ _ ⟨rfl, rfl, by repeat (first | exact trivial | refine ⟨rfl, ?_⟩)⟩ hb3 hk2
      exact AllReady.nil
    exact AllReady.nil
  exact AllReady.nil

noncomputable def hturn3 : Code := regionOf Try.f15 3
set_option maxRecDepth 100000 in
set_option maxHeartbeats 8000000 in
theorem turn_reg3 (R : Act → World → Prop) (a : Act) (w2 : World) (P B C : Nat) (D F E : Array Value) (pre l post : List Value) (hD : Hid (D.size = 16)) (hF0 : Hid (F.size = 16)) (hF1 : Hid (F.all (·.oneCell') = true)) (hE : Hid (l.toArray = E)) (hl : Hid (l.length = 16))
    (hBB : Hid (Blk w2 B 29 D)) (hBP : Hid (Blk w2 P 62 (pre ++ (l ++ post)).toArray))
    (hpr : Hid (pre.length = 1)) (hC1 : Hid (∀ W, Calls Try.prog 22 #[.agg D, .agg E] W fun e w' => e = .returned (.agg F) ∧ Keep [] W w'))
    (hF : Fr 61 [(0, .pointer (some ⟨P, 0, none⟩)), (3, .pointer (some ⟨B, 0, none⟩)), (4, .pointer (some ⟨C, 0, none⟩))] a)
    (hR : Hid (∀ a' w', Fr 61 [(0, .pointer (some ⟨P, 0, none⟩)), (3, .pointer (some ⟨B, 0, none⟩)), (4, .pointer (some ⟨C, 0, none⟩))] a' → Blk w' B 29 F → Keep [B] w2 w' → R a' w')) :
    Code.wp Try.prog hturn3 (OutN R) a w2 := by
  obtain ⟨f, ⟨f0, f3, f4, -⟩, rfl⟩ := hF.open61
  simp only [f0, f3, f4]
  clear f0 f3 f4 hF
  conv => arg 2; whnf
  refine wp_region_any (by kernel_rfl) ?_
  change wpAny _ _ _ _ _ _ _ (World.drew _)
  obtain ⟨W0, hW0⟩ : ∃ W0, W0 = w2.drew := ⟨_, rfl⟩
  rw [← hW0]
  have hk0 : Keep [] w2 W0 := by rw [hW0]; exact (Keep.refl [] w2).drew
  have hb : Blk W0 B 29 D := by rw [hW0]; exact hBB.out.drew
  have hp0 : Blk W0 P 62 (pre ++ (l ++ post)).toArray := by rw [hW0]; exact hBP.out.drew
  clear hW0
  go_simp
  refine wpAny_take (i := 1) (v := ?_) rfl (by kernel_rfl) (by kernel_rfl) (by kernel_rfl) (fun _ _ _ h => h) (Or.inl ⟨by rfl, ?_⟩) ?_
  rotate_left
  · intro y; go_simp; try (with_reducible rfl)
  rotate_left
  go_simp
  refine wpAny_take (i := 2) (v := ?_) rfl (by kernel_rfl) (by kernel_rfl) (by kernel_rfl) (fun _ _ _ h => h) (Or.inl ⟨by rfl, ?_⟩) ?_
  rotate_left
  · intro y; go_simp; try (with_reducible rfl)
  rotate_left
  go_simp
  refine wpAny_take (i := 3) (v := ?_) rfl (by kernel_rfl) (by kernel_rfl) (by kernel_rfl) (fun _ _ _ h => h) (Or.inl ⟨by rfl, ?_⟩) ?_
  rotate_left
  · intro y; go_simp; try (with_reducible rfl)
  rotate_left
  go_simp
  refine wpAny_take (i := 4) (v := ?_) rfl (by kernel_rfl) (by kernel_rfl) (by kernel_rfl) (fun _ _ _ h => h) (Or.inl ⟨by rfl, ?_⟩) ?_
  rotate_left
  · intro y; go_simp; try (with_reducible rfl)
  rotate_left
  go_simp
  refine wpAny_ready (rs := [0, 5]) (by kernel_rfl) (by simp) ?_
  refine AllReady.cons rfl (fun K hK => ?_) ?_
  ·
    apply step_wp
    · rfl
    refine ow_load _ _ rfl B rfl 16 5 Try.underlying29 _ D hb (blkSz _ hD.out) ?_
    apply hK
    clear hK K
    go_simp
    refine wpAny_ready (rs := [5]) (by kernel_rfl) (by simp) ?_
    refine AllReady.cons rfl (fun K hK => ?_) ?_
    ·
      apply step_wp
      · rfl
      refine ow_load_mid _ _ rfl P pre l post _ ?_ rfl 16 5 Try.underlying29 (blkSzL _ hl.out) _ hp0 ?_
      · rw [hpr.out]; try omega
      rw [hE.out]
      apply hK
      clear hK K
      go_simp
      refine wpAny_ready (rs := [6]) (by kernel_rfl) (by simp) ?_
      refine AllReady.cons rfl (fun K hK => ?_) ?_
      ·
        apply step_wp
        · rfl
        refine ow_call _ _ _ (by kernel_rfl) (hC1.out _) ?_
        rintro e W6 ⟨rfl, hs6⟩
        refine ⟨_, rfl, ?_⟩
        have hk6 : Keep [] w2 W6 := hk0.trans hs6
        replace hb := hb.keep hs6 (by simp)
        replace hp0 := hp0.keep hs6 (by simp)
        clear hs6
        apply hK
        clear hK K
        go_simp
        refine wpAny_ready (rs := [7]) (by kernel_rfl) (by simp) ?_
        refine AllReady.cons rfl (fun K hK => ?_) ?_
        ·
          apply step_wp
          · rfl
          refine ow_store _ _ _ rfl B F rfl rfl _ _ hb (blkSz _ hF0.out) (by rw [hF0.out]; exact hD.out) hF1.out ?_
          intro WF hbF hsF
          have hkF : Keep [B] w2 WF := hk6.more0.trans hsF
          clear hsF
          apply hK
          clear hK K
          go_simp
          refine wpAny_done (by kernel_rfl) ?_ _
          exact hR.out _ _ ⟨rfl, rfl, by repeat (first | exact trivial | refine ⟨rfl, ?_⟩)⟩ hbF hkF
        exact AllReady.nil
      exact AllReady.nil
    exact AllReady.nil
  refine AllReady.cons rfl (fun K hK => ?_) ?_
  ·
    apply step_wp
    · rfl
    refine ow_load_mid _ _ rfl P pre l post _ ?_ rfl 16 5 Try.underlying29 (blkSzL _ hl.out) _ hp0 ?_
    · rw [hpr.out]; try omega
    rw [hE.out]
    apply hK
    clear hK K
    go_simp
    refine wpAny_ready (rs := [0]) (by kernel_rfl) (by simp) ?_
    refine AllReady.cons rfl (fun K hK => ?_) ?_
    ·
      apply step_wp
      · rfl
      refine ow_load _ _ rfl B rfl 16 5 Try.underlying29 _ D hb (blkSz _ hD.out) ?_
      apply hK
      clear hK K
      go_simp
      refine wpAny_ready (rs := [6]) (by kernel_rfl) (by simp) ?_
      refine AllReady.cons rfl (fun K hK => ?_) ?_
      ·
        apply step_wp
        · rfl
        refine ow_call _ _ _ (by kernel_rfl) (hC1.out _) ?_
        rintro e W6 ⟨rfl, hs6⟩
        refine ⟨_, rfl, ?_⟩
        have hk6 : Keep [] w2 W6 := hk0.trans hs6
        replace hb := hb.keep hs6 (by simp)
        replace hp0 := hp0.keep hs6 (by simp)
        clear hs6
        apply hK
        clear hK K
        go_simp
        refine wpAny_ready (rs := [7]) (by kernel_rfl) (by simp) ?_
        refine AllReady.cons rfl (fun K hK => ?_) ?_
        ·
          apply step_wp
          · rfl
          refine ow_store _ _ _ rfl B F rfl rfl _ _ hb (blkSz _ hF0.out) (by rw [hF0.out]; exact hD.out) hF1.out ?_
          intro WF hbF hsF
          have hkF : Keep [B] w2 WF := hk6.more0.trans hsF
          clear hsF
          apply hK
          clear hK K
          go_simp
          refine wpAny_done (by kernel_rfl) ?_ _
          exact hR.out _ _ ⟨rfl, rfl, by repeat (first | exact trivial | refine ⟨rfl, ?_⟩)⟩ hbF hkF
        exact AllReady.nil
      exact AllReady.nil
    exact AllReady.nil
  exact AllReady.nil

noncomputable def hturn7 : Code := regionOf Try.f15 7
set_option maxRecDepth 100000 in
set_option maxHeartbeats 8000000 in
theorem turn_reg7 (R : Act → World → Prop) (a : Act) (w2 : World) (P B C : Nat) (D F E : Array Value) (pre l post : List Value) (hD : Hid (D.size = 16)) (hF0 : Hid (F.size = 16)) (hF1 : Hid (F.all (·.oneCell') = true)) (hE : Hid (l.toArray = E)) (hl : Hid (l.length = 16))
    (hBB : Hid (Blk w2 B 29 D)) (hBP : Hid (Blk w2 P 62 (pre ++ (l ++ post)).toArray)) (g n r : Nat) (D1 D2 : Array Value) (hr : r < 10) (hpr : Hid (pre.length = 1 + 16 * r)) (hA : Hid (∀ W, Keep [] w2 W → AT W g n))
    (hLP : ∀ W, Blk W P 62 (pre ++ (l ++ post)).toArray → (loadVar 23 ⟨P, 0, none⟩).run Try.prog W = .ok (.pointer (some ⟨g, 0, none⟩)) W)
    (hC0 : Hid (∀ W, AT W g n → Calls Try.prog 24 #[.pointer (some ⟨g, 0, none⟩), .agg D] W fun e w' => e = .returned (.agg D1) ∧ Keep [] W w'))
    (hC1 : Hid (∀ W, Calls Try.prog 23 #[.agg D1] W fun e w' => e = .returned (.agg D2) ∧ Keep [] W w'))
    (hC2 : Hid (∀ W, Calls Try.prog 22 #[.agg D2, .agg E] W fun e w' => e = .returned (.agg F) ∧ Keep [] W w'))
    (hF : Fr 61 [(0, .pointer (some ⟨P, 0, none⟩)), (3, .pointer (some ⟨B, 0, none⟩)), (4, .pointer (some ⟨C, 0, none⟩)), (5, .int .i64 r)] a)
    (hR : Hid (∀ a' w', Fr 61 [(0, .pointer (some ⟨P, 0, none⟩)), (3, .pointer (some ⟨B, 0, none⟩)), (4, .pointer (some ⟨C, 0, none⟩)), (5, .int .i64 r)] a' → Blk w' B 29 F → Keep [B] w2 w' → R a' w')) :
    Code.wp Try.prog hturn7 (OutN R) a w2 := by
  have bi : (0 : Int) ≤ r ∧ (r : Int) < 11 := ⟨by omega, by omega⟩
  obtain ⟨f, ⟨f0, f3, f4, f5, -⟩, rfl⟩ := hF.open61
  simp only [f0, f3, f4, f5]
  clear f0 f3 f4 f5 hF
  conv => arg 2; whnf
  refine wp_region_any (by kernel_rfl) ?_
  change wpAny _ _ _ _ _ _ _ (World.drew _)
  obtain ⟨W0, hW0⟩ : ∃ W0, W0 = w2.drew := ⟨_, rfl⟩
  rw [← hW0]
  have hk0 : Keep [] w2 W0 := by rw [hW0]; exact (Keep.refl [] w2).drew
  have hb : Blk W0 B 29 D := by rw [hW0]; exact hBB.out.drew
  have hp0 : Blk W0 P 62 (pre ++ (l ++ post)).toArray := by rw [hW0]; exact hBP.out.drew
  clear hW0
  go_simp
  refine wpAny_take (i := 0) (v := ?_) rfl (by kernel_rfl) (by kernel_rfl) (by kernel_rfl) (fun _ _ _ h => h) (Or.inl ⟨by rfl, ?_⟩) ?_
  rotate_left
  · intro y; go_simp; try (with_reducible rfl)
  rotate_left
  go_simp
  refine wpAny_take (i := 1) (v := ?_) rfl (by kernel_rfl) (by kernel_rfl) (by kernel_rfl) (fun _ _ _ h => h) (Or.inl ⟨by rfl, ?_⟩) ?_
  rotate_left
  · intro y; go_simp; try (with_reducible rfl)
  rotate_left
  go_simp
  refine wpAny_take (i := 2) (v := ?_) rfl (by kernel_rfl) (by kernel_rfl) (by kernel_rfl) (fun _ _ _ h => h) (Or.inl ⟨by rfl, ?_⟩) ?_
  rotate_left
  · intro y; go_simp; try (with_reducible rfl)
  rotate_left
  go_simp
  refine wpAny_take (i := 7) (v := ?_) rfl (by kernel_rfl) (by kernel_rfl) (by kernel_rfl) (fun _ _ _ h => h) (Or.inl ⟨by rfl, ?_⟩) ?_
  rotate_left
  · intro y; go_simp; try (with_reducible rfl)
  rotate_left
  go_simp
  refine wpAny_take (i := 8) (v := ?_) rfl (by kernel_rfl) (by kernel_rfl) (by kernel_rfl) (fun _ _ _ h => h) (Or.inl ⟨by rfl, ?_⟩) ?_
  rotate_left
  · intro y; go_simp; try (with_reducible rfl)
  rotate_left
  go_simp
  refine wpAny_take (i := 9) (v := ?_) rfl (by kernel_rfl) (by kernel_rfl) (by kernel_rfl) (fun _ _ _ h => h) (Or.inl ⟨by rfl, ?_⟩) ?_
  rotate_left
  · intro y; go_simp; try (with_reducible rfl)
  rotate_left
  go_simp
  refine wpAny_take (i := 10) (v := ?_) rfl (by kernel_rfl) (by kernel_rfl) (by kernel_rfl) (fun _ _ _ h => h) (Or.inl ⟨by rfl, ?_⟩) ?_
  rotate_left
  · intro y; go_simp; try (with_reducible rfl)
  rotate_left
  go_simp
  refine wpAny_take (i := 11) (v := ?_) rfl (by kernel_rfl) (by kernel_rfl) (by kernel_rfl) (fun _ _ _ h => h) (Or.inl ⟨by rfl, ?_⟩) ?_
  rotate_left
  · intro y; go_simp; try (with_reducible rfl)
  rotate_left
  go_simp
  refine wpAny_ready (rs := [3, 4, 12]) (by kernel_rfl) (by simp) ?_
  refine AllReady.cons rfl (fun K hK => ?_) ?_
  ·
    apply step_wp
    · rfl
    refine ow_load1 _ _ rfl ⟨P, 0, none⟩ rfl (.pointer (some ⟨g, 0, none⟩)) (hLP _ hp0) ?_
    apply hK
    clear hK K
    go_simp
    refine wpAny_ready (rs := [4, 12]) (by kernel_rfl) (by simp) ?_
    refine AllReady.cons rfl (fun K hK => ?_) ?_
    ·
      apply step_wp
      · rfl
      refine ow_load _ _ rfl B rfl 16 5 Try.underlying29 _ D hb (blkSz _ hD.out) ?_
      apply hK
      clear hK K
      go_simp
      refine wpAny_ready (rs := [5, 12]) (by kernel_rfl) (by simp) ?_
      refine AllReady.cons rfl (fun K hK => ?_) ?_
      ·
        apply step_wp
        · rfl
        refine ow_call _ _ _ (by kernel_rfl) (hC0.out _ (hA.out _ hk0)) ?_
        rintro e W5 ⟨rfl, hs5⟩
        refine ⟨_, rfl, ?_⟩
        have hk5 : Keep [] w2 W5 := hk0.trans hs5
        replace hb := hb.keep hs5 (by simp)
        replace hp0 := hp0.keep hs5 (by simp)
        clear hs5
        apply hK
        clear hK K
        go_simp
        refine wpAny_ready (rs := [6, 12]) (by kernel_rfl) (by simp) ?_
        refine AllReady.cons rfl (fun K hK => ?_) ?_
        ·
          apply step_wp
          · rfl
          refine ow_call _ _ _ (by kernel_rfl) (hC1.out _) ?_
          rintro e W6 ⟨rfl, hs6⟩
          refine ⟨_, rfl, ?_⟩
          have hk6 : Keep [] w2 W6 := hk5.trans hs6
          replace hb := hb.keep hs6 (by simp)
          replace hp0 := hp0.keep hs6 (by simp)
          clear hs6
          apply hK
          clear hK K
          go_simp
          refine wpAny_ready (rs := [12]) (by kernel_rfl) (by simp) ?_
          refine AllReady.cons rfl (fun K hK => ?_) ?_
          ·
            apply step_wp
            · rfl
            refine ow_load_mid _ _ rfl P pre l post _ ?_ rfl 16 5 Try.underlying29 (blkSzL _ hl.out) _ hp0 ?_
            · rw [hpr.out]; try omega
            rw [hE.out]
            apply hK
            clear hK K
            go_simp
            refine wpAny_ready (rs := [13]) (by kernel_rfl) (by simp) ?_
            refine AllReady.cons rfl (fun K hK => ?_) ?_
            ·
              apply step_wp
              · rfl
              refine ow_call _ _ _ (by kernel_rfl) (hC2.out _) ?_
              rintro e W13 ⟨rfl, hs13⟩
              refine ⟨_, rfl, ?_⟩
              have hk13 : Keep [] w2 W13 := hk6.trans hs13
              replace hb := hb.keep hs13 (by simp)
              replace hp0 := hp0.keep hs13 (by simp)
              clear hs13
              apply hK
              clear hK K
              go_simp
              refine wpAny_ready (rs := [14]) (by kernel_rfl) (by simp) ?_
              refine AllReady.cons rfl (fun K hK => ?_) ?_
              ·
                apply step_wp
                · rfl
                refine ow_store _ _ _ rfl B F rfl rfl _ _ hb (blkSz _ hF0.out) (by rw [hF0.out]; exact hD.out) hF1.out ?_
                intro WF hbF hsF
                have hkF : Keep [B] w2 WF := hk13.more0.trans hsF
                clear hsF
                apply hK
                clear hK K
                go_simp
                refine wpAny_done (by kernel_rfl) ?_ _
                exact hR.out _ _ ⟨rfl, rfl, by repeat (first | exact trivial | refine ⟨rfl, ?_⟩)⟩ hbF hkF
              exact AllReady.nil
            exact AllReady.nil
          exact AllReady.nil
        refine AllReady.cons rfl (fun K hK => ?_) ?_
        ·
          apply step_wp
          · rfl
          refine ow_load_mid _ _ rfl P pre l post _ ?_ rfl 16 5 Try.underlying29 (blkSzL _ hl.out) _ hp0 ?_
          · rw [hpr.out]; try omega
          rw [hE.out]
          apply hK
          clear hK K
          go_simp
          refine wpAny_ready (rs := [6]) (by kernel_rfl) (by simp) ?_
          refine AllReady.cons rfl (fun K hK => ?_) ?_
          ·
            apply step_wp
            · rfl
            refine ow_call _ _ _ (by kernel_rfl) (hC1.out _) ?_
            rintro e W6 ⟨rfl, hs6⟩
            refine ⟨_, rfl, ?_⟩
            have hk6 : Keep [] w2 W6 := hk5.trans hs6
            replace hb := hb.keep hs6 (by simp)
            replace hp0 := hp0.keep hs6 (by simp)
            clear hs6
            apply hK
            clear hK K
            go_simp
            refine wpAny_ready (rs := [13]) (by kernel_rfl) (by simp) ?_
            refine AllReady.cons rfl (fun K hK => ?_) ?_
            ·
              apply step_wp
              · rfl
              refine ow_call _ _ _ (by kernel_rfl) (hC2.out _) ?_
              rintro e W13 ⟨rfl, hs13⟩
              refine ⟨_, rfl, ?_⟩
              have hk13 : Keep [] w2 W13 := hk6.trans hs13
              replace hb := hb.keep hs13 (by simp)
              replace hp0 := hp0.keep hs13 (by simp)
              clear hs13
              apply hK
              clear hK K
              go_simp
              refine wpAny_ready (rs := [14]) (by kernel_rfl) (by simp) ?_
              refine AllReady.cons rfl (fun K hK => ?_) ?_
              ·
                apply step_wp
                · rfl
                refine ow_store _ _ _ rfl B F rfl rfl _ _ hb (blkSz _ hF0.out) (by rw [hF0.out]; exact hD.out) hF1.out ?_
                intro WF hbF hsF
                have hkF : Keep [B] w2 WF := hk13.more0.trans hsF
                clear hsF
                apply hK
                clear hK K
                go_simp
                refine wpAny_done (by kernel_rfl) ?_ _
                exact hR.out _ _ ⟨rfl, rfl, by repeat (first | exact trivial | refine ⟨rfl, ?_⟩)⟩ hbF hkF
              exact AllReady.nil
            exact AllReady.nil
          exact AllReady.nil
        exact AllReady.nil
      refine AllReady.cons rfl (fun K hK => ?_) ?_
      ·
        apply step_wp
        · rfl
        refine ow_load_mid _ _ rfl P pre l post _ ?_ rfl 16 5 Try.underlying29 (blkSzL _ hl.out) _ hp0 ?_
        · rw [hpr.out]; try omega
        rw [hE.out]
        apply hK
        clear hK K
        go_simp
        refine wpAny_ready (rs := [5]) (by kernel_rfl) (by simp) ?_
        refine AllReady.cons rfl (fun K hK => ?_) ?_
        ·
          apply step_wp
          · rfl
          refine ow_call _ _ _ (by kernel_rfl) (hC0.out _ (hA.out _ hk0)) ?_
          rintro e W5 ⟨rfl, hs5⟩
          refine ⟨_, rfl, ?_⟩
          have hk5 : Keep [] w2 W5 := hk0.trans hs5
          replace hb := hb.keep hs5 (by simp)
          replace hp0 := hp0.keep hs5 (by simp)
          clear hs5
          apply hK
          clear hK K
          go_simp
          refine wpAny_ready (rs := [6]) (by kernel_rfl) (by simp) ?_
          refine AllReady.cons rfl (fun K hK => ?_) ?_
          ·
            apply step_wp
            · rfl
            refine ow_call _ _ _ (by kernel_rfl) (hC1.out _) ?_
            rintro e W6 ⟨rfl, hs6⟩
            refine ⟨_, rfl, ?_⟩
            have hk6 : Keep [] w2 W6 := hk5.trans hs6
            replace hb := hb.keep hs6 (by simp)
            replace hp0 := hp0.keep hs6 (by simp)
            clear hs6
            apply hK
            clear hK K
            go_simp
            refine wpAny_ready (rs := [13]) (by kernel_rfl) (by simp) ?_
            refine AllReady.cons rfl (fun K hK => ?_) ?_
            ·
              apply step_wp
              · rfl
              refine ow_call _ _ _ (by kernel_rfl) (hC2.out _) ?_
              rintro e W13 ⟨rfl, hs13⟩
              refine ⟨_, rfl, ?_⟩
              have hk13 : Keep [] w2 W13 := hk6.trans hs13
              replace hb := hb.keep hs13 (by simp)
              replace hp0 := hp0.keep hs13 (by simp)
              clear hs13
              apply hK
              clear hK K
              go_simp
              refine wpAny_ready (rs := [14]) (by kernel_rfl) (by simp) ?_
              refine AllReady.cons rfl (fun K hK => ?_) ?_
              ·
                apply step_wp
                · rfl
                refine ow_store _ _ _ rfl B F rfl rfl _ _ hb (blkSz _ hF0.out) (by rw [hF0.out]; exact hD.out) hF1.out ?_
                intro WF hbF hsF
                have hkF : Keep [B] w2 WF := hk13.more0.trans hsF
                clear hsF
                apply hK
                clear hK K
                go_simp
                refine wpAny_done (by kernel_rfl) ?_ _
                exact hR.out _ _ ⟨rfl, rfl, by repeat (first | exact trivial | refine ⟨rfl, ?_⟩)⟩ hbF hkF
              exact AllReady.nil
            exact AllReady.nil
          exact AllReady.nil
        exact AllReady.nil
      exact AllReady.nil
    refine AllReady.cons rfl (fun K hK => ?_) ?_
    ·
      apply step_wp
      · rfl
      refine ow_load_mid _ _ rfl P pre l post _ ?_ rfl 16 5 Try.underlying29 (blkSzL _ hl.out) _ hp0 ?_
      · rw [hpr.out]; try omega
      rw [hE.out]
      apply hK
      clear hK K
      go_simp
      refine wpAny_ready (rs := [4]) (by kernel_rfl) (by simp) ?_
      refine AllReady.cons rfl (fun K hK => ?_) ?_
      ·
        apply step_wp
        · rfl
        refine ow_load _ _ rfl B rfl 16 5 Try.underlying29 _ D hb (blkSz _ hD.out) ?_
        apply hK
        clear hK K
        go_simp
        refine wpAny_ready (rs := [5]) (by kernel_rfl) (by simp) ?_
        refine AllReady.cons rfl (fun K hK => ?_) ?_
        ·
          apply step_wp
          · rfl
          refine ow_call _ _ _ (by kernel_rfl) (hC0.out _ (hA.out _ hk0)) ?_
          rintro e W5 ⟨rfl, hs5⟩
          refine ⟨_, rfl, ?_⟩
          have hk5 : Keep [] w2 W5 := hk0.trans hs5
          replace hb := hb.keep hs5 (by simp)
          replace hp0 := hp0.keep hs5 (by simp)
          clear hs5
          apply hK
          clear hK K
          go_simp
          refine wpAny_ready (rs := [6]) (by kernel_rfl) (by simp) ?_
          refine AllReady.cons rfl (fun K hK => ?_) ?_
          ·
            apply step_wp
            · rfl
            refine ow_call _ _ _ (by kernel_rfl) (hC1.out _) ?_
            rintro e W6 ⟨rfl, hs6⟩
            refine ⟨_, rfl, ?_⟩
            have hk6 : Keep [] w2 W6 := hk5.trans hs6
            replace hb := hb.keep hs6 (by simp)
            replace hp0 := hp0.keep hs6 (by simp)
            clear hs6
            apply hK
            clear hK K
            go_simp
            refine wpAny_ready (rs := [13]) (by kernel_rfl) (by simp) ?_
            refine AllReady.cons rfl (fun K hK => ?_) ?_
            ·
              apply step_wp
              · rfl
              refine ow_call _ _ _ (by kernel_rfl) (hC2.out _) ?_
              rintro e W13 ⟨rfl, hs13⟩
              refine ⟨_, rfl, ?_⟩
              have hk13 : Keep [] w2 W13 := hk6.trans hs13
              replace hb := hb.keep hs13 (by simp)
              replace hp0 := hp0.keep hs13 (by simp)
              clear hs13
              apply hK
              clear hK K
              go_simp
              refine wpAny_ready (rs := [14]) (by kernel_rfl) (by simp) ?_
              refine AllReady.cons rfl (fun K hK => ?_) ?_
              ·
                apply step_wp
                · rfl
                refine ow_store _ _ _ rfl B F rfl rfl _ _ hb (blkSz _ hF0.out) (by rw [hF0.out]; exact hD.out) hF1.out ?_
                intro WF hbF hsF
                have hkF : Keep [B] w2 WF := hk13.more0.trans hsF
                clear hsF
                apply hK
                clear hK K
                go_simp
                refine wpAny_done (by kernel_rfl) ?_ _
                exact hR.out _ _ ⟨rfl, rfl, by repeat (first | exact trivial | refine ⟨rfl, ?_⟩)⟩ hbF hkF
              exact AllReady.nil
            exact AllReady.nil
          exact AllReady.nil
        exact AllReady.nil
      exact AllReady.nil
    exact AllReady.nil
  refine AllReady.cons rfl (fun K hK => ?_) ?_
  ·
    apply step_wp
    · rfl
    refine ow_load _ _ rfl B rfl 16 5 Try.underlying29 _ D hb (blkSz _ hD.out) ?_
    apply hK
    clear hK K
    go_simp
    refine wpAny_ready (rs := [3, 12]) (by kernel_rfl) (by simp) ?_
    refine AllReady.cons rfl (fun K hK => ?_) ?_
    ·
      apply step_wp
      · rfl
      refine ow_load1 _ _ rfl ⟨P, 0, none⟩ rfl (.pointer (some ⟨g, 0, none⟩)) (hLP _ hp0) ?_
      apply hK
      clear hK K
      go_simp
      refine wpAny_ready (rs := [5, 12]) (by kernel_rfl) (by simp) ?_
      refine AllReady.cons rfl (fun K hK => ?_) ?_
      ·
        apply step_wp
        · rfl
        refine ow_call _ _ _ (by kernel_rfl) (hC0.out _ (hA.out _ hk0)) ?_
        rintro e W5 ⟨rfl, hs5⟩
        refine ⟨_, rfl, ?_⟩
        have hk5 : Keep [] w2 W5 := hk0.trans hs5
        replace hb := hb.keep hs5 (by simp)
        replace hp0 := hp0.keep hs5 (by simp)
        clear hs5
        apply hK
        clear hK K
        go_simp
        refine wpAny_ready (rs := [6, 12]) (by kernel_rfl) (by simp) ?_
        refine AllReady.cons rfl (fun K hK => ?_) ?_
        ·
          apply step_wp
          · rfl
          refine ow_call _ _ _ (by kernel_rfl) (hC1.out _) ?_
          rintro e W6 ⟨rfl, hs6⟩
          refine ⟨_, rfl, ?_⟩
          have hk6 : Keep [] w2 W6 := hk5.trans hs6
          replace hb := hb.keep hs6 (by simp)
          replace hp0 := hp0.keep hs6 (by simp)
          clear hs6
          apply hK
          clear hK K
          go_simp
          refine wpAny_ready (rs := [12]) (by kernel_rfl) (by simp) ?_
          refine AllReady.cons rfl (fun K hK => ?_) ?_
          ·
            apply step_wp
            · rfl
            refine ow_load_mid _ _ rfl P pre l post _ ?_ rfl 16 5 Try.underlying29 (blkSzL _ hl.out) _ hp0 ?_
            · rw [hpr.out]; try omega
            rw [hE.out]
            apply hK
            clear hK K
            go_simp
            refine wpAny_ready (rs := [13]) (by kernel_rfl) (by simp) ?_
            refine AllReady.cons rfl (fun K hK => ?_) ?_
            ·
              apply step_wp
              · rfl
              refine ow_call _ _ _ (by kernel_rfl) (hC2.out _) ?_
              rintro e W13 ⟨rfl, hs13⟩
              refine ⟨_, rfl, ?_⟩
              have hk13 : Keep [] w2 W13 := hk6.trans hs13
              replace hb := hb.keep hs13 (by simp)
              replace hp0 := hp0.keep hs13 (by simp)
              clear hs13
              apply hK
              clear hK K
              go_simp
              refine wpAny_ready (rs := [14]) (by kernel_rfl) (by simp) ?_
              refine AllReady.cons rfl (fun K hK => ?_) ?_
              ·
                apply step_wp
                · rfl
                refine ow_store _ _ _ rfl B F rfl rfl _ _ hb (blkSz _ hF0.out) (by rw [hF0.out]; exact hD.out) hF1.out ?_
                intro WF hbF hsF
                have hkF : Keep [B] w2 WF := hk13.more0.trans hsF
                clear hsF
                apply hK
                clear hK K
                go_simp
                refine wpAny_done (by kernel_rfl) ?_ _
                exact hR.out _ _ ⟨rfl, rfl, by repeat (first | exact trivial | refine ⟨rfl, ?_⟩)⟩ hbF hkF
              exact AllReady.nil
            exact AllReady.nil
          exact AllReady.nil
        refine AllReady.cons rfl (fun K hK => ?_) ?_
        ·
          apply step_wp
          · rfl
          refine ow_load_mid _ _ rfl P pre l post _ ?_ rfl 16 5 Try.underlying29 (blkSzL _ hl.out) _ hp0 ?_
          · rw [hpr.out]; try omega
          rw [hE.out]
          apply hK
          clear hK K
          go_simp
          refine wpAny_ready (rs := [6]) (by kernel_rfl) (by simp) ?_
          refine AllReady.cons rfl (fun K hK => ?_) ?_
          ·
            apply step_wp
            · rfl
            refine ow_call _ _ _ (by kernel_rfl) (hC1.out _) ?_
            rintro e W6 ⟨rfl, hs6⟩
            refine ⟨_, rfl, ?_⟩
            have hk6 : Keep [] w2 W6 := hk5.trans hs6
            replace hb := hb.keep hs6 (by simp)
            replace hp0 := hp0.keep hs6 (by simp)
            clear hs6
            apply hK
            clear hK K
            go_simp
            refine wpAny_ready (rs := [13]) (by kernel_rfl) (by simp) ?_
            refine AllReady.cons rfl (fun K hK => ?_) ?_
            ·
              apply step_wp
              · rfl
              refine ow_call _ _ _ (by kernel_rfl) (hC2.out _) ?_
              rintro e W13 ⟨rfl, hs13⟩
              refine ⟨_, rfl, ?_⟩
              have hk13 : Keep [] w2 W13 := hk6.trans hs13
              replace hb := hb.keep hs13 (by simp)
              replace hp0 := hp0.keep hs13 (by simp)
              clear hs13
              apply hK
              clear hK K
              go_simp
              refine wpAny_ready (rs := [14]) (by kernel_rfl) (by simp) ?_
              refine AllReady.cons rfl (fun K hK => ?_) ?_
              ·
                apply step_wp
                · rfl
                refine ow_store _ _ _ rfl B F rfl rfl _ _ hb (blkSz _ hF0.out) (by rw [hF0.out]; exact hD.out) hF1.out ?_
                intro WF hbF hsF
                have hkF : Keep [B] w2 WF := hk13.more0.trans hsF
                clear hsF
                apply hK
                clear hK K
                go_simp
                refine wpAny_done (by kernel_rfl) ?_ _
                exact hR.out _ _ ⟨rfl, rfl, by repeat (first | exact trivial | refine ⟨rfl, ?_⟩)⟩ hbF hkF
              exact AllReady.nil
            exact AllReady.nil
          exact AllReady.nil
        exact AllReady.nil
      refine AllReady.cons rfl (fun K hK => ?_) ?_
      ·
        apply step_wp
        · rfl
        refine ow_load_mid _ _ rfl P pre l post _ ?_ rfl 16 5 Try.underlying29 (blkSzL _ hl.out) _ hp0 ?_
        · rw [hpr.out]; try omega
        rw [hE.out]
        apply hK
        clear hK K
        go_simp
        refine wpAny_ready (rs := [5]) (by kernel_rfl) (by simp) ?_
        refine AllReady.cons rfl (fun K hK => ?_) ?_
        ·
          apply step_wp
          · rfl
          refine ow_call _ _ _ (by kernel_rfl) (hC0.out _ (hA.out _ hk0)) ?_
          rintro e W5 ⟨rfl, hs5⟩
          refine ⟨_, rfl, ?_⟩
          have hk5 : Keep [] w2 W5 := hk0.trans hs5
          replace hb := hb.keep hs5 (by simp)
          replace hp0 := hp0.keep hs5 (by simp)
          clear hs5
          apply hK
          clear hK K
          go_simp
          refine wpAny_ready (rs := [6]) (by kernel_rfl) (by simp) ?_
          refine AllReady.cons rfl (fun K hK => ?_) ?_
          ·
            apply step_wp
            · rfl
            refine ow_call _ _ _ (by kernel_rfl) (hC1.out _) ?_
            rintro e W6 ⟨rfl, hs6⟩
            refine ⟨_, rfl, ?_⟩
            have hk6 : Keep [] w2 W6 := hk5.trans hs6
            replace hb := hb.keep hs6 (by simp)
            replace hp0 := hp0.keep hs6 (by simp)
            clear hs6
            apply hK
            clear hK K
            go_simp
            refine wpAny_ready (rs := [13]) (by kernel_rfl) (by simp) ?_
            refine AllReady.cons rfl (fun K hK => ?_) ?_
            ·
              apply step_wp
              · rfl
              refine ow_call _ _ _ (by kernel_rfl) (hC2.out _) ?_
              rintro e W13 ⟨rfl, hs13⟩
              refine ⟨_, rfl, ?_⟩
              have hk13 : Keep [] w2 W13 := hk6.trans hs13
              replace hb := hb.keep hs13 (by simp)
              replace hp0 := hp0.keep hs13 (by simp)
              clear hs13
              apply hK
              clear hK K
              go_simp
              refine wpAny_ready (rs := [14]) (by kernel_rfl) (by simp) ?_
              refine AllReady.cons rfl (fun K hK => ?_) ?_
              ·
                apply step_wp
                · rfl
                refine ow_store _ _ _ rfl B F rfl rfl _ _ hb (blkSz _ hF0.out) (by rw [hF0.out]; exact hD.out) hF1.out ?_
                intro WF hbF hsF
                have hkF : Keep [B] w2 WF := hk13.more0.trans hsF
                clear hsF
                apply hK
                clear hK K
                go_simp
                refine wpAny_done (by kernel_rfl) ?_ _
                exact hR.out _ _ ⟨rfl, rfl, by repeat (first | exact trivial | refine ⟨rfl, ?_⟩)⟩ hbF hkF
              exact AllReady.nil
            exact AllReady.nil
          exact AllReady.nil
        exact AllReady.nil
      exact AllReady.nil
    refine AllReady.cons rfl (fun K hK => ?_) ?_
    ·
      apply step_wp
      · rfl
      refine ow_load_mid _ _ rfl P pre l post _ ?_ rfl 16 5 Try.underlying29 (blkSzL _ hl.out) _ hp0 ?_
      · rw [hpr.out]; try omega
      rw [hE.out]
      apply hK
      clear hK K
      go_simp
      refine wpAny_ready (rs := [3]) (by kernel_rfl) (by simp) ?_
      refine AllReady.cons rfl (fun K hK => ?_) ?_
      ·
        apply step_wp
        · rfl
        refine ow_load1 _ _ rfl ⟨P, 0, none⟩ rfl (.pointer (some ⟨g, 0, none⟩)) (hLP _ hp0) ?_
        apply hK
        clear hK K
        go_simp
        refine wpAny_ready (rs := [5]) (by kernel_rfl) (by simp) ?_
        refine AllReady.cons rfl (fun K hK => ?_) ?_
        ·
          apply step_wp
          · rfl
          refine ow_call _ _ _ (by kernel_rfl) (hC0.out _ (hA.out _ hk0)) ?_
          rintro e W5 ⟨rfl, hs5⟩
          refine ⟨_, rfl, ?_⟩
          have hk5 : Keep [] w2 W5 := hk0.trans hs5
          replace hb := hb.keep hs5 (by simp)
          replace hp0 := hp0.keep hs5 (by simp)
          clear hs5
          apply hK
          clear hK K
          go_simp
          refine wpAny_ready (rs := [6]) (by kernel_rfl) (by simp) ?_
          refine AllReady.cons rfl (fun K hK => ?_) ?_
          ·
            apply step_wp
            · rfl
            refine ow_call _ _ _ (by kernel_rfl) (hC1.out _) ?_
            rintro e W6 ⟨rfl, hs6⟩
            refine ⟨_, rfl, ?_⟩
            have hk6 : Keep [] w2 W6 := hk5.trans hs6
            replace hb := hb.keep hs6 (by simp)
            replace hp0 := hp0.keep hs6 (by simp)
            clear hs6
            apply hK
            clear hK K
            go_simp
            refine wpAny_ready (rs := [13]) (by kernel_rfl) (by simp) ?_
            refine AllReady.cons rfl (fun K hK => ?_) ?_
            ·
              apply step_wp
              · rfl
              refine ow_call _ _ _ (by kernel_rfl) (hC2.out _) ?_
              rintro e W13 ⟨rfl, hs13⟩
              refine ⟨_, rfl, ?_⟩
              have hk13 : Keep [] w2 W13 := hk6.trans hs13
              replace hb := hb.keep hs13 (by simp)
              replace hp0 := hp0.keep hs13 (by simp)
              clear hs13
              apply hK
              clear hK K
              go_simp
              refine wpAny_ready (rs := [14]) (by kernel_rfl) (by simp) ?_
              refine AllReady.cons rfl (fun K hK => ?_) ?_
              ·
                apply step_wp
                · rfl
                refine ow_store _ _ _ rfl B F rfl rfl _ _ hb (blkSz _ hF0.out) (by rw [hF0.out]; exact hD.out) hF1.out ?_
                intro WF hbF hsF
                have hkF : Keep [B] w2 WF := hk13.more0.trans hsF
                clear hsF
                apply hK
                clear hK K
                go_simp
                refine wpAny_done (by kernel_rfl) ?_ _
                exact hR.out _ _ ⟨rfl, rfl, by repeat (first | exact trivial | refine ⟨rfl, ?_⟩)⟩ hbF hkF
              exact AllReady.nil
            exact AllReady.nil
          exact AllReady.nil
        exact AllReady.nil
      exact AllReady.nil
    exact AllReady.nil
  refine AllReady.cons rfl (fun K hK => ?_) ?_
  ·
    apply step_wp
    · rfl
    refine ow_load_mid _ _ rfl P pre l post _ ?_ rfl 16 5 Try.underlying29 (blkSzL _ hl.out) _ hp0 ?_
    · rw [hpr.out]; try omega
    rw [hE.out]
    apply hK
    clear hK K
    go_simp
    refine wpAny_ready (rs := [3, 4]) (by kernel_rfl) (by simp) ?_
    refine AllReady.cons rfl (fun K hK => ?_) ?_
    ·
      apply step_wp
      · rfl
      refine ow_load1 _ _ rfl ⟨P, 0, none⟩ rfl (.pointer (some ⟨g, 0, none⟩)) (hLP _ hp0) ?_
      apply hK
      clear hK K
      go_simp
      refine wpAny_ready (rs := [4]) (by kernel_rfl) (by simp) ?_
      refine AllReady.cons rfl (fun K hK => ?_) ?_
      ·
        apply step_wp
        · rfl
        refine ow_load _ _ rfl B rfl 16 5 Try.underlying29 _ D hb (blkSz _ hD.out) ?_
        apply hK
        clear hK K
        go_simp
        refine wpAny_ready (rs := [5]) (by kernel_rfl) (by simp) ?_
        refine AllReady.cons rfl (fun K hK => ?_) ?_
        ·
          apply step_wp
          · rfl
          refine ow_call _ _ _ (by kernel_rfl) (hC0.out _ (hA.out _ hk0)) ?_
          rintro e W5 ⟨rfl, hs5⟩
          refine ⟨_, rfl, ?_⟩
          have hk5 : Keep [] w2 W5 := hk0.trans hs5
          replace hb := hb.keep hs5 (by simp)
          replace hp0 := hp0.keep hs5 (by simp)
          clear hs5
          apply hK
          clear hK K
          go_simp
          refine wpAny_ready (rs := [6]) (by kernel_rfl) (by simp) ?_
          refine AllReady.cons rfl (fun K hK => ?_) ?_
          ·
            apply step_wp
            · rfl
            refine ow_call _ _ _ (by kernel_rfl) (hC1.out _) ?_
            rintro e W6 ⟨rfl, hs6⟩
            refine ⟨_, rfl, ?_⟩
            have hk6 : Keep [] w2 W6 := hk5.trans hs6
            replace hb := hb.keep hs6 (by simp)
            replace hp0 := hp0.keep hs6 (by simp)
            clear hs6
            apply hK
            clear hK K
            go_simp
            refine wpAny_ready (rs := [13]) (by kernel_rfl) (by simp) ?_
            refine AllReady.cons rfl (fun K hK => ?_) ?_
            ·
              apply step_wp
              · rfl
              refine ow_call _ _ _ (by kernel_rfl) (hC2.out _) ?_
              rintro e W13 ⟨rfl, hs13⟩
              refine ⟨_, rfl, ?_⟩
              have hk13 : Keep [] w2 W13 := hk6.trans hs13
              replace hb := hb.keep hs13 (by simp)
              replace hp0 := hp0.keep hs13 (by simp)
              clear hs13
              apply hK
              clear hK K
              go_simp
              refine wpAny_ready (rs := [14]) (by kernel_rfl) (by simp) ?_
              refine AllReady.cons rfl (fun K hK => ?_) ?_
              ·
                apply step_wp
                · rfl
                refine ow_store _ _ _ rfl B F rfl rfl _ _ hb (blkSz _ hF0.out) (by rw [hF0.out]; exact hD.out) hF1.out ?_
                intro WF hbF hsF
                have hkF : Keep [B] w2 WF := hk13.more0.trans hsF
                clear hsF
                apply hK
                clear hK K
                go_simp
                refine wpAny_done (by kernel_rfl) ?_ _
                exact hR.out _ _ ⟨rfl, rfl, by repeat (first | exact trivial | refine ⟨rfl, ?_⟩)⟩ hbF hkF
              exact AllReady.nil
            exact AllReady.nil
          exact AllReady.nil
        exact AllReady.nil
      exact AllReady.nil
    refine AllReady.cons rfl (fun K hK => ?_) ?_
    ·
      apply step_wp
      · rfl
      refine ow_load _ _ rfl B rfl 16 5 Try.underlying29 _ D hb (blkSz _ hD.out) ?_
      apply hK
      clear hK K
      go_simp
      refine wpAny_ready (rs := [3]) (by kernel_rfl) (by simp) ?_
      refine AllReady.cons rfl (fun K hK => ?_) ?_
      ·
        apply step_wp
        · rfl
        refine ow_load1 _ _ rfl ⟨P, 0, none⟩ rfl (.pointer (some ⟨g, 0, none⟩)) (hLP _ hp0) ?_
        apply hK
        clear hK K
        go_simp
        refine wpAny_ready (rs := [5]) (by kernel_rfl) (by simp) ?_
        refine AllReady.cons rfl (fun K hK => ?_) ?_
        ·
          apply step_wp
          · rfl
          refine ow_call _ _ _ (by kernel_rfl) (hC0.out _ (hA.out _ hk0)) ?_
          rintro e W5 ⟨rfl, hs5⟩
          refine ⟨_, rfl, ?_⟩
          have hk5 : Keep [] w2 W5 := hk0.trans hs5
          replace hb := hb.keep hs5 (by simp)
          replace hp0 := hp0.keep hs5 (by simp)
          clear hs5
          apply hK
          clear hK K
          go_simp
          refine wpAny_ready (rs := [6]) (by kernel_rfl) (by simp) ?_
          refine AllReady.cons rfl (fun K hK => ?_) ?_
          ·
            apply step_wp
            · rfl
            refine ow_call _ _ _ (by kernel_rfl) (hC1.out _) ?_
            rintro e W6 ⟨rfl, hs6⟩
            refine ⟨_, rfl, ?_⟩
            have hk6 : Keep [] w2 W6 := hk5.trans hs6
            replace hb := hb.keep hs6 (by simp)
            replace hp0 := hp0.keep hs6 (by simp)
            clear hs6
            apply hK
            clear hK K
            go_simp
            refine wpAny_ready (rs := [13]) (by kernel_rfl) (by simp) ?_
            refine AllReady.cons rfl (fun K hK => ?_) ?_
            ·
              apply step_wp
              · rfl
              refine ow_call _ _ _ (by kernel_rfl) (hC2.out _) ?_
              rintro e W13 ⟨rfl, hs13⟩
              refine ⟨_, rfl, ?_⟩
              have hk13 : Keep [] w2 W13 := hk6.trans hs13
              replace hb := hb.keep hs13 (by simp)
              replace hp0 := hp0.keep hs13 (by simp)
              clear hs13
              apply hK
              clear hK K
              go_simp
              refine wpAny_ready (rs := [14]) (by kernel_rfl) (by simp) ?_
              refine AllReady.cons rfl (fun K hK => ?_) ?_
              ·
                apply step_wp
                · rfl
                refine ow_store _ _ _ rfl B F rfl rfl _ _ hb (blkSz _ hF0.out) (by rw [hF0.out]; exact hD.out) hF1.out ?_
                intro WF hbF hsF
                have hkF : Keep [B] w2 WF := hk13.more0.trans hsF
                clear hsF
                apply hK
                clear hK K
                go_simp
                refine wpAny_done (by kernel_rfl) ?_ _
                exact hR.out _ _ ⟨rfl, rfl, by repeat (first | exact trivial | refine ⟨rfl, ?_⟩)⟩ hbF hkF
              exact AllReady.nil
            exact AllReady.nil
          exact AllReady.nil
        exact AllReady.nil
      exact AllReady.nil
    exact AllReady.nil
  exact AllReady.nil

noncomputable def hturn8 : Code := regionOf Try.f15 8
set_option maxRecDepth 100000 in
set_option maxHeartbeats 8000000 in
theorem turn_reg8 (R : Act → World → Prop) (a : Act) (w2 : World) (P B C : Nat) (D F E : Array Value) (pre l post : List Value) (hD : Hid (D.size = 16)) (hF0 : Hid (F.size = 16)) (hF1 : Hid (F.all (·.oneCell') = true)) (hE : Hid (l.toArray = E)) (hl : Hid (l.length = 16))
    (hBB : Hid (Blk w2 B 29 D)) (hBP : Hid (Blk w2 P 62 (pre ++ (l ++ post)).toArray)) (g n : Nat) (D1 : Array Value) (hpr : Hid (pre.length = 161)) (hA : Hid (∀ W, Keep [] w2 W → AT W g n))
    (hLP : ∀ W, Blk W P 62 (pre ++ (l ++ post)).toArray → (loadVar 23 ⟨P, 0, none⟩).run Try.prog W = .ok (.pointer (some ⟨g, 0, none⟩)) W)
    (hC0 : Hid (∀ W, AT W g n → Calls Try.prog 24 #[.pointer (some ⟨g, 0, none⟩), .agg D] W fun e w' => e = .returned (.agg D1) ∧ Keep [] W w'))
    (hC2 : Hid (∀ W, Calls Try.prog 22 #[.agg D1, .agg E] W fun e w' => e = .returned (.agg F) ∧ Keep [] W w'))
    (hF : Fr 61 [(0, .pointer (some ⟨P, 0, none⟩)), (3, .pointer (some ⟨B, 0, none⟩)), (4, .pointer (some ⟨C, 0, none⟩))] a)
    (hR : Hid (∀ a' w', Fr 61 [(0, .pointer (some ⟨P, 0, none⟩)), (3, .pointer (some ⟨B, 0, none⟩)), (4, .pointer (some ⟨C, 0, none⟩))] a' → Blk w' B 29 F → Keep [B] w2 w' → R a' w')) :
    Code.wp Try.prog hturn8 (OutN R) a w2 := by
  obtain ⟨f, ⟨f0, f3, f4, -⟩, rfl⟩ := hF.open61
  simp only [f0, f3, f4]
  clear f0 f3 f4 hF
  conv => arg 2; whnf
  refine wp_region_any (by kernel_rfl) ?_
  change wpAny _ _ _ _ _ _ _ (World.drew _)
  obtain ⟨W0, hW0⟩ : ∃ W0, W0 = w2.drew := ⟨_, rfl⟩
  rw [← hW0]
  have hk0 : Keep [] w2 W0 := by rw [hW0]; exact (Keep.refl [] w2).drew
  have hb : Blk W0 B 29 D := by rw [hW0]; exact hBB.out.drew
  have hp0 : Blk W0 P 62 (pre ++ (l ++ post)).toArray := by rw [hW0]; exact hBP.out.drew
  clear hW0
  go_simp
  refine wpAny_take (i := 0) (v := ?_) rfl (by kernel_rfl) (by kernel_rfl) (by kernel_rfl) (fun _ _ _ h => h) (Or.inl ⟨by rfl, ?_⟩) ?_
  rotate_left
  · intro y; go_simp; try (with_reducible rfl)
  rotate_left
  go_simp
  refine wpAny_take (i := 1) (v := ?_) rfl (by kernel_rfl) (by kernel_rfl) (by kernel_rfl) (fun _ _ _ h => h) (Or.inl ⟨by rfl, ?_⟩) ?_
  rotate_left
  · intro y; go_simp; try (with_reducible rfl)
  rotate_left
  go_simp
  refine wpAny_take (i := 2) (v := ?_) rfl (by kernel_rfl) (by kernel_rfl) (by kernel_rfl) (fun _ _ _ h => h) (Or.inl ⟨by rfl, ?_⟩) ?_
  rotate_left
  · intro y; go_simp; try (with_reducible rfl)
  rotate_left
  go_simp
  refine wpAny_take (i := 6) (v := ?_) rfl (by kernel_rfl) (by kernel_rfl) (by kernel_rfl) (fun _ _ _ h => h) (Or.inl ⟨by rfl, ?_⟩) ?_
  rotate_left
  · intro y; go_simp; try (with_reducible rfl)
  rotate_left
  go_simp
  refine wpAny_take (i := 7) (v := ?_) rfl (by kernel_rfl) (by kernel_rfl) (by kernel_rfl) (fun _ _ _ h => h) (Or.inl ⟨by rfl, ?_⟩) ?_
  rotate_left
  · intro y; go_simp; try (with_reducible rfl)
  rotate_left
  go_simp
  refine wpAny_take (i := 8) (v := ?_) rfl (by kernel_rfl) (by kernel_rfl) (by kernel_rfl) (fun _ _ _ h => h) (Or.inl ⟨by rfl, ?_⟩) ?_
  rotate_left
  · intro y; go_simp; try (with_reducible rfl)
  rotate_left
  go_simp
  refine wpAny_take (i := 9) (v := ?_) rfl (by kernel_rfl) (by kernel_rfl) (by kernel_rfl) (fun _ _ _ h => h) (Or.inl ⟨by rfl, ?_⟩) ?_
  rotate_left
  · intro y; go_simp; try (with_reducible rfl)
  rotate_left
  go_simp
  refine wpAny_ready (rs := [3, 4, 10]) (by kernel_rfl) (by simp) ?_
  refine AllReady.cons rfl (fun K hK => ?_) ?_
  ·
    apply step_wp
    · rfl
    refine ow_load1 _ _ rfl ⟨P, 0, none⟩ rfl (.pointer (some ⟨g, 0, none⟩)) (hLP _ hp0) ?_
    apply hK
    clear hK K
    go_simp
    refine wpAny_ready (rs := [4, 10]) (by kernel_rfl) (by simp) ?_
    refine AllReady.cons rfl (fun K hK => ?_) ?_
    ·
      apply step_wp
      · rfl
      refine ow_load _ _ rfl B rfl 16 5 Try.underlying29 _ D hb (blkSz _ hD.out) ?_
      apply hK
      clear hK K
      go_simp
      refine wpAny_ready (rs := [5, 10]) (by kernel_rfl) (by simp) ?_
      refine AllReady.cons rfl (fun K hK => ?_) ?_
      ·
        apply step_wp
        · rfl
        refine ow_call _ _ _ (by kernel_rfl) (hC0.out _ (hA.out _ hk0)) ?_
        rintro e W5 ⟨rfl, hs5⟩
        refine ⟨_, rfl, ?_⟩
        have hk5 : Keep [] w2 W5 := hk0.trans hs5
        replace hb := hb.keep hs5 (by simp)
        replace hp0 := hp0.keep hs5 (by simp)
        clear hs5
        apply hK
        clear hK K
        go_simp
        refine wpAny_ready (rs := [10]) (by kernel_rfl) (by simp) ?_
        refine AllReady.cons rfl (fun K hK => ?_) ?_
        ·
          apply step_wp
          · rfl
          refine ow_load_mid _ _ rfl P pre l post _ ?_ rfl 16 5 Try.underlying29 (blkSzL _ hl.out) _ hp0 ?_
          · rw [hpr.out]; try omega
          rw [hE.out]
          apply hK
          clear hK K
          go_simp
          refine wpAny_ready (rs := [11]) (by kernel_rfl) (by simp) ?_
          refine AllReady.cons rfl (fun K hK => ?_) ?_
          ·
            apply step_wp
            · rfl
            refine ow_call _ _ _ (by kernel_rfl) (hC2.out _) ?_
            rintro e W11 ⟨rfl, hs11⟩
            refine ⟨_, rfl, ?_⟩
            have hk11 : Keep [] w2 W11 := hk5.trans hs11
            replace hb := hb.keep hs11 (by simp)
            replace hp0 := hp0.keep hs11 (by simp)
            clear hs11
            apply hK
            clear hK K
            go_simp
            refine wpAny_ready (rs := [12]) (by kernel_rfl) (by simp) ?_
            refine AllReady.cons rfl (fun K hK => ?_) ?_
            ·
              apply step_wp
              · rfl
              refine ow_store _ _ _ rfl B F rfl rfl _ _ hb (blkSz _ hF0.out) (by rw [hF0.out]; exact hD.out) hF1.out ?_
              intro WF hbF hsF
              have hkF : Keep [B] w2 WF := hk11.more0.trans hsF
              clear hsF
              apply hK
              clear hK K
              go_simp
              refine wpAny_done (by kernel_rfl) ?_ _
              exact hR.out _ _ ⟨rfl, rfl, by repeat (first | exact trivial | refine ⟨rfl, ?_⟩)⟩ hbF hkF
            exact AllReady.nil
          exact AllReady.nil
        exact AllReady.nil
      refine AllReady.cons rfl (fun K hK => ?_) ?_
      ·
        apply step_wp
        · rfl
        refine ow_load_mid _ _ rfl P pre l post _ ?_ rfl 16 5 Try.underlying29 (blkSzL _ hl.out) _ hp0 ?_
        · rw [hpr.out]; try omega
        rw [hE.out]
        apply hK
        clear hK K
        go_simp
        refine wpAny_ready (rs := [5]) (by kernel_rfl) (by simp) ?_
        refine AllReady.cons rfl (fun K hK => ?_) ?_
        ·
          apply step_wp
          · rfl
          refine ow_call _ _ _ (by kernel_rfl) (hC0.out _ (hA.out _ hk0)) ?_
          rintro e W5 ⟨rfl, hs5⟩
          refine ⟨_, rfl, ?_⟩
          have hk5 : Keep [] w2 W5 := hk0.trans hs5
          replace hb := hb.keep hs5 (by simp)
          replace hp0 := hp0.keep hs5 (by simp)
          clear hs5
          apply hK
          clear hK K
          go_simp
          refine wpAny_ready (rs := [11]) (by kernel_rfl) (by simp) ?_
          refine AllReady.cons rfl (fun K hK => ?_) ?_
          ·
            apply step_wp
            · rfl
            refine ow_call _ _ _ (by kernel_rfl) (hC2.out _) ?_
            rintro e W11 ⟨rfl, hs11⟩
            refine ⟨_, rfl, ?_⟩
            have hk11 : Keep [] w2 W11 := hk5.trans hs11
            replace hb := hb.keep hs11 (by simp)
            replace hp0 := hp0.keep hs11 (by simp)
            clear hs11
            apply hK
            clear hK K
            go_simp
            refine wpAny_ready (rs := [12]) (by kernel_rfl) (by simp) ?_
            refine AllReady.cons rfl (fun K hK => ?_) ?_
            ·
              apply step_wp
              · rfl
              refine ow_store _ _ _ rfl B F rfl rfl _ _ hb (blkSz _ hF0.out) (by rw [hF0.out]; exact hD.out) hF1.out ?_
              intro WF hbF hsF
              have hkF : Keep [B] w2 WF := hk11.more0.trans hsF
              clear hsF
              apply hK
              clear hK K
              go_simp
              refine wpAny_done (by kernel_rfl) ?_ _
              exact hR.out _ _ ⟨rfl, rfl, by repeat (first | exact trivial | refine ⟨rfl, ?_⟩)⟩ hbF hkF
            exact AllReady.nil
          exact AllReady.nil
        exact AllReady.nil
      exact AllReady.nil
    refine AllReady.cons rfl (fun K hK => ?_) ?_
    ·
      apply step_wp
      · rfl
      refine ow_load_mid _ _ rfl P pre l post _ ?_ rfl 16 5 Try.underlying29 (blkSzL _ hl.out) _ hp0 ?_
      · rw [hpr.out]; try omega
      rw [hE.out]
      apply hK
      clear hK K
      go_simp
      refine wpAny_ready (rs := [4]) (by kernel_rfl) (by simp) ?_
      refine AllReady.cons rfl (fun K hK => ?_) ?_
      ·
        apply step_wp
        · rfl
        refine ow_load _ _ rfl B rfl 16 5 Try.underlying29 _ D hb (blkSz _ hD.out) ?_
        apply hK
        clear hK K
        go_simp
        refine wpAny_ready (rs := [5]) (by kernel_rfl) (by simp) ?_
        refine AllReady.cons rfl (fun K hK => ?_) ?_
        ·
          apply step_wp
          · rfl
          refine ow_call _ _ _ (by kernel_rfl) (hC0.out _ (hA.out _ hk0)) ?_
          rintro e W5 ⟨rfl, hs5⟩
          refine ⟨_, rfl, ?_⟩
          have hk5 : Keep [] w2 W5 := hk0.trans hs5
          replace hb := hb.keep hs5 (by simp)
          replace hp0 := hp0.keep hs5 (by simp)
          clear hs5
          apply hK
          clear hK K
          go_simp
          refine wpAny_ready (rs := [11]) (by kernel_rfl) (by simp) ?_
          refine AllReady.cons rfl (fun K hK => ?_) ?_
          ·
            apply step_wp
            · rfl
            refine ow_call _ _ _ (by kernel_rfl) (hC2.out _) ?_
            rintro e W11 ⟨rfl, hs11⟩
            refine ⟨_, rfl, ?_⟩
            have hk11 : Keep [] w2 W11 := hk5.trans hs11
            replace hb := hb.keep hs11 (by simp)
            replace hp0 := hp0.keep hs11 (by simp)
            clear hs11
            apply hK
            clear hK K
            go_simp
            refine wpAny_ready (rs := [12]) (by kernel_rfl) (by simp) ?_
            refine AllReady.cons rfl (fun K hK => ?_) ?_
            ·
              apply step_wp
              · rfl
              refine ow_store _ _ _ rfl B F rfl rfl _ _ hb (blkSz _ hF0.out) (by rw [hF0.out]; exact hD.out) hF1.out ?_
              intro WF hbF hsF
              have hkF : Keep [B] w2 WF := hk11.more0.trans hsF
              clear hsF
              apply hK
              clear hK K
              go_simp
              refine wpAny_done (by kernel_rfl) ?_ _
              exact hR.out _ _ ⟨rfl, rfl, by repeat (first | exact trivial | refine ⟨rfl, ?_⟩)⟩ hbF hkF
            exact AllReady.nil
          exact AllReady.nil
        exact AllReady.nil
      exact AllReady.nil
    exact AllReady.nil
  refine AllReady.cons rfl (fun K hK => ?_) ?_
  ·
    apply step_wp
    · rfl
    refine ow_load _ _ rfl B rfl 16 5 Try.underlying29 _ D hb (blkSz _ hD.out) ?_
    apply hK
    clear hK K
    go_simp
    refine wpAny_ready (rs := [3, 10]) (by kernel_rfl) (by simp) ?_
    refine AllReady.cons rfl (fun K hK => ?_) ?_
    ·
      apply step_wp
      · rfl
      refine ow_load1 _ _ rfl ⟨P, 0, none⟩ rfl (.pointer (some ⟨g, 0, none⟩)) (hLP _ hp0) ?_
      apply hK
      clear hK K
      go_simp
      refine wpAny_ready (rs := [5, 10]) (by kernel_rfl) (by simp) ?_
      refine AllReady.cons rfl (fun K hK => ?_) ?_
      ·
        apply step_wp
        · rfl
        refine ow_call _ _ _ (by kernel_rfl) (hC0.out _ (hA.out _ hk0)) ?_
        rintro e W5 ⟨rfl, hs5⟩
        refine ⟨_, rfl, ?_⟩
        have hk5 : Keep [] w2 W5 := hk0.trans hs5
        replace hb := hb.keep hs5 (by simp)
        replace hp0 := hp0.keep hs5 (by simp)
        clear hs5
        apply hK
        clear hK K
        go_simp
        refine wpAny_ready (rs := [10]) (by kernel_rfl) (by simp) ?_
        refine AllReady.cons rfl (fun K hK => ?_) ?_
        ·
          apply step_wp
          · rfl
          refine ow_load_mid _ _ rfl P pre l post _ ?_ rfl 16 5 Try.underlying29 (blkSzL _ hl.out) _ hp0 ?_
          · rw [hpr.out]; try omega
          rw [hE.out]
          apply hK
          clear hK K
          go_simp
          refine wpAny_ready (rs := [11]) (by kernel_rfl) (by simp) ?_
          refine AllReady.cons rfl (fun K hK => ?_) ?_
          ·
            apply step_wp
            · rfl
            refine ow_call _ _ _ (by kernel_rfl) (hC2.out _) ?_
            rintro e W11 ⟨rfl, hs11⟩
            refine ⟨_, rfl, ?_⟩
            have hk11 : Keep [] w2 W11 := hk5.trans hs11
            replace hb := hb.keep hs11 (by simp)
            replace hp0 := hp0.keep hs11 (by simp)
            clear hs11
            apply hK
            clear hK K
            go_simp
            refine wpAny_ready (rs := [12]) (by kernel_rfl) (by simp) ?_
            refine AllReady.cons rfl (fun K hK => ?_) ?_
            ·
              apply step_wp
              · rfl
              refine ow_store _ _ _ rfl B F rfl rfl _ _ hb (blkSz _ hF0.out) (by rw [hF0.out]; exact hD.out) hF1.out ?_
              intro WF hbF hsF
              have hkF : Keep [B] w2 WF := hk11.more0.trans hsF
              clear hsF
              apply hK
              clear hK K
              go_simp
              refine wpAny_done (by kernel_rfl) ?_ _
              exact hR.out _ _ ⟨rfl, rfl, by repeat (first | exact trivial | refine ⟨rfl, ?_⟩)⟩ hbF hkF
            exact AllReady.nil
          exact AllReady.nil
        exact AllReady.nil
      refine AllReady.cons rfl (fun K hK => ?_) ?_
      ·
        apply step_wp
        · rfl
        refine ow_load_mid _ _ rfl P pre l post _ ?_ rfl 16 5 Try.underlying29 (blkSzL _ hl.out) _ hp0 ?_
        · rw [hpr.out]; try omega
        rw [hE.out]
        apply hK
        clear hK K
        go_simp
        refine wpAny_ready (rs := [5]) (by kernel_rfl) (by simp) ?_
        refine AllReady.cons rfl (fun K hK => ?_) ?_
        ·
          apply step_wp
          · rfl
          refine ow_call _ _ _ (by kernel_rfl) (hC0.out _ (hA.out _ hk0)) ?_
          rintro e W5 ⟨rfl, hs5⟩
          refine ⟨_, rfl, ?_⟩
          have hk5 : Keep [] w2 W5 := hk0.trans hs5
          replace hb := hb.keep hs5 (by simp)
          replace hp0 := hp0.keep hs5 (by simp)
          clear hs5
          apply hK
          clear hK K
          go_simp
          refine wpAny_ready (rs := [11]) (by kernel_rfl) (by simp) ?_
          refine AllReady.cons rfl (fun K hK => ?_) ?_
          ·
            apply step_wp
            · rfl
            refine ow_call _ _ _ (by kernel_rfl) (hC2.out _) ?_
            rintro e W11 ⟨rfl, hs11⟩
            refine ⟨_, rfl, ?_⟩
            have hk11 : Keep [] w2 W11 := hk5.trans hs11
            replace hb := hb.keep hs11 (by simp)
            replace hp0 := hp0.keep hs11 (by simp)
            clear hs11
            apply hK
            clear hK K
            go_simp
            refine wpAny_ready (rs := [12]) (by kernel_rfl) (by simp) ?_
            refine AllReady.cons rfl (fun K hK => ?_) ?_
            ·
              apply step_wp
              · rfl
              refine ow_store _ _ _ rfl B F rfl rfl _ _ hb (blkSz _ hF0.out) (by rw [hF0.out]; exact hD.out) hF1.out ?_
              intro WF hbF hsF
              have hkF : Keep [B] w2 WF := hk11.more0.trans hsF
              clear hsF
              apply hK
              clear hK K
              go_simp
              refine wpAny_done (by kernel_rfl) ?_ _
              exact hR.out _ _ ⟨rfl, rfl, by repeat (first | exact trivial | refine ⟨rfl, ?_⟩)⟩ hbF hkF
            exact AllReady.nil
          exact AllReady.nil
        exact AllReady.nil
      exact AllReady.nil
    refine AllReady.cons rfl (fun K hK => ?_) ?_
    ·
      apply step_wp
      · rfl
      refine ow_load_mid _ _ rfl P pre l post _ ?_ rfl 16 5 Try.underlying29 (blkSzL _ hl.out) _ hp0 ?_
      · rw [hpr.out]; try omega
      rw [hE.out]
      apply hK
      clear hK K
      go_simp
      refine wpAny_ready (rs := [3]) (by kernel_rfl) (by simp) ?_
      refine AllReady.cons rfl (fun K hK => ?_) ?_
      ·
        apply step_wp
        · rfl
        refine ow_load1 _ _ rfl ⟨P, 0, none⟩ rfl (.pointer (some ⟨g, 0, none⟩)) (hLP _ hp0) ?_
        apply hK
        clear hK K
        go_simp
        refine wpAny_ready (rs := [5]) (by kernel_rfl) (by simp) ?_
        refine AllReady.cons rfl (fun K hK => ?_) ?_
        ·
          apply step_wp
          · rfl
          refine ow_call _ _ _ (by kernel_rfl) (hC0.out _ (hA.out _ hk0)) ?_
          rintro e W5 ⟨rfl, hs5⟩
          refine ⟨_, rfl, ?_⟩
          have hk5 : Keep [] w2 W5 := hk0.trans hs5
          replace hb := hb.keep hs5 (by simp)
          replace hp0 := hp0.keep hs5 (by simp)
          clear hs5
          apply hK
          clear hK K
          go_simp
          refine wpAny_ready (rs := [11]) (by kernel_rfl) (by simp) ?_
          refine AllReady.cons rfl (fun K hK => ?_) ?_
          ·
            apply step_wp
            · rfl
            refine ow_call _ _ _ (by kernel_rfl) (hC2.out _) ?_
            rintro e W11 ⟨rfl, hs11⟩
            refine ⟨_, rfl, ?_⟩
            have hk11 : Keep [] w2 W11 := hk5.trans hs11
            replace hb := hb.keep hs11 (by simp)
            replace hp0 := hp0.keep hs11 (by simp)
            clear hs11
            apply hK
            clear hK K
            go_simp
            refine wpAny_ready (rs := [12]) (by kernel_rfl) (by simp) ?_
            refine AllReady.cons rfl (fun K hK => ?_) ?_
            ·
              apply step_wp
              · rfl
              refine ow_store _ _ _ rfl B F rfl rfl _ _ hb (blkSz _ hF0.out) (by rw [hF0.out]; exact hD.out) hF1.out ?_
              intro WF hbF hsF
              have hkF : Keep [B] w2 WF := hk11.more0.trans hsF
              clear hsF
              apply hK
              clear hK K
              go_simp
              refine wpAny_done (by kernel_rfl) ?_ _
              exact hR.out _ _ ⟨rfl, rfl, by repeat (first | exact trivial | refine ⟨rfl, ?_⟩)⟩ hbF hkF
            exact AllReady.nil
          exact AllReady.nil
        exact AllReady.nil
      exact AllReady.nil
    exact AllReady.nil
  refine AllReady.cons rfl (fun K hK => ?_) ?_
  ·
    apply step_wp
    · rfl
    refine ow_load_mid _ _ rfl P pre l post _ ?_ rfl 16 5 Try.underlying29 (blkSzL _ hl.out) _ hp0 ?_
    · rw [hpr.out]; try omega
    rw [hE.out]
    apply hK
    clear hK K
    go_simp
    refine wpAny_ready (rs := [3, 4]) (by kernel_rfl) (by simp) ?_
    refine AllReady.cons rfl (fun K hK => ?_) ?_
    ·
      apply step_wp
      · rfl
      refine ow_load1 _ _ rfl ⟨P, 0, none⟩ rfl (.pointer (some ⟨g, 0, none⟩)) (hLP _ hp0) ?_
      apply hK
      clear hK K
      go_simp
      refine wpAny_ready (rs := [4]) (by kernel_rfl) (by simp) ?_
      refine AllReady.cons rfl (fun K hK => ?_) ?_
      ·
        apply step_wp
        · rfl
        refine ow_load _ _ rfl B rfl 16 5 Try.underlying29 _ D hb (blkSz _ hD.out) ?_
        apply hK
        clear hK K
        go_simp
        refine wpAny_ready (rs := [5]) (by kernel_rfl) (by simp) ?_
        refine AllReady.cons rfl (fun K hK => ?_) ?_
        ·
          apply step_wp
          · rfl
          refine ow_call _ _ _ (by kernel_rfl) (hC0.out _ (hA.out _ hk0)) ?_
          rintro e W5 ⟨rfl, hs5⟩
          refine ⟨_, rfl, ?_⟩
          have hk5 : Keep [] w2 W5 := hk0.trans hs5
          replace hb := hb.keep hs5 (by simp)
          replace hp0 := hp0.keep hs5 (by simp)
          clear hs5
          apply hK
          clear hK K
          go_simp
          refine wpAny_ready (rs := [11]) (by kernel_rfl) (by simp) ?_
          refine AllReady.cons rfl (fun K hK => ?_) ?_
          ·
            apply step_wp
            · rfl
            refine ow_call _ _ _ (by kernel_rfl) (hC2.out _) ?_
            rintro e W11 ⟨rfl, hs11⟩
            refine ⟨_, rfl, ?_⟩
            have hk11 : Keep [] w2 W11 := hk5.trans hs11
            replace hb := hb.keep hs11 (by simp)
            replace hp0 := hp0.keep hs11 (by simp)
            clear hs11
            apply hK
            clear hK K
            go_simp
            refine wpAny_ready (rs := [12]) (by kernel_rfl) (by simp) ?_
            refine AllReady.cons rfl (fun K hK => ?_) ?_
            ·
              apply step_wp
              · rfl
              refine ow_store _ _ _ rfl B F rfl rfl _ _ hb (blkSz _ hF0.out) (by rw [hF0.out]; exact hD.out) hF1.out ?_
              intro WF hbF hsF
              have hkF : Keep [B] w2 WF := hk11.more0.trans hsF
              clear hsF
              apply hK
              clear hK K
              go_simp
              refine wpAny_done (by kernel_rfl) ?_ _
              exact hR.out _ _ ⟨rfl, rfl, by repeat (first | exact trivial | refine ⟨rfl, ?_⟩)⟩ hbF hkF
            exact AllReady.nil
          exact AllReady.nil
        exact AllReady.nil
      exact AllReady.nil
    refine AllReady.cons rfl (fun K hK => ?_) ?_
    ·
      apply step_wp
      · rfl
      refine ow_load _ _ rfl B rfl 16 5 Try.underlying29 _ D hb (blkSz _ hD.out) ?_
      apply hK
      clear hK K
      go_simp
      refine wpAny_ready (rs := [3]) (by kernel_rfl) (by simp) ?_
      refine AllReady.cons rfl (fun K hK => ?_) ?_
      ·
        apply step_wp
        · rfl
        refine ow_load1 _ _ rfl ⟨P, 0, none⟩ rfl (.pointer (some ⟨g, 0, none⟩)) (hLP _ hp0) ?_
        apply hK
        clear hK K
        go_simp
        refine wpAny_ready (rs := [5]) (by kernel_rfl) (by simp) ?_
        refine AllReady.cons rfl (fun K hK => ?_) ?_
        ·
          apply step_wp
          · rfl
          refine ow_call _ _ _ (by kernel_rfl) (hC0.out _ (hA.out _ hk0)) ?_
          rintro e W5 ⟨rfl, hs5⟩
          refine ⟨_, rfl, ?_⟩
          have hk5 : Keep [] w2 W5 := hk0.trans hs5
          replace hb := hb.keep hs5 (by simp)
          replace hp0 := hp0.keep hs5 (by simp)
          clear hs5
          apply hK
          clear hK K
          go_simp
          refine wpAny_ready (rs := [11]) (by kernel_rfl) (by simp) ?_
          refine AllReady.cons rfl (fun K hK => ?_) ?_
          ·
            apply step_wp
            · rfl
            refine ow_call _ _ _ (by kernel_rfl) (hC2.out _) ?_
            rintro e W11 ⟨rfl, hs11⟩
            refine ⟨_, rfl, ?_⟩
            have hk11 : Keep [] w2 W11 := hk5.trans hs11
            replace hb := hb.keep hs11 (by simp)
            replace hp0 := hp0.keep hs11 (by simp)
            clear hs11
            apply hK
            clear hK K
            go_simp
            refine wpAny_ready (rs := [12]) (by kernel_rfl) (by simp) ?_
            refine AllReady.cons rfl (fun K hK => ?_) ?_
            ·
              apply step_wp
              · rfl
              refine ow_store _ _ _ rfl B F rfl rfl _ _ hb (blkSz _ hF0.out) (by rw [hF0.out]; exact hD.out) hF1.out ?_
              intro WF hbF hsF
              have hkF : Keep [B] w2 WF := hk11.more0.trans hsF
              clear hsF
              apply hK
              clear hK K
              go_simp
              refine wpAny_done (by kernel_rfl) ?_ _
              exact hR.out _ _ ⟨rfl, rfl, by repeat (first | exact trivial | refine ⟨rfl, ?_⟩)⟩ hbF hkF
            exact AllReady.nil
          exact AllReady.nil
        exact AllReady.nil
      exact AllReady.nil
    exact AllReady.nil
  exact AllReady.nil

end Go.Proofs.Ytpjkicbfdknjcaa
