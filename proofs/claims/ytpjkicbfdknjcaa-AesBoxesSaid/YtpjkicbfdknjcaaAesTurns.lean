/-
  AesTurns, over what aes' functions keep.
-/
import Derived.Test.YtpjkicbfdknjcaaAesW3
namespace Go.Proofs.Ytpjkicbfdknjcaa
open Go.RowKit

noncomputable def hturns5 : Code := regionOf Try.f4 5
set_option maxRecDepth 100000 in
set_option maxHeartbeats 8000000 in
theorem turns_reg5 (R : Act → World → Prop) (a : Act) (w7 : World) (K B m : Nat) (v5 : Value) (kl bl : List Int) (DK DB DT : Array Value) (hkl : B16 kl) (hbl : B16 bl) (hDK : Hid (DK = (kl.map (Value.int .u8)).toArray)) (hDB : Hid (DB = (bl.map (Value.int .u8)).toArray)) (hDT : Hid (DT = ((Aes.turn kl bl).map (Value.int .u8)).toArray))
    (hBK : Hid (Blk w7 K 29 DK)) (hBB : Hid (Blk w7 B 29 DB)) (hBM : Hid (Blk w7 m 29 DT)) (h5 : Hid (Sl .u8 w7 v5 (boxL 256)))
    (hF : Fr 23 [(2, .pointer (some ⟨K, 0, none⟩)), (3, .pointer (some ⟨B, 0, none⟩)), (5, v5), (6, .pointer (some ⟨m, 0, none⟩))] a) (hR : Hid (∀ a' w', Fr 23 [(4, .bool true)] a' → Keep [] w7 w' → R a' w')) :
    Code.wp Try.prog hturns5 (OutN R) a w7 := by
  obtain ⟨s1, hs1⟩ : ∃ s1, s1 = bstr (Aes.turn kl bl) := ⟨_, rfl⟩
  have CV : ∀ W v l, Sl .u8 W v l → (convert 30 9 v).run Try.prog W = .ok (.string (bstr l)) W := fun W v l h => run_bytes_str h Try.underlying30 Try.underlying5 Try.underlying9
  have hTW := turn_b16 hkl hbl
  have C1 : ∀ W, Keep [] w7 W → (convert 30 9 (.slice (some ⟨m, 0, none⟩) 16 16)).run Try.prog W = .ok (.string s1) W := by
    intro W hk
    have hb := hBM.out.keep hk (by simp)
    rw [hDT.out] at hb
    rw [hs1]
    exact CV W _ _ (Sl.of_blk hb hTW.1 (by decide) hTW.2)
  have RT : ∀ W, Keep [] w7 W → Calls Try.prog 16 #[v5, .slice (some ⟨K, 0, none⟩) 16 16, .slice (some ⟨B, 0, none⟩) 16 16] W fun e w' => ∃ v', e = .returned v' ∧ (convert 30 9 v').run Try.prog w' = .ok (.string s1) w' ∧ Keep [] w7 w' := by
    intro W hk
    have h1 := hBK.out.keep hk (by simp)
    have h2 := hBB.out.keep hk (by simp)
    rw [hDK.out] at h1
    rw [hDB.out] at h2
    refine (rturn_any v5 _ _ kl bl W (h5.out.keep0 hk) (Sl.of_blk h1 hkl.1 (by decide) hkl.2) (Sl.of_blk h2 hbl.1 (by decide) hbl.2) hkl.1 hbl.1).mono ?_
    rintro e w' ⟨g, c, rfl, hr, hc1, hc2, hk'⟩
    refine ⟨_, rfl, ?_, hk.trans hk'⟩
    have := hr.sl (c := c) hTW.2 (by rw [hTW.1]; exact hc1) hc2
    rw [hTW.1] at this
    rw [hs1]
    exact CV _ _ _ this
  clear hs1 CV hTW hkl hbl
  obtain ⟨f, ⟨f2, f3, f5, f6, -⟩, rfl⟩ := hF.open23
  simp only [f2, f3, f5, f6]
  clear f2 f3 f5 f6 hF
  conv => arg 2; whnf
  refine wp_region_any (by kernel_rfl) ?_
  change wpAny _ _ _ _ _ _ _ (World.drew _)
  obtain ⟨W0, hW0⟩ : ∃ W0, W0 = w7.drew := ⟨_, rfl⟩
  rw [← hW0]
  have hk0 : Keep [] w7 W0 := by rw [hW0]; exact (Keep.refl [] w7).drew
  clear hW0
  go_simp
  refine wpAny_take (i := 0) (v := ?_) rfl (by kernel_rfl) (by kernel_rfl) (by kernel_rfl) (fun _ _ _ h => h) (Or.inl ⟨by rfl, ?_⟩) ?_
  rotate_left
  · intro y; go_simp; try (with_reducible rfl)
  rotate_left
  go_simp
  refine wpAny_take (i := 2) (v := ?_) rfl (by kernel_rfl) (by kernel_rfl) (by kernel_rfl) (fun _ _ _ h => h) (Or.inl ⟨by rfl, ?_⟩) ?_
  rotate_left
  · intro y; go_simp; try (with_reducible rfl)
  rotate_left
  go_simp
  refine wpAny_take (i := 3) (v := ?_) rfl (by kernel_rfl) (by kernel_rfl) (by kernel_rfl) (fun _ _ _ h => h) (Or.inl ⟨by rfl, ?_⟩) ?_
  rotate_left
  · intro y; go_simp; try (with_reducible rfl)
  rotate_left
  go_simp
  refine wpAny_take (i := 4) (v := ?_) rfl (by kernel_rfl) (by kernel_rfl) (by kernel_rfl) (fun _ _ _ h => h) (Or.inl ⟨by rfl, ?_⟩) ?_
  rotate_left
  · intro y; go_simp; try (with_reducible rfl)
  rotate_left
  go_simp
  refine wpAny_ready (rs := [1, 5]) (by kernel_rfl) (by simp) ?_
  refine AllReady.cons rfl (fun K hK => ?_) ?_
  ·
    apply step_wp
    · rfl
    refine ow_conv _ _ _ rfl _ _ rfl (C1 _ hk0) ?_
    apply hK
    clear hK K
    go_simp
    refine wpAny_ready (rs := [5]) (by kernel_rfl) (by simp) ?_
    refine AllReady.cons rfl (fun K hK => ?_) ?_
    ·
      apply step_wp
      · rfl
      refine ow_call _ _ _ (by kernel_rfl) (RT _ hk0) ?_
      rintro e W5 ⟨v9, rfl, cv, hk5⟩
      refine ⟨_, rfl, ?_⟩
      apply hK
      clear hK K
      go_simp
      refine wpAny_ready (rs := [6]) (by kernel_rfl) (by simp) ?_
      refine AllReady.cons rfl (fun K hK => ?_) ?_
      ·
        apply step_wp
        · rfl
        refine ow_conv _ _ _ rfl _ _ rfl cv ?_
        clear cv
        apply hK
        clear hK K
        go_simp
        refine wpAny_take (i := 7) (v := ?_) rfl (by kernel_rfl) (by kernel_rfl) (by kernel_rfl) (fun _ _ _ h => h) (Or.inl ⟨by rfl, ?_⟩) ?_
        rotate_left
        · intro y; go_simp; try (with_reducible rfl)
        rotate_left
        go_simp
        refine wpAny_take (i := 8) (v := ?_) rfl (by kernel_rfl) (by kernel_rfl) (by kernel_rfl) (fun _ _ _ h => h) (Or.inl ⟨by rfl, ?_⟩) ?_
        rotate_left
        · intro y; go_simp; try (with_reducible rfl)
        rotate_left
        go_simp
        refine wpAny_done (by kernel_rfl) ?_ _
        exact hR.out _ _ ⟨rfl, rfl, rfl, trivial⟩ hk5
      exact AllReady.nil
    exact AllReady.nil
  refine AllReady.cons rfl (fun K hK => ?_) ?_
  ·
    apply step_wp
    · rfl
    refine ow_call _ _ _ (by kernel_rfl) (RT _ hk0) ?_
    rintro e W5 ⟨v9, rfl, cv, hk5⟩
    refine ⟨_, rfl, ?_⟩
    apply hK
    clear hK K
    go_simp
    refine wpAny_ready (rs := [1, 6]) (by kernel_rfl) (by simp) ?_
    refine AllReady.cons rfl (fun K hK => ?_) ?_
    ·
      apply step_wp
      · rfl
      refine ow_conv _ _ _ rfl _ _ rfl (C1 _ hk5) ?_
      apply hK
      clear hK K
      go_simp
      refine wpAny_ready (rs := [6]) (by kernel_rfl) (by simp) ?_
      refine AllReady.cons rfl (fun K hK => ?_) ?_
      ·
        apply step_wp
        · rfl
        refine ow_conv _ _ _ rfl _ _ rfl cv ?_
        clear cv
        apply hK
        clear hK K
        go_simp
        refine wpAny_take (i := 7) (v := ?_) rfl (by kernel_rfl) (by kernel_rfl) (by kernel_rfl) (fun _ _ _ h => h) (Or.inl ⟨by rfl, ?_⟩) ?_
        rotate_left
        · intro y; go_simp; try (with_reducible rfl)
        rotate_left
        go_simp
        refine wpAny_take (i := 8) (v := ?_) rfl (by kernel_rfl) (by kernel_rfl) (by kernel_rfl) (fun _ _ _ h => h) (Or.inl ⟨by rfl, ?_⟩) ?_
        rotate_left
        · intro y; go_simp; try (with_reducible rfl)
        rotate_left
        go_simp
        refine wpAny_done (by kernel_rfl) ?_ _
        exact hR.out _ _ ⟨rfl, rfl, rfl, trivial⟩ hk5
      exact AllReady.nil
    refine AllReady.cons rfl (fun K hK => ?_) ?_
    ·
      apply step_wp
      · rfl
      refine ow_conv _ _ _ rfl _ _ rfl cv ?_
      clear cv
      apply hK
      clear hK K
      go_simp
      refine wpAny_ready (rs := [1]) (by kernel_rfl) (by simp) ?_
      refine AllReady.cons rfl (fun K hK => ?_) ?_
      ·
        apply step_wp
        · rfl
        refine ow_conv _ _ _ rfl _ _ rfl (C1 _ hk5) ?_
        apply hK
        clear hK K
        go_simp
        refine wpAny_take (i := 7) (v := ?_) rfl (by kernel_rfl) (by kernel_rfl) (by kernel_rfl) (fun _ _ _ h => h) (Or.inl ⟨by rfl, ?_⟩) ?_
        rotate_left
        · intro y; go_simp; try (with_reducible rfl)
        rotate_left
        go_simp
        refine wpAny_take (i := 8) (v := ?_) rfl (by kernel_rfl) (by kernel_rfl) (by kernel_rfl) (fun _ _ _ h => h) (Or.inl ⟨by rfl, ?_⟩) ?_
        rotate_left
        · intro y; go_simp; try (with_reducible rfl)
        rotate_left
        go_simp
        refine wpAny_done (by kernel_rfl) ?_ _
        exact hR.out _ _ ⟨rfl, rfl, rfl, trivial⟩ hk5
      exact AllReady.nil
    exact AllReady.nil
  exact AllReady.nil

set_option maxRecDepth 100000 in
set_option maxHeartbeats 8000000 in
theorem aesTurns_any (hN : ANewC) (hK : AKeyC) (hT : ATurnC) (kl bl : List Int) (w : World) (hkl : B16 kl) (hbl : B16 bl) :
    Calls Try.prog 4 #[arr kl, arr bl] w fun e w' => e = .returned (.bool true) ∧ Keep [] w w' := by
  have A := fun w => Lib.hid (awake5_any hN hK hT w)
  have RB := fun w => Lib.hid (rboxes_any w)
  obtain ⟨DK, hDK⟩ : ∃ DK, DK = (kl.map (Value.int .u8)).toArray := ⟨_, rfl⟩
  obtain ⟨DB, hDB⟩ : ∃ DB, DB = (bl.map (Value.int .u8)).toArray := ⟨_, rfl⟩
  obtain ⟨DT, hDT⟩ : ∃ DT, DT = ((Aes.turn kl bl).map (Value.int .u8)).toArray := ⟨_, rfl⟩
  have HDK := Lib.hid hDK
  have HDB := Lib.hid hDB
  have HDT := Lib.hid hDT
  rw [arr_agg, arr_agg, ← hDK, ← hDB]
  clear hDK hDB hDT
  go_enter Try.func4, Try.ntmps4
  go_upto_region 4 with (first
    | (refine wl_box rfl _ _ rfl DK rfl ?_; intro w1 hB1 hk1 hz1; have HB1 := Lib.hid hB1; have HK1 := Lib.hid hk1; clear hB1 hk1 hz1)
    | (have _q := HB1; refine wl_box rfl _ _ rfl DB rfl ?_; intro w2 hB2 hk2 hz2; have HB2 := Lib.hid hB2; have HK2 := Lib.hid hk2; clear hB2 hk2 hz2)
    | (go_at_call 7; with_reducible refine (A w2).out.mono ?_; rintro e w3 ⟨rfl, hk3⟩; have HK3 := Lib.hid hk3; clear hk3)
    | (go_at_call 13; with_reducible refine (RB w3).out.mono ?_; rintro e w4 ⟨v5, rfl, ho4, hk4⟩; have HO4 := Lib.hid ho4; have HK4 := Lib.hid hk4; clear ho4 hk4))
  obtain ⟨K, hK'⟩ : ∃ K, K = w.heap.size := ⟨_, rfl⟩
  obtain ⟨B, hB'⟩ : ∃ B, B = w1.heap.size := ⟨_, rfl⟩
  have HK24 := Lib.hid (HK3.out.trans HK4.out)
  have HBK := Lib.hid (show Blk w4 K 29 DK by rw [hK']; exact (HB1.out.keep HK2.out (by simp)).keep HK24.out (by simp))
  have HBB := Lib.hid (show Blk w4 B 29 DB by rw [hB']; exact HB2.out.keep HK24.out (by simp))
  have HKW := Lib.hid ((HK1.out.trans HK2.out).trans HK24.out)
  rw [← hK', ← hB']
  clear hK' hB' HB1 HB2
  refine OutN.use (turns_reg hN hK hT (fun a' w' => ∃ m, Fr 23 [(2, .pointer (some ⟨K, 0, none⟩)), (3, .pointer (some ⟨B, 0, none⟩)), (5, v5), (6, .pointer (some ⟨m, 0, none⟩))] a' ∧ Blk w' m 29 DT ∧ Keep [] w4 w') _ w4 K B v5 kl bl DK DB DT hkl hbl HDK HDB HDT HBK HBB
    ⟨rfl, rfl, by repeat (first | exact trivial | refine ⟨rfl, ?_⟩)⟩ (Lib.hid fun a' w' m h1 _ h3 h4 => ⟨m, h1, h3, h4⟩)) ?_
  rintro a' w5 ⟨m, hF5, hb5, hk5⟩
  have HB5 := Lib.hid hb5
  have HBK5 := Lib.hid (HBK.out.keep hk5 (by simp))
  have HBB5 := Lib.hid (HBB.out.keep hk5 (by simp))
  have HS5 := Lib.hid ((Sl.of_own HO4.out (boxL_wf 256)).keep0 hk5)
  have HK5 := Lib.hid (HKW.out.trans hk5)
  obtain ⟨f, ⟨f2, f3, f5, f6, -⟩, rfl⟩ := hF5.open23
  simp only [f2, f3, f5, f6]
  clear f2 f3 f5 f6 hF5 hb5 hk5
  go_upto_region 5 with fail
  refine OutN.use (turns_reg5 (fun a' w' => Fr 23 [(4, .bool true)] a' ∧ Keep [] w5 w') _ w5 K B m v5 kl bl DK DB DT hkl hbl HDK HDB HDT HBK5 HBB5 HB5 HS5
    ⟨rfl, rfl, by repeat (first | exact trivial | refine ⟨rfl, ?_⟩)⟩ (Lib.hid fun a' w' h1 h2 => ⟨h1, h2⟩)) ?_
  rintro a' w6 ⟨hF6, hk6⟩
  have HK6 := Lib.hid (HK5.out.trans hk6)
  obtain ⟨f, ⟨f4, -⟩, rfl⟩ := hF6.open23
  simp only [f4]
  clear f4 hF6 hk6
  go_wp2_with fail
  go_ret
  exact ⟨rfl, HK6.out⟩
end Go.Proofs.Ytpjkicbfdknjcaa
