/-
  Gcm's laws: their drawn regions.
-/
import Derived.Test.YtlkjngbelckgkaaGcmS
import Derived.Test.YtlkjngbelckgkaaOpensG
namespace Go.Proofs.Ytlkjngbelckgkaa
open Go.RowKit

noncomputable def gseals5 : Code := regionOf Try.f3 5
set_option maxRecDepth 100000 in
set_option maxHeartbeats 4000000 in
theorem gseals5_wp {GS : World → List Nat → Nat → List Int → Nat → Prop} (hC : GcmC GS) (hN : ANewC) (R : Act → World → Prop) (a : Act) (w2 : World) (KB M : Nat) (ov pv : Value) (kl : List Int) (DK : Array Value) (hkl : B16 kl) (hDK : Hid (DK = (kl.map (Value.int .u8)).toArray)) (hBK : Hid (Blk w2 KB 23 DK))
    (hF : Fr 58 [(2, ov), (3, pv), (4, .pointer (some ⟨KB, 0, none⟩)), (5, .pointer (some ⟨M, 0, none⟩))] a)
    (hR : Hid (∀ a' w' s S n', Fr 58 [(2, ov), (3, pv), (4, .pointer (some ⟨KB, 0, none⟩)), (5, .pointer (some ⟨M, 0, none⟩)), (9, .pointer (some ⟨s, 0, none⟩))] a' → GS w' S s kl n' → n' ≤ 10 → (∀ x ∈ S, w2.heap.size ≤ x) → Keep [] w2 w' → R a' w')) :
    Code.wp Try.prog gseals5 (OutN R) a w2 := by
  have HDK := Lib.hid (show DK.size = 16 by rw [hDK.out]; simp [hkl.1])
  have LK : ∀ W, Keep [] w2 W → Blk W KB 23 DK := fun W h => hBK.out.keep h (by simp)
  have GN : ∀ w g, AF w g 0 → Calls Try.prog 6 #[.pointer (some ⟨g, 0, none⟩), .agg DK] w fun e w' => ∃ s S n', e = .returned (.pointer (some ⟨s, 0, none⟩)) ∧ GS w' S s kl n' ∧ n' ≤ 0 + 10 ∧ (∀ x ∈ S, x = g ∨ w.heap.size ≤ x) ∧ Keep [g] w w' := fun w g h => by
    have := hC.newG w g 0 kl h (by decide) hkl
    rw [arr_agg, ← hDK.out] at this
    exact this
  obtain ⟨f, ⟨f2, f3, f4, f5, -⟩, rfl⟩ := hF.open58
  simp only [f2, f3, f4, f5]
  clear f2 f3 f4 f5 hF
  conv => arg 2; whnf
  refine wp_region_any (by kernel_rfl) ?_
  change wpAny _ _ _ _ _ _ _ (World.drew _)
  obtain ⟨W0, hW0⟩ : ∃ W0, W0 = w2.drew := ⟨_, rfl⟩
  rw [← hW0]
  have hk0 : Keep [] w2 W0 := by rw [hW0]; exact (Keep.refl [] w2).drew
  clear hW0
  go_simp
  refine wpAny_ready (rs := [0, 1]) (by kernel_rfl) (by simp) ?_
  refine AllReady.cons rfl (fun K hK => ?_) ?_
  ·
    apply step_wp
    · rfl
    refine ow_call _ _ _ (by kernel_rfl) (hN _) ?_
    rintro e W1 ⟨g, rfl, hg, hat, hs1⟩
    refine ⟨_, rfl, ?_⟩
    have hk1 : Keep [] w2 W1 := hk0.trans hs1
    replace hg : w2.heap.size ≤ g := Nat.le_trans hk0.size hg
    clear hs1
    apply hK
    clear hK K
    go_simp
    refine wpAny_ready (rs := [1]) (by kernel_rfl) (by simp) ?_
    refine AllReady.cons rfl (fun K hK => ?_) ?_
    ·
      apply step_wp
      · rfl
      refine ow_load _ _ rfl KB rfl 16 5 Try.underlying23 _ DK (LK _ hk1) (by rw [HDK.out]; exact blkCells) ?_
      apply hK
      clear hK K
      go_simp
      refine wpAny_ready (rs := [2]) (by kernel_rfl) (by simp) ?_
      refine AllReady.cons rfl (fun K hK => ?_) ?_
      ·
        apply step_wp
        · rfl
        refine ow_call _ _ _ (by kernel_rfl) (GN _ _ hat) ?_
        rintro e W2 ⟨s, S, n', rfl, hgs, hn, hS, hs2⟩
        refine ⟨_, rfl, ?_⟩
        have hk2 : Keep [] w2 W2 := hk1.trans' hs2 (fun x hx => by right; simp at hx; omega)
        replace hS : ∀ x ∈ S, w2.heap.size ≤ x := fun x hx => by have h1 := hS x hx; have h2 := hk1.size; omega
        clear hs2
        apply hK
        clear hK K
        go_simp
        refine wpAny_take (i := 3) (v := ?_) rfl (by kernel_rfl) (by kernel_rfl) (by kernel_rfl) (fun _ _ _ h => h) (Or.inl ⟨by rfl, ?_⟩) ?_
        rotate_left
        · intro y; go_simp; try (with_reducible rfl)
        rotate_left
        go_simp
        refine wpAny_done (by kernel_rfl) ?_ _
        exact hR.out _ _ _ _ _ ⟨rfl, rfl, by repeat (first | exact trivial | refine ⟨rfl, ?_⟩)⟩ hgs (by omega) hS hk2
      exact AllReady.nil
    exact AllReady.nil
  refine AllReady.cons rfl (fun K hK => ?_) ?_
  ·
    apply step_wp
    · rfl
    refine ow_load _ _ rfl KB rfl 16 5 Try.underlying23 _ DK (LK _ hk0) (by rw [HDK.out]; exact blkCells) ?_
    apply hK
    clear hK K
    go_simp
    refine wpAny_ready (rs := [0]) (by kernel_rfl) (by simp) ?_
    refine AllReady.cons rfl (fun K hK => ?_) ?_
    ·
      apply step_wp
      · rfl
      refine ow_call _ _ _ (by kernel_rfl) (hN _) ?_
      rintro e W1 ⟨g, rfl, hg, hat, hs1⟩
      refine ⟨_, rfl, ?_⟩
      have hk1 : Keep [] w2 W1 := hk0.trans hs1
      replace hg : w2.heap.size ≤ g := Nat.le_trans hk0.size hg
      clear hs1
      apply hK
      clear hK K
      go_simp
      refine wpAny_ready (rs := [2]) (by kernel_rfl) (by simp) ?_
      refine AllReady.cons rfl (fun K hK => ?_) ?_
      ·
        apply step_wp
        · rfl
        refine ow_call _ _ _ (by kernel_rfl) (GN _ _ hat) ?_
        rintro e W2 ⟨s, S, n', rfl, hgs, hn, hS, hs2⟩
        refine ⟨_, rfl, ?_⟩
        have hk2 : Keep [] w2 W2 := hk1.trans' hs2 (fun x hx => by right; simp at hx; omega)
        replace hS : ∀ x ∈ S, w2.heap.size ≤ x := fun x hx => by have h1 := hS x hx; have h2 := hk1.size; omega
        clear hs2
        apply hK
        clear hK K
        go_simp
        refine wpAny_take (i := 3) (v := ?_) rfl (by kernel_rfl) (by kernel_rfl) (by kernel_rfl) (fun _ _ _ h => h) (Or.inl ⟨by rfl, ?_⟩) ?_
        rotate_left
        · intro y; go_simp; try (with_reducible rfl)
        rotate_left
        go_simp
        refine wpAny_done (by kernel_rfl) ?_ _
        exact hR.out _ _ _ _ _ ⟨rfl, rfl, by repeat (first | exact trivial | refine ⟨rfl, ?_⟩)⟩ hgs (by omega) hS hk2
      exact AllReady.nil
    exact AllReady.nil
  exact AllReady.nil

noncomputable def gany5 : Code := regionOf Try.f4 5
set_option maxRecDepth 100000 in
set_option maxHeartbeats 4000000 in
theorem gany5_wp {GS : World → List Nat → Nat → List Int → Nat → Prop} (hC : GcmC GS) (hN : ANewC) (R : Act → World → Prop) (a : Act) (w2 : World) (KB M : Nat) (ov pv : Value) (kl : List Int) (DK : Array Value) (hkl : B16 kl) (hDK : Hid (DK = (kl.map (Value.int .u8)).toArray)) (hBK : Hid (Blk w2 KB 23 DK))
    (hF : Fr 92 [(2, ov), (3, pv), (4, .pointer (some ⟨KB, 0, none⟩)), (5, .pointer (some ⟨M, 0, none⟩))] a)
    (hR : Hid (∀ a' w' s S n', Fr 92 [(2, ov), (3, pv), (4, .pointer (some ⟨KB, 0, none⟩)), (5, .pointer (some ⟨M, 0, none⟩)), (9, .pointer (some ⟨s, 0, none⟩))] a' → GS w' S s kl n' → n' ≤ 10 → (∀ x ∈ S, w2.heap.size ≤ x) → Keep [] w2 w' → R a' w')) :
    Code.wp Try.prog gany5 (OutN R) a w2 := by
  have HDK := Lib.hid (show DK.size = 16 by rw [hDK.out]; simp [hkl.1])
  have LK : ∀ W, Keep [] w2 W → Blk W KB 23 DK := fun W h => hBK.out.keep h (by simp)
  have GN : ∀ w g, AF w g 0 → Calls Try.prog 6 #[.pointer (some ⟨g, 0, none⟩), .agg DK] w fun e w' => ∃ s S n', e = .returned (.pointer (some ⟨s, 0, none⟩)) ∧ GS w' S s kl n' ∧ n' ≤ 0 + 10 ∧ (∀ x ∈ S, x = g ∨ w.heap.size ≤ x) ∧ Keep [g] w w' := fun w g h => by
    have := hC.newG w g 0 kl h (by decide) hkl
    rw [arr_agg, ← hDK.out] at this
    exact this
  obtain ⟨f, ⟨f2, f3, f4, f5, -⟩, rfl⟩ := hF.open92
  simp only [f2, f3, f4, f5]
  clear f2 f3 f4 f5 hF
  conv => arg 2; whnf
  refine wp_region_any (by kernel_rfl) ?_
  change wpAny _ _ _ _ _ _ _ (World.drew _)
  obtain ⟨W0, hW0⟩ : ∃ W0, W0 = w2.drew := ⟨_, rfl⟩
  rw [← hW0]
  have hk0 : Keep [] w2 W0 := by rw [hW0]; exact (Keep.refl [] w2).drew
  clear hW0
  go_simp
  refine wpAny_ready (rs := [0, 1]) (by kernel_rfl) (by simp) ?_
  refine AllReady.cons rfl (fun K hK => ?_) ?_
  ·
    apply step_wp
    · rfl
    refine ow_call _ _ _ (by kernel_rfl) (hN _) ?_
    rintro e W1 ⟨g, rfl, hg, hat, hs1⟩
    refine ⟨_, rfl, ?_⟩
    have hk1 : Keep [] w2 W1 := hk0.trans hs1
    replace hg : w2.heap.size ≤ g := Nat.le_trans hk0.size hg
    clear hs1
    apply hK
    clear hK K
    go_simp
    refine wpAny_ready (rs := [1]) (by kernel_rfl) (by simp) ?_
    refine AllReady.cons rfl (fun K hK => ?_) ?_
    ·
      apply step_wp
      · rfl
      refine ow_load _ _ rfl KB rfl 16 5 Try.underlying23 _ DK (LK _ hk1) (by rw [HDK.out]; exact blkCells) ?_
      apply hK
      clear hK K
      go_simp
      refine wpAny_ready (rs := [2]) (by kernel_rfl) (by simp) ?_
      refine AllReady.cons rfl (fun K hK => ?_) ?_
      ·
        apply step_wp
        · rfl
        refine ow_call _ _ _ (by kernel_rfl) (GN _ _ hat) ?_
        rintro e W2 ⟨s, S, n', rfl, hgs, hn, hS, hs2⟩
        refine ⟨_, rfl, ?_⟩
        have hk2 : Keep [] w2 W2 := hk1.trans' hs2 (fun x hx => by right; simp at hx; omega)
        replace hS : ∀ x ∈ S, w2.heap.size ≤ x := fun x hx => by have h1 := hS x hx; have h2 := hk1.size; omega
        clear hs2
        apply hK
        clear hK K
        go_simp
        refine wpAny_take (i := 3) (v := ?_) rfl (by kernel_rfl) (by kernel_rfl) (by kernel_rfl) (fun _ _ _ h => h) (Or.inl ⟨by rfl, ?_⟩) ?_
        rotate_left
        · intro y; go_simp; try (with_reducible rfl)
        rotate_left
        go_simp
        refine wpAny_done (by kernel_rfl) ?_ _
        exact hR.out _ _ _ _ _ ⟨rfl, rfl, by repeat (first | exact trivial | refine ⟨rfl, ?_⟩)⟩ hgs (by omega) hS hk2
      exact AllReady.nil
    exact AllReady.nil
  refine AllReady.cons rfl (fun K hK => ?_) ?_
  ·
    apply step_wp
    · rfl
    refine ow_load _ _ rfl KB rfl 16 5 Try.underlying23 _ DK (LK _ hk0) (by rw [HDK.out]; exact blkCells) ?_
    apply hK
    clear hK K
    go_simp
    refine wpAny_ready (rs := [0]) (by kernel_rfl) (by simp) ?_
    refine AllReady.cons rfl (fun K hK => ?_) ?_
    ·
      apply step_wp
      · rfl
      refine ow_call _ _ _ (by kernel_rfl) (hN _) ?_
      rintro e W1 ⟨g, rfl, hg, hat, hs1⟩
      refine ⟨_, rfl, ?_⟩
      have hk1 : Keep [] w2 W1 := hk0.trans hs1
      replace hg : w2.heap.size ≤ g := Nat.le_trans hk0.size hg
      clear hs1
      apply hK
      clear hK K
      go_simp
      refine wpAny_ready (rs := [2]) (by kernel_rfl) (by simp) ?_
      refine AllReady.cons rfl (fun K hK => ?_) ?_
      ·
        apply step_wp
        · rfl
        refine ow_call _ _ _ (by kernel_rfl) (GN _ _ hat) ?_
        rintro e W2 ⟨s, S, n', rfl, hgs, hn, hS, hs2⟩
        refine ⟨_, rfl, ?_⟩
        have hk2 : Keep [] w2 W2 := hk1.trans' hs2 (fun x hx => by right; simp at hx; omega)
        replace hS : ∀ x ∈ S, w2.heap.size ≤ x := fun x hx => by have h1 := hS x hx; have h2 := hk1.size; omega
        clear hs2
        apply hK
        clear hK K
        go_simp
        refine wpAny_take (i := 3) (v := ?_) rfl (by kernel_rfl) (by kernel_rfl) (by kernel_rfl) (fun _ _ _ h => h) (Or.inl ⟨by rfl, ?_⟩) ?_
        rotate_left
        · intro y; go_simp; try (with_reducible rfl)
        rotate_left
        go_simp
        refine wpAny_done (by kernel_rfl) ?_ _
        exact hR.out _ _ _ _ _ ⟨rfl, rfl, by repeat (first | exact trivial | refine ⟨rfl, ?_⟩)⟩ hgs (by omega) hS hk2
      exact AllReady.nil
    exact AllReady.nil
  exact AllReady.nil

noncomputable def gseals7 : Code := regionOf Try.f3 7
set_option maxRecDepth 100000 in
set_option maxHeartbeats 4000000 in
theorem gseals7_wp (R : Act → World → Prop) (a : Act) (w2 : World) (KB M s : Nat) (ov pv v : Value) (kl nl ol pl : List Int) (hkl : B16 kl) (hnl : N12 nl) (hol : ol.length ≤ 1000) (hpl : pl.length ≤ 1000) (DK DN : Array Value) (hDK : Hid (DK = (kl.map (Value.int .u8)).toArray)) (hDN : Hid (DN = (nl.map (Value.int .u8)).toArray))
    (hBK : Hid (Blk w2 KB 23 DK)) (hBN : Hid (Blk w2 M 25 DN)) (ho : Hid (Sl .u8 w2 ov ol)) (hp : Hid (Sl .u8 w2 pv pl)) (hv : Hid (Sl .u8 w2 v (Gcm.sealed kl nl ol pl)))
    (hF : Fr 58 [(2, ov), (3, pv), (4, .pointer (some ⟨KB, 0, none⟩)), (5, .pointer (some ⟨M, 0, none⟩)), (9, .pointer (some ⟨s, 0, none⟩)), (10, v)] a)
    (hR : Hid (∀ a' w', Fr 58 [(2, ov), (3, pv), (4, .pointer (some ⟨KB, 0, none⟩)), (5, .pointer (some ⟨M, 0, none⟩)), (9, .pointer (some ⟨s, 0, none⟩)), (10, v), (40, .bool false)] a' → Keep [] w2 w' → R a' w')) :
    Code.wp Try.prog gseals7 (OutN R) a w2 := by
  obtain ⟨s1, hs1⟩ : ∃ s1, s1 = bstr (Gcm.sealed kl nl ol pl) := ⟨_, rfl⟩
  have CV : ∀ W v l, Sl .u8 W v l → (convert 26 9 v).run Try.prog W = .ok (.string (bstr l)) W := fun W v l h => run_bytes_str h Try.underlying26 Try.underlying5 Try.underlying9
  have C1 : ∀ W, Keep [] w2 W → (convert 26 9 v).run Try.prog W = .ok (.string s1) W := fun W hk => by
    rw [hs1]
    exact CV W _ _ (hv.out.keep0 hk)
  have BX : ∀ W, Calls Try.prog 10 #[] W fun e w' => ∃ v, e = .returned v ∧ Sl .u8 w' v (boxL 256) ∧ Keep [] W w' := fun W => (rboxes_any W).mono fun e w' ⟨v, h1, h2, h3⟩ => ⟨v, h1, Sl.of_own h2 (boxL_wf 256), h3⟩
  have hw := Gcm.sealed_wf (ad := ol) hkl.2 hnl.2 hp.out.wf (by omega)
  have SLR : ∀ W vb, Keep [] w2 W → Sl .u8 W vb (boxL 256) → Calls Try.prog 9 #[vb, .slice (some ⟨KB, 0, none⟩) 16 16, .slice (some ⟨M, 0, none⟩) 12 12, ov, pv] W fun e w' => ∃ v', e = .returned v' ∧ (convert 26 9 v').run Try.prog w' = .ok (.string s1) w' ∧ Keep [] w2 w' := by
    intro W vb hk hb
    have h1 := hBK.out.keep hk (by simp)
    have h2 := hBN.out.keep hk (by simp)
    rw [hDK.out] at h1
    rw [hDN.out] at h2
    refine (rseal_any vb _ _ ov pv kl nl ol pl W hb (Sl.of_blk h1 hkl.1 (by decide) hkl.2) (Sl.of_blk h2 hnl.1 (by decide) hnl.2) (ho.out.keep0 hk) (hp.out.keep0 hk) hkl.1 hnl.1 (by omega) (by omega)).mono ?_
    rintro e w' ⟨v', rfl, hr, hk'⟩
    refine ⟨_, rfl, ?_, hk.trans hk'⟩
    rw [hs1]
    exact CV _ _ _ (Sl.of_own hr hw)
  clear hs1 CV hkl hnl hol hpl hw
  obtain ⟨f, ⟨f2, f3, f4, f5, f9, f10, -⟩, rfl⟩ := hF.open58
  simp only [f2, f3, f4, f5, f9, f10]
  clear f2 f3 f4 f5 f9 f10 hF
  conv => arg 2; whnf
  refine wp_region_any (by kernel_rfl) ?_
  change wpAny _ _ _ _ _ _ _ (World.drew _)
  obtain ⟨W0, hW0⟩ : ∃ W0, W0 = w2.drew := ⟨_, rfl⟩
  rw [← hW0]
  have hk0 : Keep [] w2 W0 := by rw [hW0]; exact (Keep.refl [] w2).drew
  clear hW0
  go_simp
  refine wpAny_take (i := 0) (v := ?_) rfl (by kernel_rfl) (by kernel_rfl) (by kernel_rfl) (fun _ _ _ h => h) (Or.inl ⟨by rfl, ?_⟩) ?_
  rotate_left
  · intro y; go_simp; try (with_reducible rfl)
  rotate_left
  go_simp
  refine wpAny_take (i := 3) (v := ?_) rfl (by kernel_rfl) (by kernel_rfl) (by kernel_rfl) (fun _ _ _ h => h) (Or.inl ⟨by rfl, ?_⟩) ?_
  rotate_left
  · intro y; go_simp; try (with_reducible rfl)
  rotate_left
  go_simp
  refine wpAny_take (i := 4) (v := ?_) rfl (by kernel_rfl) (by kernel_rfl) (by kernel_rfl) (fun _ _ _ h => h) (Or.inl ⟨by rfl, ?_⟩) ?_
  rotate_left
  · intro y; go_simp; try (with_reducible rfl)
  rotate_left
  go_simp
  refine wpAny_take (i := 5) (v := ?_) rfl (by kernel_rfl) (by kernel_rfl) (by kernel_rfl) (fun _ _ _ h => h) (Or.inl ⟨by rfl, ?_⟩) ?_
  rotate_left
  · intro y; go_simp; try (with_reducible rfl)
  rotate_left
  go_simp
  refine wpAny_take (i := 6) (v := ?_) rfl (by kernel_rfl) (by kernel_rfl) (by kernel_rfl) (fun _ _ _ h => h) (Or.inl ⟨by rfl, ?_⟩) ?_
  rotate_left
  · intro y; go_simp; try (with_reducible rfl)
  rotate_left
  go_simp
  refine wpAny_ready (rs := [1, 2]) (by kernel_rfl) (by simp) ?_
  refine AllReady.cons rfl (fun K hK => ?_) ?_
  ·
    apply step_wp
    · rfl
    refine ow_conv _ _ _ rfl _ _ rfl (C1 _ hk0) ?_
    apply hK
    clear hK K
    go_simp
    refine wpAny_ready (rs := [2]) (by kernel_rfl) (by simp) ?_
    refine AllReady.cons rfl (fun K hK => ?_) ?_
    ·
      apply step_wp
      · rfl
      refine ow_call _ _ _ (by kernel_rfl) (BX _) ?_
      rintro e W1 ⟨vb, rfl, hsb, hs1⟩
      refine ⟨_, rfl, ?_⟩
      have hk1 : Keep [] w2 W1 := hk0.trans hs1
      clear hs1
      apply hK
      clear hK K
      go_simp
      refine wpAny_ready (rs := [7]) (by kernel_rfl) (by simp) ?_
      refine AllReady.cons rfl (fun K hK => ?_) ?_
      ·
        apply step_wp
        · rfl
        refine ow_call _ _ _ (by kernel_rfl) (SLR _ _ hk1 hsb) ?_
        rintro e W2 ⟨v9, rfl, cv, hk2⟩
        refine ⟨_, rfl, ?_⟩
        clear hsb
        apply hK
        clear hK K
        go_simp
        refine wpAny_ready (rs := [8]) (by kernel_rfl) (by simp) ?_
        refine AllReady.cons rfl (fun K hK => ?_) ?_
        ·
          apply step_wp
          · rfl
          refine ow_conv _ _ _ rfl _ _ rfl cv ?_
          clear cv
          apply hK
          clear hK K
          go_simp
          refine wpAny_take (i := 9) (v := ?_) rfl (by kernel_rfl) (by kernel_rfl) (by kernel_rfl) (fun _ _ _ h => h) (Or.inl ⟨by rfl, ?_⟩) ?_
          rotate_left
          · intro y; go_simp; try (with_reducible rfl)
          rotate_left
          go_simp
          refine wpAny_done (by kernel_rfl) ?_ _
          exact hR.out _ _ ⟨rfl, rfl, by repeat (first | exact trivial | refine ⟨rfl, ?_⟩)⟩ hk2
        exact AllReady.nil
      exact AllReady.nil
    exact AllReady.nil
  refine AllReady.cons rfl (fun K hK => ?_) ?_
  ·
    apply step_wp
    · rfl
    refine ow_call _ _ _ (by kernel_rfl) (BX _) ?_
    rintro e W1 ⟨vb, rfl, hsb, hs1⟩
    refine ⟨_, rfl, ?_⟩
    have hk1 : Keep [] w2 W1 := hk0.trans hs1
    clear hs1
    apply hK
    clear hK K
    go_simp
    refine wpAny_ready (rs := [1, 7]) (by kernel_rfl) (by simp) ?_
    refine AllReady.cons rfl (fun K hK => ?_) ?_
    ·
      apply step_wp
      · rfl
      refine ow_conv _ _ _ rfl _ _ rfl (C1 _ hk1) ?_
      apply hK
      clear hK K
      go_simp
      refine wpAny_ready (rs := [7]) (by kernel_rfl) (by simp) ?_
      refine AllReady.cons rfl (fun K hK => ?_) ?_
      ·
        apply step_wp
        · rfl
        refine ow_call _ _ _ (by kernel_rfl) (SLR _ _ hk1 hsb) ?_
        rintro e W2 ⟨v9, rfl, cv, hk2⟩
        refine ⟨_, rfl, ?_⟩
        clear hsb
        apply hK
        clear hK K
        go_simp
        refine wpAny_ready (rs := [8]) (by kernel_rfl) (by simp) ?_
        refine AllReady.cons rfl (fun K hK => ?_) ?_
        ·
          apply step_wp
          · rfl
          refine ow_conv _ _ _ rfl _ _ rfl cv ?_
          clear cv
          apply hK
          clear hK K
          go_simp
          refine wpAny_take (i := 9) (v := ?_) rfl (by kernel_rfl) (by kernel_rfl) (by kernel_rfl) (fun _ _ _ h => h) (Or.inl ⟨by rfl, ?_⟩) ?_
          rotate_left
          · intro y; go_simp; try (with_reducible rfl)
          rotate_left
          go_simp
          refine wpAny_done (by kernel_rfl) ?_ _
          exact hR.out _ _ ⟨rfl, rfl, by repeat (first | exact trivial | refine ⟨rfl, ?_⟩)⟩ hk2
        exact AllReady.nil
      exact AllReady.nil
    refine AllReady.cons rfl (fun K hK => ?_) ?_
    ·
      apply step_wp
      · rfl
      refine ow_call _ _ _ (by kernel_rfl) (SLR _ _ hk1 hsb) ?_
      rintro e W2 ⟨v9, rfl, cv, hk2⟩
      refine ⟨_, rfl, ?_⟩
      clear hsb
      apply hK
      clear hK K
      go_simp
      refine wpAny_ready (rs := [1, 8]) (by kernel_rfl) (by simp) ?_
      refine AllReady.cons rfl (fun K hK => ?_) ?_
      ·
        apply step_wp
        · rfl
        refine ow_conv _ _ _ rfl _ _ rfl (C1 _ hk2) ?_
        apply hK
        clear hK K
        go_simp
        refine wpAny_ready (rs := [8]) (by kernel_rfl) (by simp) ?_
        refine AllReady.cons rfl (fun K hK => ?_) ?_
        ·
          apply step_wp
          · rfl
          refine ow_conv _ _ _ rfl _ _ rfl cv ?_
          clear cv
          apply hK
          clear hK K
          go_simp
          refine wpAny_take (i := 9) (v := ?_) rfl (by kernel_rfl) (by kernel_rfl) (by kernel_rfl) (fun _ _ _ h => h) (Or.inl ⟨by rfl, ?_⟩) ?_
          rotate_left
          · intro y; go_simp; try (with_reducible rfl)
          rotate_left
          go_simp
          refine wpAny_done (by kernel_rfl) ?_ _
          exact hR.out _ _ ⟨rfl, rfl, by repeat (first | exact trivial | refine ⟨rfl, ?_⟩)⟩ hk2
        exact AllReady.nil
      refine AllReady.cons rfl (fun K hK => ?_) ?_
      ·
        apply step_wp
        · rfl
        refine ow_conv _ _ _ rfl _ _ rfl cv ?_
        clear cv
        apply hK
        clear hK K
        go_simp
        refine wpAny_ready (rs := [1]) (by kernel_rfl) (by simp) ?_
        refine AllReady.cons rfl (fun K hK => ?_) ?_
        ·
          apply step_wp
          · rfl
          refine ow_conv _ _ _ rfl _ _ rfl (C1 _ hk2) ?_
          apply hK
          clear hK K
          go_simp
          refine wpAny_take (i := 9) (v := ?_) rfl (by kernel_rfl) (by kernel_rfl) (by kernel_rfl) (fun _ _ _ h => h) (Or.inl ⟨by rfl, ?_⟩) ?_
          rotate_left
          · intro y; go_simp; try (with_reducible rfl)
          rotate_left
          go_simp
          refine wpAny_done (by kernel_rfl) ?_ _
          exact hR.out _ _ ⟨rfl, rfl, by repeat (first | exact trivial | refine ⟨rfl, ?_⟩)⟩ hk2
        exact AllReady.nil
      exact AllReady.nil
    exact AllReady.nil
  exact AllReady.nil

noncomputable def gany8 : Code := regionOf Try.f4 8
set_option maxRecDepth 100000 in
set_option maxHeartbeats 4000000 in
theorem gany8_wp {GS : World → List Nat → Nat → List Int → Nat → Prop} (hC : GcmC GS) (R : Act → World → Prop) (a : Act) (w2 : World) (KB M s n : Nat) (S : List Nat) (ov sv v : Value) (kl nl ol pl sl : List Int) (hkl : B16 kl) (hnl : N12 nl) (hol : ol.length ≤ 1000) (hpl : pl.length ≤ 1000) (hn : n ≤ 500000) (DN : Array Value) (hDN : Hid (DN = (nl.map (Value.int .u8)).toArray))
    (hBN : Hid (Blk w2 M 25 DN)) (hMS : Hid (M ∉ S)) (ho : Hid (Sl .u8 w2 ov ol)) (hv : Hid (Sl .u8 w2 v pl)) (hs : Hid (Sl .u8 w2 sv sl)) (hsS : Hid (∀ b, sv.ownBlock = some b → 0 < sl.length → b ∉ S)) (hG : Hid (GS w2 S s kl n)) (he : Hid (Gcm.sealed kl nl ol pl = sl))
    (hF : Fr 92 [(2, ov), (3, sv), (4, .pointer (some ⟨KB, 0, none⟩)), (5, .pointer (some ⟨M, 0, none⟩)), (9, .pointer (some ⟨s, 0, none⟩)), (10, v)] a)
    (hR : Hid (∀ a' w', Fr 92 [(8, .bool true)] a' → Keep S w2 w' → R a' w')) :
    Code.wp Try.prog gany8 (OutN R) a w2 := by
  obtain ⟨s1, hs1⟩ : ∃ s1, s1 = bstr sl := ⟨_, rfl⟩
  have HDN := Lib.hid (show DN.size = 12 by rw [hDN.out]; simp [hnl.1])
  have LN : ∀ W, Keep S w2 W → Blk W M 25 DN := fun W h => hBN.out.keep h hMS.out
  have CV : ∀ W v l, Sl .u8 W v l → (convert 26 9 v).run Try.prog W = .ok (.string (bstr l)) W := fun W v l h => run_bytes_str h Try.underlying26 Try.underlying5 Try.underlying9
  have C1 : ∀ W, Keep S w2 W → (convert 26 9 sv).run Try.prog W = .ok (.string s1) W := fun W hk => by
    rw [hs1]
    exact CV W _ _ (hs.out.keep hk (fun hl b hb => hsS.out b hb hl))
  have C2 := C1
  have SG : ∀ W, Keep [] w2 W → Calls Try.prog 8 #[.pointer (some ⟨s, 0, none⟩), .agg DN, ov, v] W fun e w' => ∃ v', e = .returned v' ∧ (convert 26 9 v').run Try.prog w' = .ok (.string s1) w' ∧ Keep S w2 w' := by
    intro W hk
    have := hC.sealG W S s n kl nl ol pl ov v (hC.keepG hG.out hk (by simp)) hn hkl hnl (ho.out.keep0 hk) (hv.out.keep0 hk) (by omega) (by omega)
    rw [arr_agg, ← hDN.out] at this
    refine this.mono ?_
    rintro e w' ⟨v', n', rfl, hsl, -, -, -, hk'⟩
    refine ⟨_, rfl, ?_, hk.more0.trans hk'⟩
    rw [hs1, ← he.out]
    exact CV _ _ _ hsl
  clear hs1 CV hkl hnl hol hpl
  obtain ⟨f, ⟨f2, f3, f4, f5, f9, f10, -⟩, rfl⟩ := hF.open92
  simp only [f2, f3, f4, f5, f9, f10]
  clear f2 f3 f4 f5 f9 f10 hF
  conv => arg 2; whnf
  refine wp_region_any (by kernel_rfl) ?_
  change wpAny _ _ _ _ _ _ _ (World.drew _)
  obtain ⟨W0, hW0⟩ : ∃ W0, W0 = w2.drew := ⟨_, rfl⟩
  rw [← hW0]
  have hk0 : Keep [] w2 W0 := by rw [hW0]; exact (Keep.refl [] w2).drew
  clear hW0
  go_simp
  refine wpAny_take (i := 0) (v := ?_) rfl (by kernel_rfl) (by kernel_rfl) (by kernel_rfl) (fun _ _ _ h => h) (Or.inl ⟨by rfl, ?_⟩) ?_
  rotate_left
  · intro y; go_simp; try (with_reducible rfl)
  rotate_left
  go_simp
  refine wpAny_take (i := 2) (v := ?_) rfl (by kernel_rfl) (by kernel_rfl) (by kernel_rfl) (fun _ _ _ h => h) (Or.inl ⟨by rfl, ?_⟩) ?_
  rotate_left
  · intro y; go_simp; try (with_reducible rfl)
  rotate_left
  go_simp
  refine wpAny_take (i := 3) (v := ?_) rfl (by kernel_rfl) (by kernel_rfl) (by kernel_rfl) (fun _ _ _ h => h) (Or.inl ⟨by rfl, ?_⟩) ?_
  rotate_left
  · intro y; go_simp; try (with_reducible rfl)
  rotate_left
  go_simp
  refine wpAny_take (i := 6) (v := ?_) rfl (by kernel_rfl) (by kernel_rfl) (by kernel_rfl) (fun _ _ _ h => h) (Or.inl ⟨by rfl, ?_⟩) ?_
  rotate_left
  · intro y; go_simp; try (with_reducible rfl)
  rotate_left
  go_simp
  refine wpAny_ready (rs := [1, 7]) (by kernel_rfl) (by simp) ?_
  refine AllReady.cons rfl (fun K hK => ?_) ?_
  ·
    apply step_wp
    · rfl
    refine ow_load _ _ rfl M rfl 12 5 Try.underlying25 _ DN (LN _ hk0.more0) (by rw [HDN.out]; exact nonceCells) ?_
    apply hK
    clear hK K
    go_simp
    refine wpAny_ready (rs := [4, 7]) (by kernel_rfl) (by simp) ?_
    refine AllReady.cons rfl (fun K hK => ?_) ?_
    ·
      apply step_wp
      · rfl
      refine ow_call _ _ _ (by kernel_rfl) (SG _ hk0) ?_
      rintro e W1 ⟨v9, rfl, cv, hk1⟩
      refine ⟨_, rfl, ?_⟩
      apply hK
      clear hK K
      go_simp
      refine wpAny_ready (rs := [5, 7]) (by kernel_rfl) (by simp) ?_
      refine AllReady.cons rfl (fun K hK => ?_) ?_
      ·
        apply step_wp
        · rfl
        refine ow_conv _ _ _ rfl _ _ rfl cv ?_
        clear cv
        apply hK
        clear hK K
        go_simp
        refine wpAny_ready (rs := [7]) (by kernel_rfl) (by simp) ?_
        refine AllReady.cons rfl (fun K hK => ?_) ?_
        ·
          apply step_wp
          · rfl
          refine ow_conv _ _ _ rfl _ _ rfl (C1 _ hk1) ?_
          apply hK
          clear hK K
          go_simp
          refine wpAny_take (i := 8) (v := ?_) rfl (by kernel_rfl) (by kernel_rfl) (by kernel_rfl) (fun _ _ _ h => h) (Or.inl ⟨by rfl, ?_⟩) ?_
          rotate_left
          · intro y; go_simp; try (with_reducible rfl)
          rotate_left
          go_simp
          refine wpAny_take (i := 9) (v := ?_) rfl (by kernel_rfl) (by kernel_rfl) (by kernel_rfl) (fun _ _ _ h => h) (Or.inl ⟨by rfl, ?_⟩) ?_
          rotate_left
          · intro y; go_simp; try (with_reducible rfl)
          rotate_left
          go_simp
          refine wpAny_done (by kernel_rfl) ?_ _
          exact hR.out _ _ ⟨rfl, rfl, by repeat (first | exact trivial | refine ⟨rfl, ?_⟩)⟩ hk1
        exact AllReady.nil
      refine AllReady.cons rfl (fun K hK => ?_) ?_
      ·
        apply step_wp
        · rfl
        refine ow_conv _ _ _ rfl _ _ rfl (C1 _ hk1) ?_
        apply hK
        clear hK K
        go_simp
        refine wpAny_ready (rs := [5]) (by kernel_rfl) (by simp) ?_
        refine AllReady.cons rfl (fun K hK => ?_) ?_
        ·
          apply step_wp
          · rfl
          refine ow_conv _ _ _ rfl _ _ rfl cv ?_
          clear cv
          apply hK
          clear hK K
          go_simp
          refine wpAny_take (i := 8) (v := ?_) rfl (by kernel_rfl) (by kernel_rfl) (by kernel_rfl) (fun _ _ _ h => h) (Or.inl ⟨by rfl, ?_⟩) ?_
          rotate_left
          · intro y; go_simp; try (with_reducible rfl)
          rotate_left
          go_simp
          refine wpAny_take (i := 9) (v := ?_) rfl (by kernel_rfl) (by kernel_rfl) (by kernel_rfl) (fun _ _ _ h => h) (Or.inl ⟨by rfl, ?_⟩) ?_
          rotate_left
          · intro y; go_simp; try (with_reducible rfl)
          rotate_left
          go_simp
          refine wpAny_done (by kernel_rfl) ?_ _
          exact hR.out _ _ ⟨rfl, rfl, by repeat (first | exact trivial | refine ⟨rfl, ?_⟩)⟩ hk1
        exact AllReady.nil
      exact AllReady.nil
    refine AllReady.cons rfl (fun K hK => ?_) ?_
    ·
      apply step_wp
      · rfl
      refine ow_conv _ _ _ rfl _ _ rfl (C1 _ hk0.more0) ?_
      apply hK
      clear hK K
      go_simp
      refine wpAny_ready (rs := [4]) (by kernel_rfl) (by simp) ?_
      refine AllReady.cons rfl (fun K hK => ?_) ?_
      ·
        apply step_wp
        · rfl
        refine ow_call _ _ _ (by kernel_rfl) (SG _ hk0) ?_
        rintro e W1 ⟨v9, rfl, cv, hk1⟩
        refine ⟨_, rfl, ?_⟩
        apply hK
        clear hK K
        go_simp
        refine wpAny_ready (rs := [5]) (by kernel_rfl) (by simp) ?_
        refine AllReady.cons rfl (fun K hK => ?_) ?_
        ·
          apply step_wp
          · rfl
          refine ow_conv _ _ _ rfl _ _ rfl cv ?_
          clear cv
          apply hK
          clear hK K
          go_simp
          refine wpAny_take (i := 8) (v := ?_) rfl (by kernel_rfl) (by kernel_rfl) (by kernel_rfl) (fun _ _ _ h => h) (Or.inl ⟨by rfl, ?_⟩) ?_
          rotate_left
          · intro y; go_simp; try (with_reducible rfl)
          rotate_left
          go_simp
          refine wpAny_take (i := 9) (v := ?_) rfl (by kernel_rfl) (by kernel_rfl) (by kernel_rfl) (fun _ _ _ h => h) (Or.inl ⟨by rfl, ?_⟩) ?_
          rotate_left
          · intro y; go_simp; try (with_reducible rfl)
          rotate_left
          go_simp
          refine wpAny_done (by kernel_rfl) ?_ _
          exact hR.out _ _ ⟨rfl, rfl, by repeat (first | exact trivial | refine ⟨rfl, ?_⟩)⟩ hk1
        exact AllReady.nil
      exact AllReady.nil
    exact AllReady.nil
  refine AllReady.cons rfl (fun K hK => ?_) ?_
  ·
    apply step_wp
    · rfl
    refine ow_conv _ _ _ rfl _ _ rfl (C1 _ hk0.more0) ?_
    apply hK
    clear hK K
    go_simp
    refine wpAny_ready (rs := [1]) (by kernel_rfl) (by simp) ?_
    refine AllReady.cons rfl (fun K hK => ?_) ?_
    ·
      apply step_wp
      · rfl
      refine ow_load _ _ rfl M rfl 12 5 Try.underlying25 _ DN (LN _ hk0.more0) (by rw [HDN.out]; exact nonceCells) ?_
      apply hK
      clear hK K
      go_simp
      refine wpAny_ready (rs := [4]) (by kernel_rfl) (by simp) ?_
      refine AllReady.cons rfl (fun K hK => ?_) ?_
      ·
        apply step_wp
        · rfl
        refine ow_call _ _ _ (by kernel_rfl) (SG _ hk0) ?_
        rintro e W1 ⟨v9, rfl, cv, hk1⟩
        refine ⟨_, rfl, ?_⟩
        apply hK
        clear hK K
        go_simp
        refine wpAny_ready (rs := [5]) (by kernel_rfl) (by simp) ?_
        refine AllReady.cons rfl (fun K hK => ?_) ?_
        ·
          apply step_wp
          · rfl
          refine ow_conv _ _ _ rfl _ _ rfl cv ?_
          clear cv
          apply hK
          clear hK K
          go_simp
          refine wpAny_take (i := 8) (v := ?_) rfl (by kernel_rfl) (by kernel_rfl) (by kernel_rfl) (fun _ _ _ h => h) (Or.inl ⟨by rfl, ?_⟩) ?_
          rotate_left
          · intro y; go_simp; try (with_reducible rfl)
          rotate_left
          go_simp
          refine wpAny_take (i := 9) (v := ?_) rfl (by kernel_rfl) (by kernel_rfl) (by kernel_rfl) (fun _ _ _ h => h) (Or.inl ⟨by rfl, ?_⟩) ?_
          rotate_left
          · intro y; go_simp; try (with_reducible rfl)
          rotate_left
          go_simp
          refine wpAny_done (by kernel_rfl) ?_ _
          exact hR.out _ _ ⟨rfl, rfl, by repeat (first | exact trivial | refine ⟨rfl, ?_⟩)⟩ hk1
        exact AllReady.nil
      exact AllReady.nil
    exact AllReady.nil
  exact AllReady.nil

end Go.Proofs.Ytlkjngbelckgkaa
