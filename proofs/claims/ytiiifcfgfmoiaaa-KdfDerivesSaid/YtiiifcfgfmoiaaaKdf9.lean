/-
  The law KdfDerives: its last region.
-/
import Derived.Test.YtiiifcfgfmoiaaaKdf8
namespace Go.Proofs.Ytiiifcfgfmoiaaa
open Go.RowKit

noncomputable def hder8 : Code := regionOf Try.f5 8

set_option maxRecDepth 100000 in
set_option maxHeartbeats 8000000 in
theorem der_reg8 (R : Act → World → Prop) (a : Act) (w7 : World) (g0 m12 m13 m14 : Nat) (sA nA dA : Option Addr) (sc nc dc : Nat) (sl nl dl kl : List Int) (lab : ByteArray) (D0 DX DD DH : Array Value)
    (hB : Hid (Blk w7 g0 23 D0)) (hD0 : Hid (D0 = (kl.map (Value.int .u8)).toArray)) (hs : Hid (Secr kl))
    (hS : Hid (Sl .u8 w7 (.slice sA sl.length sc) sl)) (hN : Hid (Sl .u8 w7 (.slice nA nl.length nc) nl)) (hD : Hid (Sl .u8 w7 (.slice dA dl.length dc) dl))
    (hsl : Hid (sl.length ≤ 10000)) (hnl : Hid (nl.length ≤ 10000)) (hdl : Hid (dl.length ≤ 10000)) (hlab : Hid (lab.size ≤ 249))
    (hDX : Hid (DX = ((Sha.mark sl nl).map (Value.int .u8)).toArray)) (hDD : Hid (DD = ((Sha.label kl (sby lab) (Sha.sum dl) 32).map (Value.int .u8)).toArray)) (hDH : Hid (DH = ((Sha.sum dl).map (Value.int .u8)).toArray))
    (hB12 : Hid (Blk w7 m12 23 DX)) (hB13 : Hid (Blk w7 m13 23 DD)) (hB14 : Hid (Blk w7 m14 22 DH))
    (hF : Fr 75 [(1, .slice sA sl.length sc), (2, .slice nA nl.length nc), (3, .slice dA dl.length dc), (4, .string lab), (5, .pointer (some ⟨g0, 0, none⟩)), (12, .pointer (some ⟨m12, 0, none⟩)), (13, .pointer (some ⟨m13, 0, none⟩)), (14, .pointer (some ⟨m14, 0, none⟩))] a)
    (hR : Hid (∀ a' w', Fr 75 [(10, .bool true)] a' → Keep [] w7 w' → R a' w')) :
    Code.wp Try.prog hder8 (OutN R) a w7 := by
  obtain ⟨s1, hs1⟩ : ∃ s1, s1 = bstr (Sha.mark sl nl) := ⟨_, rfl⟩
  obtain ⟨s2, hs2⟩ : ∃ s2, s2 = bstr (Sha.label kl (sby lab) (Sha.sum dl) 32) := ⟨_, rfl⟩
  obtain ⟨s3, hs3⟩ : ∃ s3, s3 = bstr (Sha.sum dl) := ⟨_, rfl⟩
  have CV : ∀ W v l, Sl .u8 W v l → (convert 24 9 v).run Try.prog W = .ok (.string (bstr l)) W := fun W v l h => run_bytes_str h Try.underlying24 Try.underlying5 Try.underlying9
  have C1 : ∀ W, Keep [] w7 W → (convert 24 9 (.slice (some ⟨m12, 0, none⟩) 32 32)).run Try.prog W = .ok (.string s1) W := by
    intro W hk
    have hb := hB12.out.keep hk (by simp)
    rw [hDX.out] at hb
    rw [hs1]
    exact CV W _ _ (Sl.of_blk hb (mark_length _ _) (by decide) (mark_wf _ _))
  have C2 : ∀ W, Keep [] w7 W → (convert 24 9 (.slice (some ⟨m13, 0, none⟩) 32 32)).run Try.prog W = .ok (.string s2) W := by
    intro W hk
    have hb := hB13.out.keep hk (by simp)
    rw [hDD.out] at hb
    rw [hs2]
    exact CV W _ _ (Sl.of_blk hb (label_len _ _ _ _) (by decide) (label_wf _ _ _ _))
  have C3 : ∀ W, Keep [] w7 W → (convert 24 9 (.slice (some ⟨m14, 0, none⟩) 32 32)).run Try.prog W = .ok (.string s3) W := by
    intro W hk
    have hb := hB14.out.keep hk (by simp)
    rw [hDH.out] at hb
    rw [hs3]
    exact CV W _ _ (Sl.of_blk hb (sum_length _) (by decide) (sum_wf _))
  have RM : ∀ W, Keep [] w7 W → Calls Try.prog 17 #[.slice sA sl.length sc, .slice nA nl.length nc] W fun e w' => ∃ v', e = .returned v' ∧ (convert 24 9 v').run Try.prog w' = .ok (.string s1) w' ∧ Keep [] w7 w' := by
    intro W hk
    refine (rmark_any _ _ sl nl W (hS.out.keep0 hk) (hN.out.keep0 hk) (by have := hsl.out; omega) (by have := hnl.out; omega)).mono ?_
    rintro e w' ⟨v', rfl, ho, hk'⟩
    exact ⟨v', rfl, by rw [hs1]; exact CV _ _ _ (Sl.of_own ho (mark_wf _ _)), hk.trans hk'⟩
  have RD : ∀ W, Keep [] w7 W → Calls Try.prog 18 #[.slice (some ⟨g0, 0, none⟩) 32 32, .string lab, .slice dA dl.length dc] W fun e w' => ∃ v', e = .returned v' ∧ (convert 24 9 v').run Try.prog w' = .ok (.string s2) w' ∧ Keep [] w7 w' := by
    intro W hk
    have hb := hB.out.keep hk (by simp)
    rw [hD0.out] at hb
    refine (rderive_any _ _ kl dl lab W (Sl.of_blk hb hs.out.1 (by decide) hs.out.2) (hD.out.keep0 hk) (by rw [hs.out.1]; decide) (by have := hdl.out; omega) (by have := hlab.out; omega)).mono ?_
    rintro e w' ⟨v', rfl, ho, hk'⟩
    exact ⟨v', rfl, by rw [hs2]; exact CV _ _ _ ho, hk.trans hk'⟩
  have RS : ∀ W, Keep [] w7 W → Calls Try.prog 19 #[.slice dA dl.length dc] W fun e w' => ∃ v', e = .returned v' ∧ (convert 24 9 v').run Try.prog w' = .ok (.string s3) w' ∧ Keep [] w7 w' := by
    intro W hk
    refine (rsum_any _ dl W (hD.out.keep0 hk) (by have := hdl.out; omega)).mono ?_
    rintro e w' ⟨v', rfl, ho, hk'⟩
    exact ⟨v', rfl, by rw [hs3]; exact CV _ _ _ (Sl.of_own ho (sum_wf _)), hk.trans hk'⟩
  clear hs1 hs2 hs3 CV
  obtain ⟨f, ⟨f1, f2, f3, f4, f5, f12, f13, f14, -⟩, rfl⟩ := hF.open75
  simp only [f1, f2, f3, f4, f5, f12, f13, f14]
  clear f1 f2 f3 f4 f5 f12 f13 f14 hF
  conv => arg 2; whnf
  refine wp_region_any (by kernel_rfl) ?_
  change wpAny _ _ _ _ _ _ _ (World.drew _)
  obtain ⟨W0, hW0⟩ : ∃ W0, W0 = w7.drew := ⟨_, rfl⟩
  rw [← hW0]
  have hk0 : Keep [] w7 W0 := by rw [hW0]; exact (Keep.refl [] w7).drew
  clear hW0
  go_simp
  refine wpAny_take (i := 0) (v := ?_) rfl (by kernel_rfl) (by kernel_rfl) (by kernel_rfl) (fun _ _ _ h => h) (Or.inl ⟨by rfl, ?_⟩) ?_
  rotate_left
  · intro y; go_simp; try (with_reducible rfl)
  rotate_left
  go_simp
  refine wpAny_take (i := 2) (v := ?_) rfl (by kernel_rfl) (by kernel_rfl) (by kernel_rfl) (fun _ _ _ h => h) (Or.inl ⟨by rfl, ?_⟩) ?_
  rotate_left
  · intro y; go_simp; try (with_reducible rfl)
  rotate_left
  go_simp
  refine wpAny_take (i := 3) (v := ?_) rfl (by kernel_rfl) (by kernel_rfl) (by kernel_rfl) (fun _ _ _ h => h) (Or.inl ⟨by rfl, ?_⟩) ?_
  rotate_left
  · intro y; go_simp; try (with_reducible rfl)
  rotate_left
  go_simp
  refine wpAny_ready (rs := [1, 4]) (by kernel_rfl) (by simp) ?_
  refine AllReady.cons rfl (fun K hK => ?_) ?_
  ·
    apply step_wp
    · rfl
    refine ow_conv _ _ _ rfl _ _ rfl (C1 _ hk0) ?_
    apply hK
    clear hK K
    go_simp
    refine wpAny_ready (rs := [4]) (by kernel_rfl) (by simp) ?_
    refine AllReady.cons rfl (fun K hK => ?_) ?_
    ·
      apply step_wp
      · rfl
      refine ow_call _ _ _ (by kernel_rfl) (RM _ hk0) ?_
      rintro e W4 ⟨v4, rfl, cv, hk4⟩
      refine ⟨_, rfl, ?_⟩
      apply hK
      clear hK K
      go_simp
      refine wpAny_ready (rs := [5]) (by kernel_rfl) (by simp) ?_
      refine AllReady.cons rfl (fun K hK => ?_) ?_
      ·
        apply step_wp
        · rfl
        refine ow_conv _ _ _ rfl _ _ rfl cv ?_
        clear cv
        apply hK
        clear hK K
        go_simp
        refine wpAny_take (i := 6) (v := ?_) rfl (by kernel_rfl) (by kernel_rfl) (by kernel_rfl) (fun _ _ _ h => h) (Or.inl ⟨by rfl, ?_⟩) ?_
        rotate_left
        · intro y; go_simp; try (with_reducible rfl)
        rotate_left
        go_simp
        refine wpAny_take (i := 7) (v := ?_) rfl (by kernel_rfl) (by kernel_rfl) (by kernel_rfl) (fun _ _ _ h => h) (Or.inl ⟨by rfl, ?_⟩) ?_
        rotate_left
        · intro y; go_simp; try (with_reducible rfl)
        rotate_left
        go_simp
        refine wpAny_take (i := 8) (v := ?_) rfl (by kernel_rfl) (by kernel_rfl) (by kernel_rfl) (fun _ _ _ h => h) (Or.inl ⟨by rfl, ?_⟩) ?_
        rotate_left
        · intro y; go_simp; try (with_reducible rfl)
        rotate_left
        go_simp
        refine wpAny_take (i := 10) (v := ?_) rfl (by kernel_rfl) (by kernel_rfl) (by kernel_rfl) (fun _ _ _ h => h) (Or.inl ⟨by rfl, ?_⟩) ?_
        rotate_left
        · intro y; go_simp; try (with_reducible rfl)
        rotate_left
        go_simp
        refine wpAny_take (i := 11) (v := ?_) rfl (by kernel_rfl) (by kernel_rfl) (by kernel_rfl) (fun _ _ _ h => h) (Or.inl ⟨by rfl, ?_⟩) ?_
        rotate_left
        · intro y; go_simp; try (with_reducible rfl)
        rotate_left
        go_simp
        refine wpAny_take (i := 12) (v := ?_) rfl (by kernel_rfl) (by kernel_rfl) (by kernel_rfl) (fun _ _ _ h => h) (Or.inl ⟨by rfl, ?_⟩) ?_
        rotate_left
        · intro y; go_simp; try (with_reducible rfl)
        rotate_left
        go_simp
        refine wpAny_ready (rs := [9, 13]) (by kernel_rfl) (by simp) ?_
        refine AllReady.cons rfl (fun K hK => ?_) ?_
        ·
          apply step_wpG
          · rfl
          refine ow_conv _ _ _ rfl _ _ rfl (C2 _ hk4) ?_
          apply hK
          clear hK K
          go_simp
          refine wpAny_ready (rs := [13]) (by kernel_rfl) (by simp) ?_
          refine AllReady.cons rfl (fun K hK => ?_) ?_
          ·
            apply step_wpG
            · rfl
            refine ow_call _ _ _ (by kernel_rfl) (RD _ hk4) ?_
            rintro e W13 ⟨v13, rfl, cv, hk13⟩
            refine ⟨_, rfl, ?_⟩
            apply hK
            clear hK K
            go_simp
            refine wpAny_ready (rs := [14]) (by kernel_rfl) (by simp) ?_
            refine AllReady.cons rfl (fun K hK => ?_) ?_
            ·
              apply step_wpG
              · rfl
              refine ow_conv _ _ _ rfl _ _ rfl cv ?_
              clear cv
              apply hK
              clear hK K
              go_simp
              refine wpAny_take (i := 15) (v := ?_) rfl (by kernel_rfl) (by kernel_rfl) (by kernel_rfl) (fun _ _ _ h => h) (Or.inl ⟨by rfl, ?_⟩) ?_
              rotate_left
              · intro y; go_simp; try (with_reducible rfl)
              rotate_left
              go_simp
              refine wpAny_take (i := 16) (v := ?_) rfl (by kernel_rfl) (by kernel_rfl) (by kernel_rfl) (fun _ _ _ h => h) (Or.inl ⟨by rfl, ?_⟩) ?_
              rotate_left
              · intro y; go_simp; try (with_reducible rfl)
              rotate_left
              go_simp
              refine wpAny_take (i := 17) (v := ?_) rfl (by kernel_rfl) (by kernel_rfl) (by kernel_rfl) (fun _ _ _ h => h) (Or.inl ⟨by rfl, ?_⟩) ?_
              rotate_left
              · intro y; go_simp; try (with_reducible rfl)
              rotate_left
              go_simp
              refine wpAny_take (i := 18) (v := ?_) rfl (by kernel_rfl) (by kernel_rfl) (by kernel_rfl) (fun _ _ _ h => h) (Or.inl ⟨by rfl, ?_⟩) ?_
              rotate_left
              · intro y; go_simp; try (with_reducible rfl)
              rotate_left
              go_simp
              refine wpAny_take (i := 20) (v := ?_) rfl (by kernel_rfl) (by kernel_rfl) (by kernel_rfl) (fun _ _ _ h => h) (Or.inl ⟨by rfl, ?_⟩) ?_
              rotate_left
              · intro y; go_simp; try (with_reducible rfl)
              rotate_left
              go_simp
              refine wpAny_ready (rs := [19, 21]) (by kernel_rfl) (by simp) ?_
              refine AllReady.cons rfl (fun K hK => ?_) ?_
              ·
                apply step_wpG
                · rfl
                refine ow_conv _ _ _ rfl _ _ rfl (C3 _ hk13) ?_
                apply hK
                clear hK K
                go_simp
                refine wpAny_ready (rs := [21]) (by kernel_rfl) (by simp) ?_
                refine AllReady.cons rfl (fun K hK => ?_) ?_
                ·
                  apply step_wpG
                  · rfl
                  refine ow_call _ _ _ (by kernel_rfl) (RS _ hk13) ?_
                  rintro e W21 ⟨v21, rfl, cv, hk21⟩
                  refine ⟨_, rfl, ?_⟩
                  apply hK
                  clear hK K
                  go_simp
                  refine wpAny_ready (rs := [22]) (by kernel_rfl) (by simp) ?_
                  refine AllReady.cons rfl (fun K hK => ?_) ?_
                  ·
                    apply step_wpG
                    · rfl
                    refine ow_conv _ _ _ rfl _ _ rfl cv ?_
                    clear cv
                    apply hK
                    clear hK K
                    go_simp
                    refine wpAny_take (i := 23) (v := ?_) rfl (by kernel_rfl) (by kernel_rfl) (by kernel_rfl) (fun _ _ _ h => h) (Or.inl ⟨by rfl, ?_⟩) ?_
                    rotate_left
                    · intro y; go_simp; try (with_reducible rfl)
                    rotate_left
                    go_simp
                    refine wpAny_take (i := 24) (v := ?_) rfl (by kernel_rfl) (by kernel_rfl) (by kernel_rfl) (fun _ _ _ h => h) (Or.inl ⟨by rfl, ?_⟩) ?_
                    rotate_left
                    · intro y; go_simp; try (with_reducible rfl)
                    rotate_left
                    go_simp
                    refine wpAny_take (i := 25) (v := ?_) rfl (by kernel_rfl) (by kernel_rfl) (by kernel_rfl) (fun _ _ _ h => h) (Or.inl ⟨by rfl, ?_⟩) ?_
                    rotate_left
                    · intro y; go_simp; try (with_reducible rfl)
                    rotate_left
                    go_simp
                    refine wpAny_done (by kernel_rfl) ?_ _
                    exact hR.out _ _ ⟨rfl, rfl, rfl, trivial⟩ hk21
                  exact AllReady.nil
                exact AllReady.nil
              refine AllReady.cons rfl (fun K hK => ?_) ?_
              ·
                apply step_wpG
                · rfl
                refine ow_call _ _ _ (by kernel_rfl) (RS _ hk13) ?_
                rintro e W21 ⟨v21, rfl, cv, hk21⟩
                refine ⟨_, rfl, ?_⟩
                apply hK
                clear hK K
                go_simp
                refine wpAny_ready (rs := [19, 22]) (by kernel_rfl) (by simp) ?_
                refine AllReady.cons rfl (fun K hK => ?_) ?_
                ·
                  apply step_wpG
                  · rfl
                  refine ow_conv _ _ _ rfl _ _ rfl (C3 _ hk21) ?_
                  apply hK
                  clear hK K
                  go_simp
                  refine wpAny_ready (rs := [22]) (by kernel_rfl) (by simp) ?_
                  refine AllReady.cons rfl (fun K hK => ?_) ?_
                  ·
                    apply step_wpG
                    · rfl
                    refine ow_conv _ _ _ rfl _ _ rfl cv ?_
                    clear cv
                    apply hK
                    clear hK K
                    go_simp
                    refine wpAny_take (i := 23) (v := ?_) rfl (by kernel_rfl) (by kernel_rfl) (by kernel_rfl) (fun _ _ _ h => h) (Or.inl ⟨by rfl, ?_⟩) ?_
                    rotate_left
                    · intro y; go_simp; try (with_reducible rfl)
                    rotate_left
                    go_simp
                    refine wpAny_take (i := 24) (v := ?_) rfl (by kernel_rfl) (by kernel_rfl) (by kernel_rfl) (fun _ _ _ h => h) (Or.inl ⟨by rfl, ?_⟩) ?_
                    rotate_left
                    · intro y; go_simp; try (with_reducible rfl)
                    rotate_left
                    go_simp
                    refine wpAny_take (i := 25) (v := ?_) rfl (by kernel_rfl) (by kernel_rfl) (by kernel_rfl) (fun _ _ _ h => h) (Or.inl ⟨by rfl, ?_⟩) ?_
                    rotate_left
                    · intro y; go_simp; try (with_reducible rfl)
                    rotate_left
                    go_simp
                    refine wpAny_done (by kernel_rfl) ?_ _
                    exact hR.out _ _ ⟨rfl, rfl, rfl, trivial⟩ hk21
                  exact AllReady.nil
                refine AllReady.cons rfl (fun K hK => ?_) ?_
                ·
                  apply step_wpG
                  · rfl
                  refine ow_conv _ _ _ rfl _ _ rfl cv ?_
                  clear cv
                  apply hK
                  clear hK K
                  go_simp
                  refine wpAny_ready (rs := [19]) (by kernel_rfl) (by simp) ?_
                  refine AllReady.cons rfl (fun K hK => ?_) ?_
                  ·
                    apply step_wpG
                    · rfl
                    refine ow_conv _ _ _ rfl _ _ rfl (C3 _ hk21) ?_
                    apply hK
                    clear hK K
                    go_simp
                    refine wpAny_take (i := 23) (v := ?_) rfl (by kernel_rfl) (by kernel_rfl) (by kernel_rfl) (fun _ _ _ h => h) (Or.inl ⟨by rfl, ?_⟩) ?_
                    rotate_left
                    · intro y; go_simp; try (with_reducible rfl)
                    rotate_left
                    go_simp
                    refine wpAny_take (i := 24) (v := ?_) rfl (by kernel_rfl) (by kernel_rfl) (by kernel_rfl) (fun _ _ _ h => h) (Or.inl ⟨by rfl, ?_⟩) ?_
                    rotate_left
                    · intro y; go_simp; try (with_reducible rfl)
                    rotate_left
                    go_simp
                    refine wpAny_take (i := 25) (v := ?_) rfl (by kernel_rfl) (by kernel_rfl) (by kernel_rfl) (fun _ _ _ h => h) (Or.inl ⟨by rfl, ?_⟩) ?_
                    rotate_left
                    · intro y; go_simp; try (with_reducible rfl)
                    rotate_left
                    go_simp
                    refine wpAny_done (by kernel_rfl) ?_ _
                    exact hR.out _ _ ⟨rfl, rfl, rfl, trivial⟩ hk21
                  exact AllReady.nil
                exact AllReady.nil
              exact AllReady.nil
            exact AllReady.nil
          exact AllReady.nil
        refine AllReady.cons rfl (fun K hK => ?_) ?_
        ·
          apply step_wpG
          · rfl
          refine ow_call _ _ _ (by kernel_rfl) (RD _ hk4) ?_
          rintro e W13 ⟨v13, rfl, cv, hk13⟩
          refine ⟨_, rfl, ?_⟩
          apply hK
          clear hK K
          go_simp
          refine wpAny_ready (rs := [9, 14]) (by kernel_rfl) (by simp) ?_
          refine AllReady.cons rfl (fun K hK => ?_) ?_
          ·
            apply step_wpG
            · rfl
            refine ow_conv _ _ _ rfl _ _ rfl (C2 _ hk13) ?_
            apply hK
            clear hK K
            go_simp
            refine wpAny_ready (rs := [14]) (by kernel_rfl) (by simp) ?_
            refine AllReady.cons rfl (fun K hK => ?_) ?_
            ·
              apply step_wpG
              · rfl
              refine ow_conv _ _ _ rfl _ _ rfl cv ?_
              clear cv
              apply hK
              clear hK K
              go_simp
              refine wpAny_take (i := 15) (v := ?_) rfl (by kernel_rfl) (by kernel_rfl) (by kernel_rfl) (fun _ _ _ h => h) (Or.inl ⟨by rfl, ?_⟩) ?_
              rotate_left
              · intro y; go_simp; try (with_reducible rfl)
              rotate_left
              go_simp
              refine wpAny_take (i := 16) (v := ?_) rfl (by kernel_rfl) (by kernel_rfl) (by kernel_rfl) (fun _ _ _ h => h) (Or.inl ⟨by rfl, ?_⟩) ?_
              rotate_left
              · intro y; go_simp; try (with_reducible rfl)
              rotate_left
              go_simp
              refine wpAny_take (i := 17) (v := ?_) rfl (by kernel_rfl) (by kernel_rfl) (by kernel_rfl) (fun _ _ _ h => h) (Or.inl ⟨by rfl, ?_⟩) ?_
              rotate_left
              · intro y; go_simp; try (with_reducible rfl)
              rotate_left
              go_simp
              refine wpAny_take (i := 18) (v := ?_) rfl (by kernel_rfl) (by kernel_rfl) (by kernel_rfl) (fun _ _ _ h => h) (Or.inl ⟨by rfl, ?_⟩) ?_
              rotate_left
              · intro y; go_simp; try (with_reducible rfl)
              rotate_left
              go_simp
              refine wpAny_take (i := 20) (v := ?_) rfl (by kernel_rfl) (by kernel_rfl) (by kernel_rfl) (fun _ _ _ h => h) (Or.inl ⟨by rfl, ?_⟩) ?_
              rotate_left
              · intro y; go_simp; try (with_reducible rfl)
              rotate_left
              go_simp
              refine wpAny_ready (rs := [19, 21]) (by kernel_rfl) (by simp) ?_
              refine AllReady.cons rfl (fun K hK => ?_) ?_
              ·
                apply step_wpG
                · rfl
                refine ow_conv _ _ _ rfl _ _ rfl (C3 _ hk13) ?_
                apply hK
                clear hK K
                go_simp
                refine wpAny_ready (rs := [21]) (by kernel_rfl) (by simp) ?_
                refine AllReady.cons rfl (fun K hK => ?_) ?_
                ·
                  apply step_wpG
                  · rfl
                  refine ow_call _ _ _ (by kernel_rfl) (RS _ hk13) ?_
                  rintro e W21 ⟨v21, rfl, cv, hk21⟩
                  refine ⟨_, rfl, ?_⟩
                  apply hK
                  clear hK K
                  go_simp
                  refine wpAny_ready (rs := [22]) (by kernel_rfl) (by simp) ?_
                  refine AllReady.cons rfl (fun K hK => ?_) ?_
                  ·
                    apply step_wpG
                    · rfl
                    refine ow_conv _ _ _ rfl _ _ rfl cv ?_
                    clear cv
                    apply hK
                    clear hK K
                    go_simp
                    refine wpAny_take (i := 23) (v := ?_) rfl (by kernel_rfl) (by kernel_rfl) (by kernel_rfl) (fun _ _ _ h => h) (Or.inl ⟨by rfl, ?_⟩) ?_
                    rotate_left
                    · intro y; go_simp; try (with_reducible rfl)
                    rotate_left
                    go_simp
                    refine wpAny_take (i := 24) (v := ?_) rfl (by kernel_rfl) (by kernel_rfl) (by kernel_rfl) (fun _ _ _ h => h) (Or.inl ⟨by rfl, ?_⟩) ?_
                    rotate_left
                    · intro y; go_simp; try (with_reducible rfl)
                    rotate_left
                    go_simp
                    refine wpAny_take (i := 25) (v := ?_) rfl (by kernel_rfl) (by kernel_rfl) (by kernel_rfl) (fun _ _ _ h => h) (Or.inl ⟨by rfl, ?_⟩) ?_
                    rotate_left
                    · intro y; go_simp; try (with_reducible rfl)
                    rotate_left
                    go_simp
                    refine wpAny_done (by kernel_rfl) ?_ _
                    exact hR.out _ _ ⟨rfl, rfl, rfl, trivial⟩ hk21
                  exact AllReady.nil
                exact AllReady.nil
              refine AllReady.cons rfl (fun K hK => ?_) ?_
              ·
                apply step_wpG
                · rfl
                refine ow_call _ _ _ (by kernel_rfl) (RS _ hk13) ?_
                rintro e W21 ⟨v21, rfl, cv, hk21⟩
                refine ⟨_, rfl, ?_⟩
                apply hK
                clear hK K
                go_simp
                refine wpAny_ready (rs := [19, 22]) (by kernel_rfl) (by simp) ?_
                refine AllReady.cons rfl (fun K hK => ?_) ?_
                ·
                  apply step_wpG
                  · rfl
                  refine ow_conv _ _ _ rfl _ _ rfl (C3 _ hk21) ?_
                  apply hK
                  clear hK K
                  go_simp
                  refine wpAny_ready (rs := [22]) (by kernel_rfl) (by simp) ?_
                  refine AllReady.cons rfl (fun K hK => ?_) ?_
                  ·
                    apply step_wpG
                    · rfl
                    refine ow_conv _ _ _ rfl _ _ rfl cv ?_
                    clear cv
                    apply hK
                    clear hK K
                    go_simp
                    refine wpAny_take (i := 23) (v := ?_) rfl (by kernel_rfl) (by kernel_rfl) (by kernel_rfl) (fun _ _ _ h => h) (Or.inl ⟨by rfl, ?_⟩) ?_
                    rotate_left
                    · intro y; go_simp; try (with_reducible rfl)
                    rotate_left
                    go_simp
                    refine wpAny_take (i := 24) (v := ?_) rfl (by kernel_rfl) (by kernel_rfl) (by kernel_rfl) (fun _ _ _ h => h) (Or.inl ⟨by rfl, ?_⟩) ?_
                    rotate_left
                    · intro y; go_simp; try (with_reducible rfl)
                    rotate_left
                    go_simp
                    refine wpAny_take (i := 25) (v := ?_) rfl (by kernel_rfl) (by kernel_rfl) (by kernel_rfl) (fun _ _ _ h => h) (Or.inl ⟨by rfl, ?_⟩) ?_
                    rotate_left
                    · intro y; go_simp; try (with_reducible rfl)
                    rotate_left
                    go_simp
                    refine wpAny_done (by kernel_rfl) ?_ _
                    exact hR.out _ _ ⟨rfl, rfl, rfl, trivial⟩ hk21
                  exact AllReady.nil
                refine AllReady.cons rfl (fun K hK => ?_) ?_
                ·
                  apply step_wpG
                  · rfl
                  refine ow_conv _ _ _ rfl _ _ rfl cv ?_
                  clear cv
                  apply hK
                  clear hK K
                  go_simp
                  refine wpAny_ready (rs := [19]) (by kernel_rfl) (by simp) ?_
                  refine AllReady.cons rfl (fun K hK => ?_) ?_
                  ·
                    apply step_wpG
                    · rfl
                    refine ow_conv _ _ _ rfl _ _ rfl (C3 _ hk21) ?_
                    apply hK
                    clear hK K
                    go_simp
                    refine wpAny_take (i := 23) (v := ?_) rfl (by kernel_rfl) (by kernel_rfl) (by kernel_rfl) (fun _ _ _ h => h) (Or.inl ⟨by rfl, ?_⟩) ?_
                    rotate_left
                    · intro y; go_simp; try (with_reducible rfl)
                    rotate_left
                    go_simp
                    refine wpAny_take (i := 24) (v := ?_) rfl (by kernel_rfl) (by kernel_rfl) (by kernel_rfl) (fun _ _ _ h => h) (Or.inl ⟨by rfl, ?_⟩) ?_
                    rotate_left
                    · intro y; go_simp; try (with_reducible rfl)
                    rotate_left
                    go_simp
                    refine wpAny_take (i := 25) (v := ?_) rfl (by kernel_rfl) (by kernel_rfl) (by kernel_rfl) (fun _ _ _ h => h) (Or.inl ⟨by rfl, ?_⟩) ?_
                    rotate_left
                    · intro y; go_simp; try (with_reducible rfl)
                    rotate_left
                    go_simp
                    refine wpAny_done (by kernel_rfl) ?_ _
                    exact hR.out _ _ ⟨rfl, rfl, rfl, trivial⟩ hk21
                  exact AllReady.nil
                exact AllReady.nil
              exact AllReady.nil
            exact AllReady.nil
          refine AllReady.cons rfl (fun K hK => ?_) ?_
          ·
            apply step_wpG
            · rfl
            refine ow_conv _ _ _ rfl _ _ rfl cv ?_
            clear cv
            apply hK
            clear hK K
            go_simp
            refine wpAny_ready (rs := [9]) (by kernel_rfl) (by simp) ?_
            refine AllReady.cons rfl (fun K hK => ?_) ?_
            ·
              apply step_wpG
              · rfl
              refine ow_conv _ _ _ rfl _ _ rfl (C2 _ hk13) ?_
              apply hK
              clear hK K
              go_simp
              refine wpAny_take (i := 15) (v := ?_) rfl (by kernel_rfl) (by kernel_rfl) (by kernel_rfl) (fun _ _ _ h => h) (Or.inl ⟨by rfl, ?_⟩) ?_
              rotate_left
              · intro y; go_simp; try (with_reducible rfl)
              rotate_left
              go_simp
              refine wpAny_take (i := 16) (v := ?_) rfl (by kernel_rfl) (by kernel_rfl) (by kernel_rfl) (fun _ _ _ h => h) (Or.inl ⟨by rfl, ?_⟩) ?_
              rotate_left
              · intro y; go_simp; try (with_reducible rfl)
              rotate_left
              go_simp
              refine wpAny_take (i := 17) (v := ?_) rfl (by kernel_rfl) (by kernel_rfl) (by kernel_rfl) (fun _ _ _ h => h) (Or.inl ⟨by rfl, ?_⟩) ?_
              rotate_left
              · intro y; go_simp; try (with_reducible rfl)
              rotate_left
              go_simp
              refine wpAny_take (i := 18) (v := ?_) rfl (by kernel_rfl) (by kernel_rfl) (by kernel_rfl) (fun _ _ _ h => h) (Or.inl ⟨by rfl, ?_⟩) ?_
              rotate_left
              · intro y; go_simp; try (with_reducible rfl)
              rotate_left
              go_simp
              refine wpAny_take (i := 20) (v := ?_) rfl (by kernel_rfl) (by kernel_rfl) (by kernel_rfl) (fun _ _ _ h => h) (Or.inl ⟨by rfl, ?_⟩) ?_
              rotate_left
              · intro y; go_simp; try (with_reducible rfl)
              rotate_left
              go_simp
              refine wpAny_ready (rs := [19, 21]) (by kernel_rfl) (by simp) ?_
              refine AllReady.cons rfl (fun K hK => ?_) ?_
              ·
                apply step_wpG
                · rfl
                refine ow_conv _ _ _ rfl _ _ rfl (C3 _ hk13) ?_
                apply hK
                clear hK K
                go_simp
                refine wpAny_ready (rs := [21]) (by kernel_rfl) (by simp) ?_
                refine AllReady.cons rfl (fun K hK => ?_) ?_
                ·
                  apply step_wpG
                  · rfl
                  refine ow_call _ _ _ (by kernel_rfl) (RS _ hk13) ?_
                  rintro e W21 ⟨v21, rfl, cv, hk21⟩
                  refine ⟨_, rfl, ?_⟩
                  apply hK
                  clear hK K
                  go_simp
                  refine wpAny_ready (rs := [22]) (by kernel_rfl) (by simp) ?_
                  refine AllReady.cons rfl (fun K hK => ?_) ?_
                  ·
                    apply step_wpG
                    · rfl
                    refine ow_conv _ _ _ rfl _ _ rfl cv ?_
                    clear cv
                    apply hK
                    clear hK K
                    go_simp
                    refine wpAny_take (i := 23) (v := ?_) rfl (by kernel_rfl) (by kernel_rfl) (by kernel_rfl) (fun _ _ _ h => h) (Or.inl ⟨by rfl, ?_⟩) ?_
                    rotate_left
                    · intro y; go_simp; try (with_reducible rfl)
                    rotate_left
                    go_simp
                    refine wpAny_take (i := 24) (v := ?_) rfl (by kernel_rfl) (by kernel_rfl) (by kernel_rfl) (fun _ _ _ h => h) (Or.inl ⟨by rfl, ?_⟩) ?_
                    rotate_left
                    · intro y; go_simp; try (with_reducible rfl)
                    rotate_left
                    go_simp
                    refine wpAny_take (i := 25) (v := ?_) rfl (by kernel_rfl) (by kernel_rfl) (by kernel_rfl) (fun _ _ _ h => h) (Or.inl ⟨by rfl, ?_⟩) ?_
                    rotate_left
                    · intro y; go_simp; try (with_reducible rfl)
                    rotate_left
                    go_simp
                    refine wpAny_done (by kernel_rfl) ?_ _
                    exact hR.out _ _ ⟨rfl, rfl, rfl, trivial⟩ hk21
                  exact AllReady.nil
                exact AllReady.nil
              refine AllReady.cons rfl (fun K hK => ?_) ?_
              ·
                apply step_wpG
                · rfl
                refine ow_call _ _ _ (by kernel_rfl) (RS _ hk13) ?_
                rintro e W21 ⟨v21, rfl, cv, hk21⟩
                refine ⟨_, rfl, ?_⟩
                apply hK
                clear hK K
                go_simp
                refine wpAny_ready (rs := [19, 22]) (by kernel_rfl) (by simp) ?_
                refine AllReady.cons rfl (fun K hK => ?_) ?_
                ·
                  apply step_wpG
                  · rfl
                  refine ow_conv _ _ _ rfl _ _ rfl (C3 _ hk21) ?_
                  apply hK
                  clear hK K
                  go_simp
                  refine wpAny_ready (rs := [22]) (by kernel_rfl) (by simp) ?_
                  refine AllReady.cons rfl (fun K hK => ?_) ?_
                  ·
                    apply step_wpG
                    · rfl
                    refine ow_conv _ _ _ rfl _ _ rfl cv ?_
                    clear cv
                    apply hK
                    clear hK K
                    go_simp
                    refine wpAny_take (i := 23) (v := ?_) rfl (by kernel_rfl) (by kernel_rfl) (by kernel_rfl) (fun _ _ _ h => h) (Or.inl ⟨by rfl, ?_⟩) ?_
                    rotate_left
                    · intro y; go_simp; try (with_reducible rfl)
                    rotate_left
                    go_simp
                    refine wpAny_take (i := 24) (v := ?_) rfl (by kernel_rfl) (by kernel_rfl) (by kernel_rfl) (fun _ _ _ h => h) (Or.inl ⟨by rfl, ?_⟩) ?_
                    rotate_left
                    · intro y; go_simp; try (with_reducible rfl)
                    rotate_left
                    go_simp
                    refine wpAny_take (i := 25) (v := ?_) rfl (by kernel_rfl) (by kernel_rfl) (by kernel_rfl) (fun _ _ _ h => h) (Or.inl ⟨by rfl, ?_⟩) ?_
                    rotate_left
                    · intro y; go_simp; try (with_reducible rfl)
                    rotate_left
                    go_simp
                    refine wpAny_done (by kernel_rfl) ?_ _
                    exact hR.out _ _ ⟨rfl, rfl, rfl, trivial⟩ hk21
                  exact AllReady.nil
                refine AllReady.cons rfl (fun K hK => ?_) ?_
                ·
                  apply step_wpG
                  · rfl
                  refine ow_conv _ _ _ rfl _ _ rfl cv ?_
                  clear cv
                  apply hK
                  clear hK K
                  go_simp
                  refine wpAny_ready (rs := [19]) (by kernel_rfl) (by simp) ?_
                  refine AllReady.cons rfl (fun K hK => ?_) ?_
                  ·
                    apply step_wpG
                    · rfl
                    refine ow_conv _ _ _ rfl _ _ rfl (C3 _ hk21) ?_
                    apply hK
                    clear hK K
                    go_simp
                    refine wpAny_take (i := 23) (v := ?_) rfl (by kernel_rfl) (by kernel_rfl) (by kernel_rfl) (fun _ _ _ h => h) (Or.inl ⟨by rfl, ?_⟩) ?_
                    rotate_left
                    · intro y; go_simp; try (with_reducible rfl)
                    rotate_left
                    go_simp
                    refine wpAny_take (i := 24) (v := ?_) rfl (by kernel_rfl) (by kernel_rfl) (by kernel_rfl) (fun _ _ _ h => h) (Or.inl ⟨by rfl, ?_⟩) ?_
                    rotate_left
                    · intro y; go_simp; try (with_reducible rfl)
                    rotate_left
                    go_simp
                    refine wpAny_take (i := 25) (v := ?_) rfl (by kernel_rfl) (by kernel_rfl) (by kernel_rfl) (fun _ _ _ h => h) (Or.inl ⟨by rfl, ?_⟩) ?_
                    rotate_left
                    · intro y; go_simp; try (with_reducible rfl)
                    rotate_left
                    go_simp
                    refine wpAny_done (by kernel_rfl) ?_ _
                    exact hR.out _ _ ⟨rfl, rfl, rfl, trivial⟩ hk21
                  exact AllReady.nil
                exact AllReady.nil
              exact AllReady.nil
            exact AllReady.nil
          exact AllReady.nil
        exact AllReady.nil
      exact AllReady.nil
    exact AllReady.nil
  refine AllReady.cons rfl (fun K hK => ?_) ?_
  ·
    apply step_wp
    · rfl
    refine ow_call _ _ _ (by kernel_rfl) (RM _ hk0) ?_
    rintro e W4 ⟨v4, rfl, cv, hk4⟩
    refine ⟨_, rfl, ?_⟩
    apply hK
    clear hK K
    go_simp
    refine wpAny_ready (rs := [1, 5]) (by kernel_rfl) (by simp) ?_
    refine AllReady.cons rfl (fun K hK => ?_) ?_
    ·
      apply step_wp
      · rfl
      refine ow_conv _ _ _ rfl _ _ rfl (C1 _ hk4) ?_
      apply hK
      clear hK K
      go_simp
      refine wpAny_ready (rs := [5]) (by kernel_rfl) (by simp) ?_
      refine AllReady.cons rfl (fun K hK => ?_) ?_
      ·
        apply step_wp
        · rfl
        refine ow_conv _ _ _ rfl _ _ rfl cv ?_
        clear cv
        apply hK
        clear hK K
        go_simp
        refine wpAny_take (i := 6) (v := ?_) rfl (by kernel_rfl) (by kernel_rfl) (by kernel_rfl) (fun _ _ _ h => h) (Or.inl ⟨by rfl, ?_⟩) ?_
        rotate_left
        · intro y; go_simp; try (with_reducible rfl)
        rotate_left
        go_simp
        refine wpAny_take (i := 7) (v := ?_) rfl (by kernel_rfl) (by kernel_rfl) (by kernel_rfl) (fun _ _ _ h => h) (Or.inl ⟨by rfl, ?_⟩) ?_
        rotate_left
        · intro y; go_simp; try (with_reducible rfl)
        rotate_left
        go_simp
        refine wpAny_take (i := 8) (v := ?_) rfl (by kernel_rfl) (by kernel_rfl) (by kernel_rfl) (fun _ _ _ h => h) (Or.inl ⟨by rfl, ?_⟩) ?_
        rotate_left
        · intro y; go_simp; try (with_reducible rfl)
        rotate_left
        go_simp
        refine wpAny_take (i := 10) (v := ?_) rfl (by kernel_rfl) (by kernel_rfl) (by kernel_rfl) (fun _ _ _ h => h) (Or.inl ⟨by rfl, ?_⟩) ?_
        rotate_left
        · intro y; go_simp; try (with_reducible rfl)
        rotate_left
        go_simp
        refine wpAny_take (i := 11) (v := ?_) rfl (by kernel_rfl) (by kernel_rfl) (by kernel_rfl) (fun _ _ _ h => h) (Or.inl ⟨by rfl, ?_⟩) ?_
        rotate_left
        · intro y; go_simp; try (with_reducible rfl)
        rotate_left
        go_simp
        refine wpAny_take (i := 12) (v := ?_) rfl (by kernel_rfl) (by kernel_rfl) (by kernel_rfl) (fun _ _ _ h => h) (Or.inl ⟨by rfl, ?_⟩) ?_
        rotate_left
        · intro y; go_simp; try (with_reducible rfl)
        rotate_left
        go_simp
        refine wpAny_ready (rs := [9, 13]) (by kernel_rfl) (by simp) ?_
        refine AllReady.cons rfl (fun K hK => ?_) ?_
        ·
          apply step_wpG
          · rfl
          refine ow_conv _ _ _ rfl _ _ rfl (C2 _ hk4) ?_
          apply hK
          clear hK K
          go_simp
          refine wpAny_ready (rs := [13]) (by kernel_rfl) (by simp) ?_
          refine AllReady.cons rfl (fun K hK => ?_) ?_
          ·
            apply step_wpG
            · rfl
            refine ow_call _ _ _ (by kernel_rfl) (RD _ hk4) ?_
            rintro e W13 ⟨v13, rfl, cv, hk13⟩
            refine ⟨_, rfl, ?_⟩
            apply hK
            clear hK K
            go_simp
            refine wpAny_ready (rs := [14]) (by kernel_rfl) (by simp) ?_
            refine AllReady.cons rfl (fun K hK => ?_) ?_
            ·
              apply step_wpG
              · rfl
              refine ow_conv _ _ _ rfl _ _ rfl cv ?_
              clear cv
              apply hK
              clear hK K
              go_simp
              refine wpAny_take (i := 15) (v := ?_) rfl (by kernel_rfl) (by kernel_rfl) (by kernel_rfl) (fun _ _ _ h => h) (Or.inl ⟨by rfl, ?_⟩) ?_
              rotate_left
              · intro y; go_simp; try (with_reducible rfl)
              rotate_left
              go_simp
              refine wpAny_take (i := 16) (v := ?_) rfl (by kernel_rfl) (by kernel_rfl) (by kernel_rfl) (fun _ _ _ h => h) (Or.inl ⟨by rfl, ?_⟩) ?_
              rotate_left
              · intro y; go_simp; try (with_reducible rfl)
              rotate_left
              go_simp
              refine wpAny_take (i := 17) (v := ?_) rfl (by kernel_rfl) (by kernel_rfl) (by kernel_rfl) (fun _ _ _ h => h) (Or.inl ⟨by rfl, ?_⟩) ?_
              rotate_left
              · intro y; go_simp; try (with_reducible rfl)
              rotate_left
              go_simp
              refine wpAny_take (i := 18) (v := ?_) rfl (by kernel_rfl) (by kernel_rfl) (by kernel_rfl) (fun _ _ _ h => h) (Or.inl ⟨by rfl, ?_⟩) ?_
              rotate_left
              · intro y; go_simp; try (with_reducible rfl)
              rotate_left
              go_simp
              refine wpAny_take (i := 20) (v := ?_) rfl (by kernel_rfl) (by kernel_rfl) (by kernel_rfl) (fun _ _ _ h => h) (Or.inl ⟨by rfl, ?_⟩) ?_
              rotate_left
              · intro y; go_simp; try (with_reducible rfl)
              rotate_left
              go_simp
              refine wpAny_ready (rs := [19, 21]) (by kernel_rfl) (by simp) ?_
              refine AllReady.cons rfl (fun K hK => ?_) ?_
              ·
                apply step_wpG
                · rfl
                refine ow_conv _ _ _ rfl _ _ rfl (C3 _ hk13) ?_
                apply hK
                clear hK K
                go_simp
                refine wpAny_ready (rs := [21]) (by kernel_rfl) (by simp) ?_
                refine AllReady.cons rfl (fun K hK => ?_) ?_
                ·
                  apply step_wpG
                  · rfl
                  refine ow_call _ _ _ (by kernel_rfl) (RS _ hk13) ?_
                  rintro e W21 ⟨v21, rfl, cv, hk21⟩
                  refine ⟨_, rfl, ?_⟩
                  apply hK
                  clear hK K
                  go_simp
                  refine wpAny_ready (rs := [22]) (by kernel_rfl) (by simp) ?_
                  refine AllReady.cons rfl (fun K hK => ?_) ?_
                  ·
                    apply step_wpG
                    · rfl
                    refine ow_conv _ _ _ rfl _ _ rfl cv ?_
                    clear cv
                    apply hK
                    clear hK K
                    go_simp
                    refine wpAny_take (i := 23) (v := ?_) rfl (by kernel_rfl) (by kernel_rfl) (by kernel_rfl) (fun _ _ _ h => h) (Or.inl ⟨by rfl, ?_⟩) ?_
                    rotate_left
                    · intro y; go_simp; try (with_reducible rfl)
                    rotate_left
                    go_simp
                    refine wpAny_take (i := 24) (v := ?_) rfl (by kernel_rfl) (by kernel_rfl) (by kernel_rfl) (fun _ _ _ h => h) (Or.inl ⟨by rfl, ?_⟩) ?_
                    rotate_left
                    · intro y; go_simp; try (with_reducible rfl)
                    rotate_left
                    go_simp
                    refine wpAny_take (i := 25) (v := ?_) rfl (by kernel_rfl) (by kernel_rfl) (by kernel_rfl) (fun _ _ _ h => h) (Or.inl ⟨by rfl, ?_⟩) ?_
                    rotate_left
                    · intro y; go_simp; try (with_reducible rfl)
                    rotate_left
                    go_simp
                    refine wpAny_done (by kernel_rfl) ?_ _
                    exact hR.out _ _ ⟨rfl, rfl, rfl, trivial⟩ hk21
                  exact AllReady.nil
                exact AllReady.nil
              refine AllReady.cons rfl (fun K hK => ?_) ?_
              ·
                apply step_wpG
                · rfl
                refine ow_call _ _ _ (by kernel_rfl) (RS _ hk13) ?_
                rintro e W21 ⟨v21, rfl, cv, hk21⟩
                refine ⟨_, rfl, ?_⟩
                apply hK
                clear hK K
                go_simp
                refine wpAny_ready (rs := [19, 22]) (by kernel_rfl) (by simp) ?_
                refine AllReady.cons rfl (fun K hK => ?_) ?_
                ·
                  apply step_wpG
                  · rfl
                  refine ow_conv _ _ _ rfl _ _ rfl (C3 _ hk21) ?_
                  apply hK
                  clear hK K
                  go_simp
                  refine wpAny_ready (rs := [22]) (by kernel_rfl) (by simp) ?_
                  refine AllReady.cons rfl (fun K hK => ?_) ?_
                  ·
                    apply step_wpG
                    · rfl
                    refine ow_conv _ _ _ rfl _ _ rfl cv ?_
                    clear cv
                    apply hK
                    clear hK K
                    go_simp
                    refine wpAny_take (i := 23) (v := ?_) rfl (by kernel_rfl) (by kernel_rfl) (by kernel_rfl) (fun _ _ _ h => h) (Or.inl ⟨by rfl, ?_⟩) ?_
                    rotate_left
                    · intro y; go_simp; try (with_reducible rfl)
                    rotate_left
                    go_simp
                    refine wpAny_take (i := 24) (v := ?_) rfl (by kernel_rfl) (by kernel_rfl) (by kernel_rfl) (fun _ _ _ h => h) (Or.inl ⟨by rfl, ?_⟩) ?_
                    rotate_left
                    · intro y; go_simp; try (with_reducible rfl)
                    rotate_left
                    go_simp
                    refine wpAny_take (i := 25) (v := ?_) rfl (by kernel_rfl) (by kernel_rfl) (by kernel_rfl) (fun _ _ _ h => h) (Or.inl ⟨by rfl, ?_⟩) ?_
                    rotate_left
                    · intro y; go_simp; try (with_reducible rfl)
                    rotate_left
                    go_simp
                    refine wpAny_done (by kernel_rfl) ?_ _
                    exact hR.out _ _ ⟨rfl, rfl, rfl, trivial⟩ hk21
                  exact AllReady.nil
                refine AllReady.cons rfl (fun K hK => ?_) ?_
                ·
                  apply step_wpG
                  · rfl
                  refine ow_conv _ _ _ rfl _ _ rfl cv ?_
                  clear cv
                  apply hK
                  clear hK K
                  go_simp
                  refine wpAny_ready (rs := [19]) (by kernel_rfl) (by simp) ?_
                  refine AllReady.cons rfl (fun K hK => ?_) ?_
                  ·
                    apply step_wpG
                    · rfl
                    refine ow_conv _ _ _ rfl _ _ rfl (C3 _ hk21) ?_
                    apply hK
                    clear hK K
                    go_simp
                    refine wpAny_take (i := 23) (v := ?_) rfl (by kernel_rfl) (by kernel_rfl) (by kernel_rfl) (fun _ _ _ h => h) (Or.inl ⟨by rfl, ?_⟩) ?_
                    rotate_left
                    · intro y; go_simp; try (with_reducible rfl)
                    rotate_left
                    go_simp
                    refine wpAny_take (i := 24) (v := ?_) rfl (by kernel_rfl) (by kernel_rfl) (by kernel_rfl) (fun _ _ _ h => h) (Or.inl ⟨by rfl, ?_⟩) ?_
                    rotate_left
                    · intro y; go_simp; try (with_reducible rfl)
                    rotate_left
                    go_simp
                    refine wpAny_take (i := 25) (v := ?_) rfl (by kernel_rfl) (by kernel_rfl) (by kernel_rfl) (fun _ _ _ h => h) (Or.inl ⟨by rfl, ?_⟩) ?_
                    rotate_left
                    · intro y; go_simp; try (with_reducible rfl)
                    rotate_left
                    go_simp
                    refine wpAny_done (by kernel_rfl) ?_ _
                    exact hR.out _ _ ⟨rfl, rfl, rfl, trivial⟩ hk21
                  exact AllReady.nil
                exact AllReady.nil
              exact AllReady.nil
            exact AllReady.nil
          exact AllReady.nil
        refine AllReady.cons rfl (fun K hK => ?_) ?_
        ·
          apply step_wpG
          · rfl
          refine ow_call _ _ _ (by kernel_rfl) (RD _ hk4) ?_
          rintro e W13 ⟨v13, rfl, cv, hk13⟩
          refine ⟨_, rfl, ?_⟩
          apply hK
          clear hK K
          go_simp
          refine wpAny_ready (rs := [9, 14]) (by kernel_rfl) (by simp) ?_
          refine AllReady.cons rfl (fun K hK => ?_) ?_
          ·
            apply step_wpG
            · rfl
            refine ow_conv _ _ _ rfl _ _ rfl (C2 _ hk13) ?_
            apply hK
            clear hK K
            go_simp
            refine wpAny_ready (rs := [14]) (by kernel_rfl) (by simp) ?_
            refine AllReady.cons rfl (fun K hK => ?_) ?_
            ·
              apply step_wpG
              · rfl
              refine ow_conv _ _ _ rfl _ _ rfl cv ?_
              clear cv
              apply hK
              clear hK K
              go_simp
              refine wpAny_take (i := 15) (v := ?_) rfl (by kernel_rfl) (by kernel_rfl) (by kernel_rfl) (fun _ _ _ h => h) (Or.inl ⟨by rfl, ?_⟩) ?_
              rotate_left
              · intro y; go_simp; try (with_reducible rfl)
              rotate_left
              go_simp
              refine wpAny_take (i := 16) (v := ?_) rfl (by kernel_rfl) (by kernel_rfl) (by kernel_rfl) (fun _ _ _ h => h) (Or.inl ⟨by rfl, ?_⟩) ?_
              rotate_left
              · intro y; go_simp; try (with_reducible rfl)
              rotate_left
              go_simp
              refine wpAny_take (i := 17) (v := ?_) rfl (by kernel_rfl) (by kernel_rfl) (by kernel_rfl) (fun _ _ _ h => h) (Or.inl ⟨by rfl, ?_⟩) ?_
              rotate_left
              · intro y; go_simp; try (with_reducible rfl)
              rotate_left
              go_simp
              refine wpAny_take (i := 18) (v := ?_) rfl (by kernel_rfl) (by kernel_rfl) (by kernel_rfl) (fun _ _ _ h => h) (Or.inl ⟨by rfl, ?_⟩) ?_
              rotate_left
              · intro y; go_simp; try (with_reducible rfl)
              rotate_left
              go_simp
              refine wpAny_take (i := 20) (v := ?_) rfl (by kernel_rfl) (by kernel_rfl) (by kernel_rfl) (fun _ _ _ h => h) (Or.inl ⟨by rfl, ?_⟩) ?_
              rotate_left
              · intro y; go_simp; try (with_reducible rfl)
              rotate_left
              go_simp
              refine wpAny_ready (rs := [19, 21]) (by kernel_rfl) (by simp) ?_
              refine AllReady.cons rfl (fun K hK => ?_) ?_
              ·
                apply step_wpG
                · rfl
                refine ow_conv _ _ _ rfl _ _ rfl (C3 _ hk13) ?_
                apply hK
                clear hK K
                go_simp
                refine wpAny_ready (rs := [21]) (by kernel_rfl) (by simp) ?_
                refine AllReady.cons rfl (fun K hK => ?_) ?_
                ·
                  apply step_wpG
                  · rfl
                  refine ow_call _ _ _ (by kernel_rfl) (RS _ hk13) ?_
                  rintro e W21 ⟨v21, rfl, cv, hk21⟩
                  refine ⟨_, rfl, ?_⟩
                  apply hK
                  clear hK K
                  go_simp
                  refine wpAny_ready (rs := [22]) (by kernel_rfl) (by simp) ?_
                  refine AllReady.cons rfl (fun K hK => ?_) ?_
                  ·
                    apply step_wpG
                    · rfl
                    refine ow_conv _ _ _ rfl _ _ rfl cv ?_
                    clear cv
                    apply hK
                    clear hK K
                    go_simp
                    refine wpAny_take (i := 23) (v := ?_) rfl (by kernel_rfl) (by kernel_rfl) (by kernel_rfl) (fun _ _ _ h => h) (Or.inl ⟨by rfl, ?_⟩) ?_
                    rotate_left
                    · intro y; go_simp; try (with_reducible rfl)
                    rotate_left
                    go_simp
                    refine wpAny_take (i := 24) (v := ?_) rfl (by kernel_rfl) (by kernel_rfl) (by kernel_rfl) (fun _ _ _ h => h) (Or.inl ⟨by rfl, ?_⟩) ?_
                    rotate_left
                    · intro y; go_simp; try (with_reducible rfl)
                    rotate_left
                    go_simp
                    refine wpAny_take (i := 25) (v := ?_) rfl (by kernel_rfl) (by kernel_rfl) (by kernel_rfl) (fun _ _ _ h => h) (Or.inl ⟨by rfl, ?_⟩) ?_
                    rotate_left
                    · intro y; go_simp; try (with_reducible rfl)
                    rotate_left
                    go_simp
                    refine wpAny_done (by kernel_rfl) ?_ _
                    exact hR.out _ _ ⟨rfl, rfl, rfl, trivial⟩ hk21
                  exact AllReady.nil
                exact AllReady.nil
              refine AllReady.cons rfl (fun K hK => ?_) ?_
              ·
                apply step_wpG
                · rfl
                refine ow_call _ _ _ (by kernel_rfl) (RS _ hk13) ?_
                rintro e W21 ⟨v21, rfl, cv, hk21⟩
                refine ⟨_, rfl, ?_⟩
                apply hK
                clear hK K
                go_simp
                refine wpAny_ready (rs := [19, 22]) (by kernel_rfl) (by simp) ?_
                refine AllReady.cons rfl (fun K hK => ?_) ?_
                ·
                  apply step_wpG
                  · rfl
                  refine ow_conv _ _ _ rfl _ _ rfl (C3 _ hk21) ?_
                  apply hK
                  clear hK K
                  go_simp
                  refine wpAny_ready (rs := [22]) (by kernel_rfl) (by simp) ?_
                  refine AllReady.cons rfl (fun K hK => ?_) ?_
                  ·
                    apply step_wpG
                    · rfl
                    refine ow_conv _ _ _ rfl _ _ rfl cv ?_
                    clear cv
                    apply hK
                    clear hK K
                    go_simp
                    refine wpAny_take (i := 23) (v := ?_) rfl (by kernel_rfl) (by kernel_rfl) (by kernel_rfl) (fun _ _ _ h => h) (Or.inl ⟨by rfl, ?_⟩) ?_
                    rotate_left
                    · intro y; go_simp; try (with_reducible rfl)
                    rotate_left
                    go_simp
                    refine wpAny_take (i := 24) (v := ?_) rfl (by kernel_rfl) (by kernel_rfl) (by kernel_rfl) (fun _ _ _ h => h) (Or.inl ⟨by rfl, ?_⟩) ?_
                    rotate_left
                    · intro y; go_simp; try (with_reducible rfl)
                    rotate_left
                    go_simp
                    refine wpAny_take (i := 25) (v := ?_) rfl (by kernel_rfl) (by kernel_rfl) (by kernel_rfl) (fun _ _ _ h => h) (Or.inl ⟨by rfl, ?_⟩) ?_
                    rotate_left
                    · intro y; go_simp; try (with_reducible rfl)
                    rotate_left
                    go_simp
                    refine wpAny_done (by kernel_rfl) ?_ _
                    exact hR.out _ _ ⟨rfl, rfl, rfl, trivial⟩ hk21
                  exact AllReady.nil
                refine AllReady.cons rfl (fun K hK => ?_) ?_
                ·
                  apply step_wpG
                  · rfl
                  refine ow_conv _ _ _ rfl _ _ rfl cv ?_
                  clear cv
                  apply hK
                  clear hK K
                  go_simp
                  refine wpAny_ready (rs := [19]) (by kernel_rfl) (by simp) ?_
                  refine AllReady.cons rfl (fun K hK => ?_) ?_
                  ·
                    apply step_wpG
                    · rfl
                    refine ow_conv _ _ _ rfl _ _ rfl (C3 _ hk21) ?_
                    apply hK
                    clear hK K
                    go_simp
                    refine wpAny_take (i := 23) (v := ?_) rfl (by kernel_rfl) (by kernel_rfl) (by kernel_rfl) (fun _ _ _ h => h) (Or.inl ⟨by rfl, ?_⟩) ?_
                    rotate_left
                    · intro y; go_simp; try (with_reducible rfl)
                    rotate_left
                    go_simp
                    refine wpAny_take (i := 24) (v := ?_) rfl (by kernel_rfl) (by kernel_rfl) (by kernel_rfl) (fun _ _ _ h => h) (Or.inl ⟨by rfl, ?_⟩) ?_
                    rotate_left
                    · intro y; go_simp; try (with_reducible rfl)
                    rotate_left
                    go_simp
                    refine wpAny_take (i := 25) (v := ?_) rfl (by kernel_rfl) (by kernel_rfl) (by kernel_rfl) (fun _ _ _ h => h) (Or.inl ⟨by rfl, ?_⟩) ?_
                    rotate_left
                    · intro y; go_simp; try (with_reducible rfl)
                    rotate_left
                    go_simp
                    refine wpAny_done (by kernel_rfl) ?_ _
                    exact hR.out _ _ ⟨rfl, rfl, rfl, trivial⟩ hk21
                  exact AllReady.nil
                exact AllReady.nil
              exact AllReady.nil
            exact AllReady.nil
          refine AllReady.cons rfl (fun K hK => ?_) ?_
          ·
            apply step_wpG
            · rfl
            refine ow_conv _ _ _ rfl _ _ rfl cv ?_
            clear cv
            apply hK
            clear hK K
            go_simp
            refine wpAny_ready (rs := [9]) (by kernel_rfl) (by simp) ?_
            refine AllReady.cons rfl (fun K hK => ?_) ?_
            ·
              apply step_wpG
              · rfl
              refine ow_conv _ _ _ rfl _ _ rfl (C2 _ hk13) ?_
              apply hK
              clear hK K
              go_simp
              refine wpAny_take (i := 15) (v := ?_) rfl (by kernel_rfl) (by kernel_rfl) (by kernel_rfl) (fun _ _ _ h => h) (Or.inl ⟨by rfl, ?_⟩) ?_
              rotate_left
              · intro y; go_simp; try (with_reducible rfl)
              rotate_left
              go_simp
              refine wpAny_take (i := 16) (v := ?_) rfl (by kernel_rfl) (by kernel_rfl) (by kernel_rfl) (fun _ _ _ h => h) (Or.inl ⟨by rfl, ?_⟩) ?_
              rotate_left
              · intro y; go_simp; try (with_reducible rfl)
              rotate_left
              go_simp
              refine wpAny_take (i := 17) (v := ?_) rfl (by kernel_rfl) (by kernel_rfl) (by kernel_rfl) (fun _ _ _ h => h) (Or.inl ⟨by rfl, ?_⟩) ?_
              rotate_left
              · intro y; go_simp; try (with_reducible rfl)
              rotate_left
              go_simp
              refine wpAny_take (i := 18) (v := ?_) rfl (by kernel_rfl) (by kernel_rfl) (by kernel_rfl) (fun _ _ _ h => h) (Or.inl ⟨by rfl, ?_⟩) ?_
              rotate_left
              · intro y; go_simp; try (with_reducible rfl)
              rotate_left
              go_simp
              refine wpAny_take (i := 20) (v := ?_) rfl (by kernel_rfl) (by kernel_rfl) (by kernel_rfl) (fun _ _ _ h => h) (Or.inl ⟨by rfl, ?_⟩) ?_
              rotate_left
              · intro y; go_simp; try (with_reducible rfl)
              rotate_left
              go_simp
              refine wpAny_ready (rs := [19, 21]) (by kernel_rfl) (by simp) ?_
              refine AllReady.cons rfl (fun K hK => ?_) ?_
              ·
                apply step_wpG
                · rfl
                refine ow_conv _ _ _ rfl _ _ rfl (C3 _ hk13) ?_
                apply hK
                clear hK K
                go_simp
                refine wpAny_ready (rs := [21]) (by kernel_rfl) (by simp) ?_
                refine AllReady.cons rfl (fun K hK => ?_) ?_
                ·
                  apply step_wpG
                  · rfl
                  refine ow_call _ _ _ (by kernel_rfl) (RS _ hk13) ?_
                  rintro e W21 ⟨v21, rfl, cv, hk21⟩
                  refine ⟨_, rfl, ?_⟩
                  apply hK
                  clear hK K
                  go_simp
                  refine wpAny_ready (rs := [22]) (by kernel_rfl) (by simp) ?_
                  refine AllReady.cons rfl (fun K hK => ?_) ?_
                  ·
                    apply step_wpG
                    · rfl
                    refine ow_conv _ _ _ rfl _ _ rfl cv ?_
                    clear cv
                    apply hK
                    clear hK K
                    go_simp
                    refine wpAny_take (i := 23) (v := ?_) rfl (by kernel_rfl) (by kernel_rfl) (by kernel_rfl) (fun _ _ _ h => h) (Or.inl ⟨by rfl, ?_⟩) ?_
                    rotate_left
                    · intro y; go_simp; try (with_reducible rfl)
                    rotate_left
                    go_simp
                    refine wpAny_take (i := 24) (v := ?_) rfl (by kernel_rfl) (by kernel_rfl) (by kernel_rfl) (fun _ _ _ h => h) (Or.inl ⟨by rfl, ?_⟩) ?_
                    rotate_left
                    · intro y; go_simp; try (with_reducible rfl)
                    rotate_left
                    go_simp
                    refine wpAny_take (i := 25) (v := ?_) rfl (by kernel_rfl) (by kernel_rfl) (by kernel_rfl) (fun _ _ _ h => h) (Or.inl ⟨by rfl, ?_⟩) ?_
                    rotate_left
                    · intro y; go_simp; try (with_reducible rfl)
                    rotate_left
                    go_simp
                    refine wpAny_done (by kernel_rfl) ?_ _
                    exact hR.out _ _ ⟨rfl, rfl, rfl, trivial⟩ hk21
                  exact AllReady.nil
                exact AllReady.nil
              refine AllReady.cons rfl (fun K hK => ?_) ?_
              ·
                apply step_wpG
                · rfl
                refine ow_call _ _ _ (by kernel_rfl) (RS _ hk13) ?_
                rintro e W21 ⟨v21, rfl, cv, hk21⟩
                refine ⟨_, rfl, ?_⟩
                apply hK
                clear hK K
                go_simp
                refine wpAny_ready (rs := [19, 22]) (by kernel_rfl) (by simp) ?_
                refine AllReady.cons rfl (fun K hK => ?_) ?_
                ·
                  apply step_wpG
                  · rfl
                  refine ow_conv _ _ _ rfl _ _ rfl (C3 _ hk21) ?_
                  apply hK
                  clear hK K
                  go_simp
                  refine wpAny_ready (rs := [22]) (by kernel_rfl) (by simp) ?_
                  refine AllReady.cons rfl (fun K hK => ?_) ?_
                  ·
                    apply step_wpG
                    · rfl
                    refine ow_conv _ _ _ rfl _ _ rfl cv ?_
                    clear cv
                    apply hK
                    clear hK K
                    go_simp
                    refine wpAny_take (i := 23) (v := ?_) rfl (by kernel_rfl) (by kernel_rfl) (by kernel_rfl) (fun _ _ _ h => h) (Or.inl ⟨by rfl, ?_⟩) ?_
                    rotate_left
                    · intro y; go_simp; try (with_reducible rfl)
                    rotate_left
                    go_simp
                    refine wpAny_take (i := 24) (v := ?_) rfl (by kernel_rfl) (by kernel_rfl) (by kernel_rfl) (fun _ _ _ h => h) (Or.inl ⟨by rfl, ?_⟩) ?_
                    rotate_left
                    · intro y; go_simp; try (with_reducible rfl)
                    rotate_left
                    go_simp
                    refine wpAny_take (i := 25) (v := ?_) rfl (by kernel_rfl) (by kernel_rfl) (by kernel_rfl) (fun _ _ _ h => h) (Or.inl ⟨by rfl, ?_⟩) ?_
                    rotate_left
                    · intro y; go_simp; try (with_reducible rfl)
                    rotate_left
                    go_simp
                    refine wpAny_done (by kernel_rfl) ?_ _
                    exact hR.out _ _ ⟨rfl, rfl, rfl, trivial⟩ hk21
                  exact AllReady.nil
                refine AllReady.cons rfl (fun K hK => ?_) ?_
                ·
                  apply step_wpG
                  · rfl
                  refine ow_conv _ _ _ rfl _ _ rfl cv ?_
                  clear cv
                  apply hK
                  clear hK K
                  go_simp
                  refine wpAny_ready (rs := [19]) (by kernel_rfl) (by simp) ?_
                  refine AllReady.cons rfl (fun K hK => ?_) ?_
                  ·
                    apply step_wpG
                    · rfl
                    refine ow_conv _ _ _ rfl _ _ rfl (C3 _ hk21) ?_
                    apply hK
                    clear hK K
                    go_simp
                    refine wpAny_take (i := 23) (v := ?_) rfl (by kernel_rfl) (by kernel_rfl) (by kernel_rfl) (fun _ _ _ h => h) (Or.inl ⟨by rfl, ?_⟩) ?_
                    rotate_left
                    · intro y; go_simp; try (with_reducible rfl)
                    rotate_left
                    go_simp
                    refine wpAny_take (i := 24) (v := ?_) rfl (by kernel_rfl) (by kernel_rfl) (by kernel_rfl) (fun _ _ _ h => h) (Or.inl ⟨by rfl, ?_⟩) ?_
                    rotate_left
                    · intro y; go_simp; try (with_reducible rfl)
                    rotate_left
                    go_simp
                    refine wpAny_take (i := 25) (v := ?_) rfl (by kernel_rfl) (by kernel_rfl) (by kernel_rfl) (fun _ _ _ h => h) (Or.inl ⟨by rfl, ?_⟩) ?_
                    rotate_left
                    · intro y; go_simp; try (with_reducible rfl)
                    rotate_left
                    go_simp
                    refine wpAny_done (by kernel_rfl) ?_ _
                    exact hR.out _ _ ⟨rfl, rfl, rfl, trivial⟩ hk21
                  exact AllReady.nil
                exact AllReady.nil
              exact AllReady.nil
            exact AllReady.nil
          exact AllReady.nil
        exact AllReady.nil
      exact AllReady.nil
    refine AllReady.cons rfl (fun K hK => ?_) ?_
    ·
      apply step_wp
      · rfl
      refine ow_conv _ _ _ rfl _ _ rfl cv ?_
      clear cv
      apply hK
      clear hK K
      go_simp
      refine wpAny_ready (rs := [1]) (by kernel_rfl) (by simp) ?_
      refine AllReady.cons rfl (fun K hK => ?_) ?_
      ·
        apply step_wp
        · rfl
        refine ow_conv _ _ _ rfl _ _ rfl (C1 _ hk4) ?_
        apply hK
        clear hK K
        go_simp
        refine wpAny_take (i := 6) (v := ?_) rfl (by kernel_rfl) (by kernel_rfl) (by kernel_rfl) (fun _ _ _ h => h) (Or.inl ⟨by rfl, ?_⟩) ?_
        rotate_left
        · intro y; go_simp; try (with_reducible rfl)
        rotate_left
        go_simp
        refine wpAny_take (i := 7) (v := ?_) rfl (by kernel_rfl) (by kernel_rfl) (by kernel_rfl) (fun _ _ _ h => h) (Or.inl ⟨by rfl, ?_⟩) ?_
        rotate_left
        · intro y; go_simp; try (with_reducible rfl)
        rotate_left
        go_simp
        refine wpAny_take (i := 8) (v := ?_) rfl (by kernel_rfl) (by kernel_rfl) (by kernel_rfl) (fun _ _ _ h => h) (Or.inl ⟨by rfl, ?_⟩) ?_
        rotate_left
        · intro y; go_simp; try (with_reducible rfl)
        rotate_left
        go_simp
        refine wpAny_take (i := 10) (v := ?_) rfl (by kernel_rfl) (by kernel_rfl) (by kernel_rfl) (fun _ _ _ h => h) (Or.inl ⟨by rfl, ?_⟩) ?_
        rotate_left
        · intro y; go_simp; try (with_reducible rfl)
        rotate_left
        go_simp
        refine wpAny_take (i := 11) (v := ?_) rfl (by kernel_rfl) (by kernel_rfl) (by kernel_rfl) (fun _ _ _ h => h) (Or.inl ⟨by rfl, ?_⟩) ?_
        rotate_left
        · intro y; go_simp; try (with_reducible rfl)
        rotate_left
        go_simp
        refine wpAny_take (i := 12) (v := ?_) rfl (by kernel_rfl) (by kernel_rfl) (by kernel_rfl) (fun _ _ _ h => h) (Or.inl ⟨by rfl, ?_⟩) ?_
        rotate_left
        · intro y; go_simp; try (with_reducible rfl)
        rotate_left
        go_simp
        refine wpAny_ready (rs := [9, 13]) (by kernel_rfl) (by simp) ?_
        refine AllReady.cons rfl (fun K hK => ?_) ?_
        ·
          apply step_wpG
          · rfl
          refine ow_conv _ _ _ rfl _ _ rfl (C2 _ hk4) ?_
          apply hK
          clear hK K
          go_simp
          refine wpAny_ready (rs := [13]) (by kernel_rfl) (by simp) ?_
          refine AllReady.cons rfl (fun K hK => ?_) ?_
          ·
            apply step_wpG
            · rfl
            refine ow_call _ _ _ (by kernel_rfl) (RD _ hk4) ?_
            rintro e W13 ⟨v13, rfl, cv, hk13⟩
            refine ⟨_, rfl, ?_⟩
            apply hK
            clear hK K
            go_simp
            refine wpAny_ready (rs := [14]) (by kernel_rfl) (by simp) ?_
            refine AllReady.cons rfl (fun K hK => ?_) ?_
            ·
              apply step_wpG
              · rfl
              refine ow_conv _ _ _ rfl _ _ rfl cv ?_
              clear cv
              apply hK
              clear hK K
              go_simp
              refine wpAny_take (i := 15) (v := ?_) rfl (by kernel_rfl) (by kernel_rfl) (by kernel_rfl) (fun _ _ _ h => h) (Or.inl ⟨by rfl, ?_⟩) ?_
              rotate_left
              · intro y; go_simp; try (with_reducible rfl)
              rotate_left
              go_simp
              refine wpAny_take (i := 16) (v := ?_) rfl (by kernel_rfl) (by kernel_rfl) (by kernel_rfl) (fun _ _ _ h => h) (Or.inl ⟨by rfl, ?_⟩) ?_
              rotate_left
              · intro y; go_simp; try (with_reducible rfl)
              rotate_left
              go_simp
              refine wpAny_take (i := 17) (v := ?_) rfl (by kernel_rfl) (by kernel_rfl) (by kernel_rfl) (fun _ _ _ h => h) (Or.inl ⟨by rfl, ?_⟩) ?_
              rotate_left
              · intro y; go_simp; try (with_reducible rfl)
              rotate_left
              go_simp
              refine wpAny_take (i := 18) (v := ?_) rfl (by kernel_rfl) (by kernel_rfl) (by kernel_rfl) (fun _ _ _ h => h) (Or.inl ⟨by rfl, ?_⟩) ?_
              rotate_left
              · intro y; go_simp; try (with_reducible rfl)
              rotate_left
              go_simp
              refine wpAny_take (i := 20) (v := ?_) rfl (by kernel_rfl) (by kernel_rfl) (by kernel_rfl) (fun _ _ _ h => h) (Or.inl ⟨by rfl, ?_⟩) ?_
              rotate_left
              · intro y; go_simp; try (with_reducible rfl)
              rotate_left
              go_simp
              refine wpAny_ready (rs := [19, 21]) (by kernel_rfl) (by simp) ?_
              refine AllReady.cons rfl (fun K hK => ?_) ?_
              ·
                apply step_wpG
                · rfl
                refine ow_conv _ _ _ rfl _ _ rfl (C3 _ hk13) ?_
                apply hK
                clear hK K
                go_simp
                refine wpAny_ready (rs := [21]) (by kernel_rfl) (by simp) ?_
                refine AllReady.cons rfl (fun K hK => ?_) ?_
                ·
                  apply step_wpG
                  · rfl
                  refine ow_call _ _ _ (by kernel_rfl) (RS _ hk13) ?_
                  rintro e W21 ⟨v21, rfl, cv, hk21⟩
                  refine ⟨_, rfl, ?_⟩
                  apply hK
                  clear hK K
                  go_simp
                  refine wpAny_ready (rs := [22]) (by kernel_rfl) (by simp) ?_
                  refine AllReady.cons rfl (fun K hK => ?_) ?_
                  ·
                    apply step_wpG
                    · rfl
                    refine ow_conv _ _ _ rfl _ _ rfl cv ?_
                    clear cv
                    apply hK
                    clear hK K
                    go_simp
                    refine wpAny_take (i := 23) (v := ?_) rfl (by kernel_rfl) (by kernel_rfl) (by kernel_rfl) (fun _ _ _ h => h) (Or.inl ⟨by rfl, ?_⟩) ?_
                    rotate_left
                    · intro y; go_simp; try (with_reducible rfl)
                    rotate_left
                    go_simp
                    refine wpAny_take (i := 24) (v := ?_) rfl (by kernel_rfl) (by kernel_rfl) (by kernel_rfl) (fun _ _ _ h => h) (Or.inl ⟨by rfl, ?_⟩) ?_
                    rotate_left
                    · intro y; go_simp; try (with_reducible rfl)
                    rotate_left
                    go_simp
                    refine wpAny_take (i := 25) (v := ?_) rfl (by kernel_rfl) (by kernel_rfl) (by kernel_rfl) (fun _ _ _ h => h) (Or.inl ⟨by rfl, ?_⟩) ?_
                    rotate_left
                    · intro y; go_simp; try (with_reducible rfl)
                    rotate_left
                    go_simp
                    refine wpAny_done (by kernel_rfl) ?_ _
                    exact hR.out _ _ ⟨rfl, rfl, rfl, trivial⟩ hk21
                  exact AllReady.nil
                exact AllReady.nil
              refine AllReady.cons rfl (fun K hK => ?_) ?_
              ·
                apply step_wpG
                · rfl
                refine ow_call _ _ _ (by kernel_rfl) (RS _ hk13) ?_
                rintro e W21 ⟨v21, rfl, cv, hk21⟩
                refine ⟨_, rfl, ?_⟩
                apply hK
                clear hK K
                go_simp
                refine wpAny_ready (rs := [19, 22]) (by kernel_rfl) (by simp) ?_
                refine AllReady.cons rfl (fun K hK => ?_) ?_
                ·
                  apply step_wpG
                  · rfl
                  refine ow_conv _ _ _ rfl _ _ rfl (C3 _ hk21) ?_
                  apply hK
                  clear hK K
                  go_simp
                  refine wpAny_ready (rs := [22]) (by kernel_rfl) (by simp) ?_
                  refine AllReady.cons rfl (fun K hK => ?_) ?_
                  ·
                    apply step_wpG
                    · rfl
                    refine ow_conv _ _ _ rfl _ _ rfl cv ?_
                    clear cv
                    apply hK
                    clear hK K
                    go_simp
                    refine wpAny_take (i := 23) (v := ?_) rfl (by kernel_rfl) (by kernel_rfl) (by kernel_rfl) (fun _ _ _ h => h) (Or.inl ⟨by rfl, ?_⟩) ?_
                    rotate_left
                    · intro y; go_simp; try (with_reducible rfl)
                    rotate_left
                    go_simp
                    refine wpAny_take (i := 24) (v := ?_) rfl (by kernel_rfl) (by kernel_rfl) (by kernel_rfl) (fun _ _ _ h => h) (Or.inl ⟨by rfl, ?_⟩) ?_
                    rotate_left
                    · intro y; go_simp; try (with_reducible rfl)
                    rotate_left
                    go_simp
                    refine wpAny_take (i := 25) (v := ?_) rfl (by kernel_rfl) (by kernel_rfl) (by kernel_rfl) (fun _ _ _ h => h) (Or.inl ⟨by rfl, ?_⟩) ?_
                    rotate_left
                    · intro y; go_simp; try (with_reducible rfl)
                    rotate_left
                    go_simp
                    refine wpAny_done (by kernel_rfl) ?_ _
                    exact hR.out _ _ ⟨rfl, rfl, rfl, trivial⟩ hk21
                  exact AllReady.nil
                refine AllReady.cons rfl (fun K hK => ?_) ?_
                ·
                  apply step_wpG
                  · rfl
                  refine ow_conv _ _ _ rfl _ _ rfl cv ?_
                  clear cv
                  apply hK
                  clear hK K
                  go_simp
                  refine wpAny_ready (rs := [19]) (by kernel_rfl) (by simp) ?_
                  refine AllReady.cons rfl (fun K hK => ?_) ?_
                  ·
                    apply step_wpG
                    · rfl
                    refine ow_conv _ _ _ rfl _ _ rfl (C3 _ hk21) ?_
                    apply hK
                    clear hK K
                    go_simp
                    refine wpAny_take (i := 23) (v := ?_) rfl (by kernel_rfl) (by kernel_rfl) (by kernel_rfl) (fun _ _ _ h => h) (Or.inl ⟨by rfl, ?_⟩) ?_
                    rotate_left
                    · intro y; go_simp; try (with_reducible rfl)
                    rotate_left
                    go_simp
                    refine wpAny_take (i := 24) (v := ?_) rfl (by kernel_rfl) (by kernel_rfl) (by kernel_rfl) (fun _ _ _ h => h) (Or.inl ⟨by rfl, ?_⟩) ?_
                    rotate_left
                    · intro y; go_simp; try (with_reducible rfl)
                    rotate_left
                    go_simp
                    refine wpAny_take (i := 25) (v := ?_) rfl (by kernel_rfl) (by kernel_rfl) (by kernel_rfl) (fun _ _ _ h => h) (Or.inl ⟨by rfl, ?_⟩) ?_
                    rotate_left
                    · intro y; go_simp; try (with_reducible rfl)
                    rotate_left
                    go_simp
                    refine wpAny_done (by kernel_rfl) ?_ _
                    exact hR.out _ _ ⟨rfl, rfl, rfl, trivial⟩ hk21
                  exact AllReady.nil
                exact AllReady.nil
              exact AllReady.nil
            exact AllReady.nil
          exact AllReady.nil
        refine AllReady.cons rfl (fun K hK => ?_) ?_
        ·
          apply step_wpG
          · rfl
          refine ow_call _ _ _ (by kernel_rfl) (RD _ hk4) ?_
          rintro e W13 ⟨v13, rfl, cv, hk13⟩
          refine ⟨_, rfl, ?_⟩
          apply hK
          clear hK K
          go_simp
          refine wpAny_ready (rs := [9, 14]) (by kernel_rfl) (by simp) ?_
          refine AllReady.cons rfl (fun K hK => ?_) ?_
          ·
            apply step_wpG
            · rfl
            refine ow_conv _ _ _ rfl _ _ rfl (C2 _ hk13) ?_
            apply hK
            clear hK K
            go_simp
            refine wpAny_ready (rs := [14]) (by kernel_rfl) (by simp) ?_
            refine AllReady.cons rfl (fun K hK => ?_) ?_
            ·
              apply step_wpG
              · rfl
              refine ow_conv _ _ _ rfl _ _ rfl cv ?_
              clear cv
              apply hK
              clear hK K
              go_simp
              refine wpAny_take (i := 15) (v := ?_) rfl (by kernel_rfl) (by kernel_rfl) (by kernel_rfl) (fun _ _ _ h => h) (Or.inl ⟨by rfl, ?_⟩) ?_
              rotate_left
              · intro y; go_simp; try (with_reducible rfl)
              rotate_left
              go_simp
              refine wpAny_take (i := 16) (v := ?_) rfl (by kernel_rfl) (by kernel_rfl) (by kernel_rfl) (fun _ _ _ h => h) (Or.inl ⟨by rfl, ?_⟩) ?_
              rotate_left
              · intro y; go_simp; try (with_reducible rfl)
              rotate_left
              go_simp
              refine wpAny_take (i := 17) (v := ?_) rfl (by kernel_rfl) (by kernel_rfl) (by kernel_rfl) (fun _ _ _ h => h) (Or.inl ⟨by rfl, ?_⟩) ?_
              rotate_left
              · intro y; go_simp; try (with_reducible rfl)
              rotate_left
              go_simp
              refine wpAny_take (i := 18) (v := ?_) rfl (by kernel_rfl) (by kernel_rfl) (by kernel_rfl) (fun _ _ _ h => h) (Or.inl ⟨by rfl, ?_⟩) ?_
              rotate_left
              · intro y; go_simp; try (with_reducible rfl)
              rotate_left
              go_simp
              refine wpAny_take (i := 20) (v := ?_) rfl (by kernel_rfl) (by kernel_rfl) (by kernel_rfl) (fun _ _ _ h => h) (Or.inl ⟨by rfl, ?_⟩) ?_
              rotate_left
              · intro y; go_simp; try (with_reducible rfl)
              rotate_left
              go_simp
              refine wpAny_ready (rs := [19, 21]) (by kernel_rfl) (by simp) ?_
              refine AllReady.cons rfl (fun K hK => ?_) ?_
              ·
                apply step_wpG
                · rfl
                refine ow_conv _ _ _ rfl _ _ rfl (C3 _ hk13) ?_
                apply hK
                clear hK K
                go_simp
                refine wpAny_ready (rs := [21]) (by kernel_rfl) (by simp) ?_
                refine AllReady.cons rfl (fun K hK => ?_) ?_
                ·
                  apply step_wpG
                  · rfl
                  refine ow_call _ _ _ (by kernel_rfl) (RS _ hk13) ?_
                  rintro e W21 ⟨v21, rfl, cv, hk21⟩
                  refine ⟨_, rfl, ?_⟩
                  apply hK
                  clear hK K
                  go_simp
                  refine wpAny_ready (rs := [22]) (by kernel_rfl) (by simp) ?_
                  refine AllReady.cons rfl (fun K hK => ?_) ?_
                  ·
                    apply step_wpG
                    · rfl
                    refine ow_conv _ _ _ rfl _ _ rfl cv ?_
                    clear cv
                    apply hK
                    clear hK K
                    go_simp
                    refine wpAny_take (i := 23) (v := ?_) rfl (by kernel_rfl) (by kernel_rfl) (by kernel_rfl) (fun _ _ _ h => h) (Or.inl ⟨by rfl, ?_⟩) ?_
                    rotate_left
                    · intro y; go_simp; try (with_reducible rfl)
                    rotate_left
                    go_simp
                    refine wpAny_take (i := 24) (v := ?_) rfl (by kernel_rfl) (by kernel_rfl) (by kernel_rfl) (fun _ _ _ h => h) (Or.inl ⟨by rfl, ?_⟩) ?_
                    rotate_left
                    · intro y; go_simp; try (with_reducible rfl)
                    rotate_left
                    go_simp
                    refine wpAny_take (i := 25) (v := ?_) rfl (by kernel_rfl) (by kernel_rfl) (by kernel_rfl) (fun _ _ _ h => h) (Or.inl ⟨by rfl, ?_⟩) ?_
                    rotate_left
                    · intro y; go_simp; try (with_reducible rfl)
                    rotate_left
                    go_simp
                    refine wpAny_done (by kernel_rfl) ?_ _
                    exact hR.out _ _ ⟨rfl, rfl, rfl, trivial⟩ hk21
                  exact AllReady.nil
                exact AllReady.nil
              refine AllReady.cons rfl (fun K hK => ?_) ?_
              ·
                apply step_wpG
                · rfl
                refine ow_call _ _ _ (by kernel_rfl) (RS _ hk13) ?_
                rintro e W21 ⟨v21, rfl, cv, hk21⟩
                refine ⟨_, rfl, ?_⟩
                apply hK
                clear hK K
                go_simp
                refine wpAny_ready (rs := [19, 22]) (by kernel_rfl) (by simp) ?_
                refine AllReady.cons rfl (fun K hK => ?_) ?_
                ·
                  apply step_wpG
                  · rfl
                  refine ow_conv _ _ _ rfl _ _ rfl (C3 _ hk21) ?_
                  apply hK
                  clear hK K
                  go_simp
                  refine wpAny_ready (rs := [22]) (by kernel_rfl) (by simp) ?_
                  refine AllReady.cons rfl (fun K hK => ?_) ?_
                  ·
                    apply step_wpG
                    · rfl
                    refine ow_conv _ _ _ rfl _ _ rfl cv ?_
                    clear cv
                    apply hK
                    clear hK K
                    go_simp
                    refine wpAny_take (i := 23) (v := ?_) rfl (by kernel_rfl) (by kernel_rfl) (by kernel_rfl) (fun _ _ _ h => h) (Or.inl ⟨by rfl, ?_⟩) ?_
                    rotate_left
                    · intro y; go_simp; try (with_reducible rfl)
                    rotate_left
                    go_simp
                    refine wpAny_take (i := 24) (v := ?_) rfl (by kernel_rfl) (by kernel_rfl) (by kernel_rfl) (fun _ _ _ h => h) (Or.inl ⟨by rfl, ?_⟩) ?_
                    rotate_left
                    · intro y; go_simp; try (with_reducible rfl)
                    rotate_left
                    go_simp
                    refine wpAny_take (i := 25) (v := ?_) rfl (by kernel_rfl) (by kernel_rfl) (by kernel_rfl) (fun _ _ _ h => h) (Or.inl ⟨by rfl, ?_⟩) ?_
                    rotate_left
                    · intro y; go_simp; try (with_reducible rfl)
                    rotate_left
                    go_simp
                    refine wpAny_done (by kernel_rfl) ?_ _
                    exact hR.out _ _ ⟨rfl, rfl, rfl, trivial⟩ hk21
                  exact AllReady.nil
                refine AllReady.cons rfl (fun K hK => ?_) ?_
                ·
                  apply step_wpG
                  · rfl
                  refine ow_conv _ _ _ rfl _ _ rfl cv ?_
                  clear cv
                  apply hK
                  clear hK K
                  go_simp
                  refine wpAny_ready (rs := [19]) (by kernel_rfl) (by simp) ?_
                  refine AllReady.cons rfl (fun K hK => ?_) ?_
                  ·
                    apply step_wpG
                    · rfl
                    refine ow_conv _ _ _ rfl _ _ rfl (C3 _ hk21) ?_
                    apply hK
                    clear hK K
                    go_simp
                    refine wpAny_take (i := 23) (v := ?_) rfl (by kernel_rfl) (by kernel_rfl) (by kernel_rfl) (fun _ _ _ h => h) (Or.inl ⟨by rfl, ?_⟩) ?_
                    rotate_left
                    · intro y; go_simp; try (with_reducible rfl)
                    rotate_left
                    go_simp
                    refine wpAny_take (i := 24) (v := ?_) rfl (by kernel_rfl) (by kernel_rfl) (by kernel_rfl) (fun _ _ _ h => h) (Or.inl ⟨by rfl, ?_⟩) ?_
                    rotate_left
                    · intro y; go_simp; try (with_reducible rfl)
                    rotate_left
                    go_simp
                    refine wpAny_take (i := 25) (v := ?_) rfl (by kernel_rfl) (by kernel_rfl) (by kernel_rfl) (fun _ _ _ h => h) (Or.inl ⟨by rfl, ?_⟩) ?_
                    rotate_left
                    · intro y; go_simp; try (with_reducible rfl)
                    rotate_left
                    go_simp
                    refine wpAny_done (by kernel_rfl) ?_ _
                    exact hR.out _ _ ⟨rfl, rfl, rfl, trivial⟩ hk21
                  exact AllReady.nil
                exact AllReady.nil
              exact AllReady.nil
            exact AllReady.nil
          refine AllReady.cons rfl (fun K hK => ?_) ?_
          ·
            apply step_wpG
            · rfl
            refine ow_conv _ _ _ rfl _ _ rfl cv ?_
            clear cv
            apply hK
            clear hK K
            go_simp
            refine wpAny_ready (rs := [9]) (by kernel_rfl) (by simp) ?_
            refine AllReady.cons rfl (fun K hK => ?_) ?_
            ·
              apply step_wpG
              · rfl
              refine ow_conv _ _ _ rfl _ _ rfl (C2 _ hk13) ?_
              apply hK
              clear hK K
              go_simp
              refine wpAny_take (i := 15) (v := ?_) rfl (by kernel_rfl) (by kernel_rfl) (by kernel_rfl) (fun _ _ _ h => h) (Or.inl ⟨by rfl, ?_⟩) ?_
              rotate_left
              · intro y; go_simp; try (with_reducible rfl)
              rotate_left
              go_simp
              refine wpAny_take (i := 16) (v := ?_) rfl (by kernel_rfl) (by kernel_rfl) (by kernel_rfl) (fun _ _ _ h => h) (Or.inl ⟨by rfl, ?_⟩) ?_
              rotate_left
              · intro y; go_simp; try (with_reducible rfl)
              rotate_left
              go_simp
              refine wpAny_take (i := 17) (v := ?_) rfl (by kernel_rfl) (by kernel_rfl) (by kernel_rfl) (fun _ _ _ h => h) (Or.inl ⟨by rfl, ?_⟩) ?_
              rotate_left
              · intro y; go_simp; try (with_reducible rfl)
              rotate_left
              go_simp
              refine wpAny_take (i := 18) (v := ?_) rfl (by kernel_rfl) (by kernel_rfl) (by kernel_rfl) (fun _ _ _ h => h) (Or.inl ⟨by rfl, ?_⟩) ?_
              rotate_left
              · intro y; go_simp; try (with_reducible rfl)
              rotate_left
              go_simp
              refine wpAny_take (i := 20) (v := ?_) rfl (by kernel_rfl) (by kernel_rfl) (by kernel_rfl) (fun _ _ _ h => h) (Or.inl ⟨by rfl, ?_⟩) ?_
              rotate_left
              · intro y; go_simp; try (with_reducible rfl)
              rotate_left
              go_simp
              refine wpAny_ready (rs := [19, 21]) (by kernel_rfl) (by simp) ?_
              refine AllReady.cons rfl (fun K hK => ?_) ?_
              ·
                apply step_wpG
                · rfl
                refine ow_conv _ _ _ rfl _ _ rfl (C3 _ hk13) ?_
                apply hK
                clear hK K
                go_simp
                refine wpAny_ready (rs := [21]) (by kernel_rfl) (by simp) ?_
                refine AllReady.cons rfl (fun K hK => ?_) ?_
                ·
                  apply step_wpG
                  · rfl
                  refine ow_call _ _ _ (by kernel_rfl) (RS _ hk13) ?_
                  rintro e W21 ⟨v21, rfl, cv, hk21⟩
                  refine ⟨_, rfl, ?_⟩
                  apply hK
                  clear hK K
                  go_simp
                  refine wpAny_ready (rs := [22]) (by kernel_rfl) (by simp) ?_
                  refine AllReady.cons rfl (fun K hK => ?_) ?_
                  ·
                    apply step_wpG
                    · rfl
                    refine ow_conv _ _ _ rfl _ _ rfl cv ?_
                    clear cv
                    apply hK
                    clear hK K
                    go_simp
                    refine wpAny_take (i := 23) (v := ?_) rfl (by kernel_rfl) (by kernel_rfl) (by kernel_rfl) (fun _ _ _ h => h) (Or.inl ⟨by rfl, ?_⟩) ?_
                    rotate_left
                    · intro y; go_simp; try (with_reducible rfl)
                    rotate_left
                    go_simp
                    refine wpAny_take (i := 24) (v := ?_) rfl (by kernel_rfl) (by kernel_rfl) (by kernel_rfl) (fun _ _ _ h => h) (Or.inl ⟨by rfl, ?_⟩) ?_
                    rotate_left
                    · intro y; go_simp; try (with_reducible rfl)
                    rotate_left
                    go_simp
                    refine wpAny_take (i := 25) (v := ?_) rfl (by kernel_rfl) (by kernel_rfl) (by kernel_rfl) (fun _ _ _ h => h) (Or.inl ⟨by rfl, ?_⟩) ?_
                    rotate_left
                    · intro y; go_simp; try (with_reducible rfl)
                    rotate_left
                    go_simp
                    refine wpAny_done (by kernel_rfl) ?_ _
                    exact hR.out _ _ ⟨rfl, rfl, rfl, trivial⟩ hk21
                  exact AllReady.nil
                exact AllReady.nil
              refine AllReady.cons rfl (fun K hK => ?_) ?_
              ·
                apply step_wpG
                · rfl
                refine ow_call _ _ _ (by kernel_rfl) (RS _ hk13) ?_
                rintro e W21 ⟨v21, rfl, cv, hk21⟩
                refine ⟨_, rfl, ?_⟩
                apply hK
                clear hK K
                go_simp
                refine wpAny_ready (rs := [19, 22]) (by kernel_rfl) (by simp) ?_
                refine AllReady.cons rfl (fun K hK => ?_) ?_
                ·
                  apply step_wpG
                  · rfl
                  refine ow_conv _ _ _ rfl _ _ rfl (C3 _ hk21) ?_
                  apply hK
                  clear hK K
                  go_simp
                  refine wpAny_ready (rs := [22]) (by kernel_rfl) (by simp) ?_
                  refine AllReady.cons rfl (fun K hK => ?_) ?_
                  ·
                    apply step_wpG
                    · rfl
                    refine ow_conv _ _ _ rfl _ _ rfl cv ?_
                    clear cv
                    apply hK
                    clear hK K
                    go_simp
                    refine wpAny_take (i := 23) (v := ?_) rfl (by kernel_rfl) (by kernel_rfl) (by kernel_rfl) (fun _ _ _ h => h) (Or.inl ⟨by rfl, ?_⟩) ?_
                    rotate_left
                    · intro y; go_simp; try (with_reducible rfl)
                    rotate_left
                    go_simp
                    refine wpAny_take (i := 24) (v := ?_) rfl (by kernel_rfl) (by kernel_rfl) (by kernel_rfl) (fun _ _ _ h => h) (Or.inl ⟨by rfl, ?_⟩) ?_
                    rotate_left
                    · intro y; go_simp; try (with_reducible rfl)
                    rotate_left
                    go_simp
                    refine wpAny_take (i := 25) (v := ?_) rfl (by kernel_rfl) (by kernel_rfl) (by kernel_rfl) (fun _ _ _ h => h) (Or.inl ⟨by rfl, ?_⟩) ?_
                    rotate_left
                    · intro y; go_simp; try (with_reducible rfl)
                    rotate_left
                    go_simp
                    refine wpAny_done (by kernel_rfl) ?_ _
                    exact hR.out _ _ ⟨rfl, rfl, rfl, trivial⟩ hk21
                  exact AllReady.nil
                refine AllReady.cons rfl (fun K hK => ?_) ?_
                ·
                  apply step_wpG
                  · rfl
                  refine ow_conv _ _ _ rfl _ _ rfl cv ?_
                  clear cv
                  apply hK
                  clear hK K
                  go_simp
                  refine wpAny_ready (rs := [19]) (by kernel_rfl) (by simp) ?_
                  refine AllReady.cons rfl (fun K hK => ?_) ?_
                  ·
                    apply step_wpG
                    · rfl
                    refine ow_conv _ _ _ rfl _ _ rfl (C3 _ hk21) ?_
                    apply hK
                    clear hK K
                    go_simp
                    refine wpAny_take (i := 23) (v := ?_) rfl (by kernel_rfl) (by kernel_rfl) (by kernel_rfl) (fun _ _ _ h => h) (Or.inl ⟨by rfl, ?_⟩) ?_
                    rotate_left
                    · intro y; go_simp; try (with_reducible rfl)
                    rotate_left
                    go_simp
                    refine wpAny_take (i := 24) (v := ?_) rfl (by kernel_rfl) (by kernel_rfl) (by kernel_rfl) (fun _ _ _ h => h) (Or.inl ⟨by rfl, ?_⟩) ?_
                    rotate_left
                    · intro y; go_simp; try (with_reducible rfl)
                    rotate_left
                    go_simp
                    refine wpAny_take (i := 25) (v := ?_) rfl (by kernel_rfl) (by kernel_rfl) (by kernel_rfl) (fun _ _ _ h => h) (Or.inl ⟨by rfl, ?_⟩) ?_
                    rotate_left
                    · intro y; go_simp; try (with_reducible rfl)
                    rotate_left
                    go_simp
                    refine wpAny_done (by kernel_rfl) ?_ _
                    exact hR.out _ _ ⟨rfl, rfl, rfl, trivial⟩ hk21
                  exact AllReady.nil
                exact AllReady.nil
              exact AllReady.nil
            exact AllReady.nil
          exact AllReady.nil
        exact AllReady.nil
      exact AllReady.nil
    exact AllReady.nil
  exact AllReady.nil

end Go.Proofs.Ytiiifcfgfmoiaaa
