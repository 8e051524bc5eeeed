/-
  The landed kdf: Expand's mark.
-/
import Derived.Test.YtiiifcfgfmoiaaaKdf2
import Derived.Test.YtiiifcfgfmoiaaaOps
import Derived.Test.YtiiifcfgfmoiaaaOpens2
namespace Go.Proofs.Ytiiifcfgfmoiaaa
open Go.RowKit

theorem Pl.three {w : World} {g t : Nat} {v1 v2 v3 : Value} {l1 l2 l3 : List Int} (hb : Blk w g t #[v1, v2, v3]) (h1 : Sl .u8 w v1 l1) (h2 : Sl .u8 w v2 l2) (h3 : Sl .u8 w v3 l3) : Pl w (.slice (some ⟨g, 0, none⟩) 3 3) [l1, l2, l3] := by
  refine ⟨[v1, v2, v3], _, 3, rfl, rfl, Nat.le_refl 3, by decide, by simpa using Rd.of_blk hb, fun j hj => ?_⟩
  rcases (show j = 0 ∨ j = 1 ∨ j = 2 by simp at hj; omega) with rfl | rfl | rfl
  · exact h1
  · exact h2
  · exact h3
theorem KS.cell {w : World} {k t : Nat} (h : KS w k t) : w.cell? ⟨k, 0, none⟩ = some (.pointer (some ⟨t, 0, none⟩)) := by
  obtain ⟨cs, hb, rfl, _, _⟩ := h
  exact hb.cell 0
theorem KS.ne {w : World} {k t : Nat} (h : KS w k t) : k ≠ t := by obtain ⟨cs, _, _, _, hn⟩ := h; exact hn
/-- What was new before stays. -/
theorem Blk.on {w W W' : World} {n t ty : Nat} {cs : Array Value} (h : Blk W n ty cs) (k : Keep [t] W W') (h1 : w.heap.size ≤ n) (h2 : t < w.heap.size) : Blk W' n ty cs := h.keep k (by simp; omega)

noncomputable def hexp11 : Code := regionOf Try.f9 11

set_option maxRecDepth 100000 in
set_option maxHeartbeats 4000000 in
theorem exp_reg11 (R : Act → World → Prop) (a : Act) (w2 : World) (k t b : Nat) (lA aA : Option Addr) (LL lc AL ac : Nat) (ll al sl : List Int) (i : Int) (v10 v11 : Value) (D0 D : Array Value)
    (hK : Hid (KS w2 k t)) (hB : Hid (Blk w2 b 23 D0)) (hD0 : Hid (D0 = (sl.map (Value.int .u8)).toArray)) (hs : Hid (Secr sl)) (hL : Hid (Sl .u8 w2 (.slice lA LL lc) ll)) (hA : Hid (Sl .u8 w2 (.slice aA AL ac) al))
    (hi : (Lit.int .u8 i).wf = true) (hll : Hid (ll.length ≤ 32)) (hal : Hid (al.length ≤ 10000)) (hD : Hid (D = ((Sha.mark sl (ll ++ al ++ [i])).map (Value.int .u8)).toArray))
    (hF : Fr 49 [(0, .pointer (some ⟨k, 0, none⟩)), (2, .slice aA AL ac), (5, .pointer (some ⟨b, 0, none⟩)), (10, v10), (11, v11), (12, .slice lA LL lc), (13, .int .u8 i)] a)
    (hR : Hid (∀ a' w' m, Fr 49 [(0, .pointer (some ⟨k, 0, none⟩)), (2, .slice aA AL ac), (5, .pointer (some ⟨b, 0, none⟩)), (10, v10), (11, v11), (13, .int .u8 i), (14, .pointer (some ⟨m, 0, none⟩))] a' → w2.heap.size ≤ m → Blk w' m 22 D → TS w' t → Keep [t] w2 w' → R a' w')) :
    Code.wp Try.prog hexp11 (OutN R) a w2 := by
  obtain ⟨Z, hZ, hZs, hZi⟩ := u8x32
  have HZS := Lib.hid hZs
  have HZI := Lib.hid hZi
  have HDS := Lib.hid (show D.size = 32 by rw [hD.out]; simp [mark_length])
  have HD1 := Lib.hid (show D.all (·.oneCell') = true by rw [hD.out]; exact arr_cell _)
  have HTL := Lib.hid hK.out.lt.2
  have HI := Lib.hid hi
  clear hZ hZs hZi hi
  have LD : ∀ W, Keep [] w2 W → (loadVar 39 ⟨k, 0, none⟩).run Try.prog W = .ok (.pointer (some ⟨t, 0, none⟩)) W := by
    intro W hk
    have hc := (hK.out.keep0 hk).cell
    simp [go_sem, hc]
  have MK : ∀ W n8 n9, Keep [] w2 W → Blk W n8 5 #[.int .u8 i] → Blk W n9 24 #[.slice lA LL lc, .slice aA AL ac, .slice (some ⟨n8, 0, none⟩) 1 1] →
      Calls Try.prog 21 #[.pointer (some ⟨t, 0, none⟩), .slice (some ⟨b, 0, none⟩) 32 32, .slice (some ⟨n9, 0, none⟩) 3 3] W fun e w' => e = .returned (.agg D) ∧ TS w' t ∧ Keep [t] W w' := by
    intro W n8 n9 hk h8 h9
    have hb := hB.out.keep hk (by simp)
    rw [hD0.out] at hb
    refine mark_at W t _ _ sl [ll, al, [i]] D (by rw [hD.out]; simp) (hK.out.ts.keep hk (by simp)) (Sl.of_blk hb hs.out.1 (by decide) hs.out.2) (Pl.three h9 (hL.out.keep0 hk) (hA.out.keep0 hk) (Sl.of_blk (l := [i]) h8 rfl (by decide) (by intro x hx; rw [List.mem_singleton.1 hx]; exact HI.out))) (by rw [hs.out.1]; decide) ?_ (by simp)
    have h1 := hll.out
    have h2 := hal.out
    simp; omega
  obtain ⟨f, ⟨f0, f2, f5, f10, f11, f12, f13, -⟩, rfl⟩ := hF.open49
  simp only [f0, f2, f5, f10, f11, f12, f13]
  clear f0 f2 f5 f10 f11 f12 f13 hF
  conv => arg 2; whnf
  refine wp_region_any (by kernel_rfl) ?_
  change wpAny _ _ _ _ _ _ _ (World.drew _)
  obtain ⟨W0, hW0⟩ : ∃ W0, W0 = w2.drew := ⟨_, rfl⟩
  rw [← hW0]
  have hk0 : Keep [] w2 W0 := by rw [hW0]; exact (Keep.refl [] w2).drew
  clear hW0
  go_simp
  refine wpAny_take (i := 0) (v := ?_) rfl (by kernel_rfl) (by kernel_rfl) (by kernel_rfl) (fun _ _ _ h => h) (Or.inl ⟨by rfl, ?_⟩) ?_
  rotate_left
  · intro y; go_simp; try (with_reducible rfl)
  rotate_left
  go_simp
  refine wpAny_take (i := 1) (v := ?_) rfl (by kernel_rfl) (by kernel_rfl) (by kernel_rfl) (fun _ _ _ h => h) (Or.inl ⟨by rfl, ?_⟩) ?_
  rotate_left
  · intro y; go_simp; try (with_reducible rfl)
  rotate_left
  go_simp
  refine wpAny_take (i := 2) (v := ?_) rfl (by kernel_rfl) (by kernel_rfl) (by kernel_rfl) (fun _ _ _ h => h) (Or.inl ⟨by rfl, ?_⟩) ?_
  rotate_left
  · intro y; go_simp; try (with_reducible rfl)
  rotate_left
  go_simp
  refine wpAny_take (i := 4) (v := ?_) rfl (by kernel_rfl) (by kernel_rfl) (by kernel_rfl) (fun _ _ _ h => h) (Or.inl ⟨by rfl, ?_⟩) ?_
  rotate_left
  · intro y; go_simp; try (with_reducible rfl)
  rotate_left
  go_simp
  refine wpAny_take (i := 5) (v := ?_) rfl (by kernel_rfl) (by kernel_rfl) (by kernel_rfl) (fun _ _ _ h => h) (Or.inl ⟨by rfl, ?_⟩) ?_
  rotate_left
  · intro y; go_simp; try (with_reducible rfl)
  rotate_left
  go_simp
  refine wpAny_take (i := 6) (v := ?_) rfl (by kernel_rfl) (by kernel_rfl) (by kernel_rfl) (fun _ _ _ h => h) (Or.inl ⟨by rfl, ?_⟩) ?_
  rotate_left
  · intro y; go_simp; try (with_reducible rfl)
  rotate_left
  go_simp
  refine wpAny_take (i := 7) (v := ?_) rfl (by kernel_rfl) (by kernel_rfl) (by kernel_rfl) (fun _ _ _ h => h) (Or.inl ⟨by rfl, ?_⟩) ?_
  rotate_left
  · intro y; go_simp; try (with_reducible rfl)
  rotate_left
  go_simp
  refine wpAny_ready (rs := [3, 8, 11]) (by kernel_rfl) (by simp) ?_
  refine AllReady.cons rfl (fun K hK => ?_) ?_
  ·
    apply step_wp
    · rfl
    refine ow_load1 _ _ rfl ⟨k, 0, none⟩ rfl _ (LD _ hk0) ?_
    apply hK
    clear hK K
    go_simp
    refine wpAny_ready (rs := [8, 11]) (by kernel_rfl) (by simp) ?_
    refine AllReady.cons rfl (fun K hK => ?_) ?_
    ·
      apply step_wp
      · rfl
      refine ow_slice _ 5 1 _ rfl Try.underlying24 #[.int .u8 i] [(0, .int .u8 i)] (by kernel_rfl) (by kernel_rfl) ?_
      intro n8 W8 hn8 hb8 hs8
      replace hn8 : w2.heap.size ≤ n8 := by rw [hn8]; exact hk0.size
      have hk8 : Keep [] w2 W8 := hk0.trans0 hs8
      clear hs8
      apply hK
      clear hK K
      go_simp
      refine wpAny_ready (rs := [9, 11]) (by kernel_rfl) (by simp) ?_
      refine AllReady.cons rfl (fun K hK => ?_) ?_
      ·
        apply step_wp
        · rfl
        refine ow_slice _ 24 3 _ rfl Try.underlying51 #[.slice lA LL lc, .slice aA AL ac, .slice (some ⟨n8, 0, none⟩) 1 1] [(0, .slice lA LL lc), (1, .slice aA AL ac), (2, .slice (some ⟨n8, 0, none⟩) 1 1)] (by kernel_rfl) (by kernel_rfl) ?_
        intro n9 W9 hn9 hb9 hs9
        replace hn9 : w2.heap.size ≤ n9 := by rw [hn9]; exact hk8.size
        have hk9 : Keep [] w2 W9 := hk8.trans0 hs9
        replace hb8 := hb8.keep hs9 (by simp)
        clear hs9
        apply hK
        clear hK K
        go_simp
        refine wpAny_ready (rs := [10, 11]) (by kernel_rfl) (by simp) ?_
        refine AllReady.cons rfl (fun K hK => ?_) ?_
        ·
          apply step_wp
          · rfl
          refine ow_call _ _ _ (by kernel_rfl) (MK _ _ _ hk9 hb8 hb9) ?_
          rintro e W10 ⟨rfl, hT, hs10⟩
          refine ⟨_, rfl, ?_⟩
          have hk10 : Keep [t] w2 W10 := hk9.more0.trans hs10
          clear hb8 hb9 hn8 hn9 hs10
          apply hK
          clear hK K
          go_simp
          refine wpAny_ready (rs := [11]) (by kernel_rfl) (by simp) ?_
          refine AllReady.cons rfl (fun K hK => ?_) ?_
          ·
            apply step_wp
            · rfl
            refine ow_alloc _ rfl Z 32 HZI.out ?_
            intro m W11 hn11 hb11 hs11
            replace hn11 : w2.heap.size ≤ m := by rw [hn11]; exact hk10.size
            have hk11 : Keep [t] w2 W11 := hk10.trans0 hs11
            replace hT := hT.keep hs11 (by simp)
            clear hs11
            apply hK
            clear hK K
            go_simp
            refine wpAny_ready (rs := [12]) (by kernel_rfl) (by simp) ?_
            refine AllReady.cons rfl (fun K hK => ?_) ?_
            ·
              apply step_wp
              · rfl
              refine ow_store _ _ _ rfl m D rfl rfl _ _ hb11 (by rw [HDS.out]; kernel_rfl) (by rw [HDS.out]; exact HZS.out) HD1.out ?_
              intro W12 hbD hs12
              have hk12 : Keep [t] w2 W12 := hk11.trans' hs12 (fun x hx => by right; simp at hx; omega)
              replace hT := hT.keep hs12 (by have := HTL.out; simp; omega)
              replace hb11 := hbD
              apply hK
              clear hK K
              refine wpAny_done (by kernel_rfl) ?_ _
              exact hR.out _ _ _ ⟨rfl, rfl, by repeat (first | exact trivial | refine ⟨rfl, ?_⟩)⟩ hn11 hb11 hT hk12
            exact AllReady.nil
          exact AllReady.nil
        refine AllReady.cons rfl (fun K hK => ?_) ?_
        ·
          apply step_wp
          · rfl
          refine ow_alloc _ rfl Z 32 HZI.out ?_
          intro m W11 hn11 hb11 hs11
          replace hn11 : w2.heap.size ≤ m := by rw [hn11]; exact hk9.size
          have hk11 : Keep [] w2 W11 := hk9.trans0 hs11
          replace hb8 := hb8.keep hs11 (by simp)
          replace hb9 := hb9.keep hs11 (by simp)
          clear hs11
          apply hK
          clear hK K
          go_simp
          refine wpAny_ready (rs := [10]) (by kernel_rfl) (by simp) ?_
          refine AllReady.cons rfl (fun K hK => ?_) ?_
          ·
            apply step_wp
            · rfl
            refine ow_call _ _ _ (by kernel_rfl) (MK _ _ _ hk11 hb8 hb9) ?_
            rintro e W10 ⟨rfl, hT, hs10⟩
            refine ⟨_, rfl, ?_⟩
            have hk10 : Keep [t] w2 W10 := hk11.more0.trans hs10
            replace hb11 := hb11.on hs10 hn11 HTL.out
            clear hb8 hb9 hn8 hn9 hs10
            apply hK
            clear hK K
            go_simp
            refine wpAny_ready (rs := [12]) (by kernel_rfl) (by simp) ?_
            refine AllReady.cons rfl (fun K hK => ?_) ?_
            ·
              apply step_wp
              · rfl
              refine ow_store _ _ _ rfl m D rfl rfl _ _ hb11 (by rw [HDS.out]; kernel_rfl) (by rw [HDS.out]; exact HZS.out) HD1.out ?_
              intro W12 hbD hs12
              have hk12 : Keep [t] w2 W12 := hk10.trans' hs12 (fun x hx => by right; simp at hx; omega)
              replace hT := hT.keep hs12 (by have := HTL.out; simp; omega)
              replace hb11 := hbD
              apply hK
              clear hK K
              refine wpAny_done (by kernel_rfl) ?_ _
              exact hR.out _ _ _ ⟨rfl, rfl, by repeat (first | exact trivial | refine ⟨rfl, ?_⟩)⟩ hn11 hb11 hT hk12
            exact AllReady.nil
          exact AllReady.nil
        exact AllReady.nil
      refine AllReady.cons rfl (fun K hK => ?_) ?_
      ·
        apply step_wp
        · rfl
        refine ow_alloc _ rfl Z 32 HZI.out ?_
        intro m W11 hn11 hb11 hs11
        replace hn11 : w2.heap.size ≤ m := by rw [hn11]; exact hk8.size
        have hk11 : Keep [] w2 W11 := hk8.trans0 hs11
        replace hb8 := hb8.keep hs11 (by simp)
        clear hs11
        apply hK
        clear hK K
        go_simp
        refine wpAny_ready (rs := [9]) (by kernel_rfl) (by simp) ?_
        refine AllReady.cons rfl (fun K hK => ?_) ?_
        ·
          apply step_wp
          · rfl
          refine ow_slice _ 24 3 _ rfl Try.underlying51 #[.slice lA LL lc, .slice aA AL ac, .slice (some ⟨n8, 0, none⟩) 1 1] [(0, .slice lA LL lc), (1, .slice aA AL ac), (2, .slice (some ⟨n8, 0, none⟩) 1 1)] (by kernel_rfl) (by kernel_rfl) ?_
          intro n9 W9 hn9 hb9 hs9
          replace hn9 : w2.heap.size ≤ n9 := by rw [hn9]; exact hk11.size
          have hk9 : Keep [] w2 W9 := hk11.trans0 hs9
          replace hb8 := hb8.keep hs9 (by simp)
          replace hb11 := hb11.keep hs9 (by simp)
          clear hs9
          apply hK
          clear hK K
          go_simp
          refine wpAny_ready (rs := [10]) (by kernel_rfl) (by simp) ?_
          refine AllReady.cons rfl (fun K hK => ?_) ?_
          ·
            apply step_wp
            · rfl
            refine ow_call _ _ _ (by kernel_rfl) (MK _ _ _ hk9 hb8 hb9) ?_
            rintro e W10 ⟨rfl, hT, hs10⟩
            refine ⟨_, rfl, ?_⟩
            have hk10 : Keep [t] w2 W10 := hk9.more0.trans hs10
            replace hb11 := hb11.on hs10 hn11 HTL.out
            clear hb8 hb9 hn8 hn9 hs10
            apply hK
            clear hK K
            go_simp
            refine wpAny_ready (rs := [12]) (by kernel_rfl) (by simp) ?_
            refine AllReady.cons rfl (fun K hK => ?_) ?_
            ·
              apply step_wp
              · rfl
              refine ow_store _ _ _ rfl m D rfl rfl _ _ hb11 (by rw [HDS.out]; kernel_rfl) (by rw [HDS.out]; exact HZS.out) HD1.out ?_
              intro W12 hbD hs12
              have hk12 : Keep [t] w2 W12 := hk10.trans' hs12 (fun x hx => by right; simp at hx; omega)
              replace hT := hT.keep hs12 (by have := HTL.out; simp; omega)
              replace hb11 := hbD
              apply hK
              clear hK K
              refine wpAny_done (by kernel_rfl) ?_ _
              exact hR.out _ _ _ ⟨rfl, rfl, by repeat (first | exact trivial | refine ⟨rfl, ?_⟩)⟩ hn11 hb11 hT hk12
            exact AllReady.nil
          exact AllReady.nil
        exact AllReady.nil
      exact AllReady.nil
    refine AllReady.cons rfl (fun K hK => ?_) ?_
    ·
      apply step_wp
      · rfl
      refine ow_alloc _ rfl Z 32 HZI.out ?_
      intro m W11 hn11 hb11 hs11
      replace hn11 : w2.heap.size ≤ m := by rw [hn11]; exact hk0.size
      have hk11 : Keep [] w2 W11 := hk0.trans0 hs11
      clear hs11
      apply hK
      clear hK K
      go_simp
      refine wpAny_ready (rs := [8]) (by kernel_rfl) (by simp) ?_
      refine AllReady.cons rfl (fun K hK => ?_) ?_
      ·
        apply step_wp
        · rfl
        refine ow_slice _ 5 1 _ rfl Try.underlying24 #[.int .u8 i] [(0, .int .u8 i)] (by kernel_rfl) (by kernel_rfl) ?_
        intro n8 W8 hn8 hb8 hs8
        replace hn8 : w2.heap.size ≤ n8 := by rw [hn8]; exact hk11.size
        have hk8 : Keep [] w2 W8 := hk11.trans0 hs8
        replace hb11 := hb11.keep hs8 (by simp)
        clear hs8
        apply hK
        clear hK K
        go_simp
        refine wpAny_ready (rs := [9]) (by kernel_rfl) (by simp) ?_
        refine AllReady.cons rfl (fun K hK => ?_) ?_
        ·
          apply step_wp
          · rfl
          refine ow_slice _ 24 3 _ rfl Try.underlying51 #[.slice lA LL lc, .slice aA AL ac, .slice (some ⟨n8, 0, none⟩) 1 1] [(0, .slice lA LL lc), (1, .slice aA AL ac), (2, .slice (some ⟨n8, 0, none⟩) 1 1)] (by kernel_rfl) (by kernel_rfl) ?_
          intro n9 W9 hn9 hb9 hs9
          replace hn9 : w2.heap.size ≤ n9 := by rw [hn9]; exact hk8.size
          have hk9 : Keep [] w2 W9 := hk8.trans0 hs9
          replace hb11 := hb11.keep hs9 (by simp)
          replace hb8 := hb8.keep hs9 (by simp)
          clear hs9
          apply hK
          clear hK K
          go_simp
          refine wpAny_ready (rs := [10]) (by kernel_rfl) (by simp) ?_
          refine AllReady.cons rfl (fun K hK => ?_) ?_
          ·
            apply step_wp
            · rfl
            refine ow_call _ _ _ (by kernel_rfl) (MK _ _ _ hk9 hb8 hb9) ?_
            rintro e W10 ⟨rfl, hT, hs10⟩
            refine ⟨_, rfl, ?_⟩
            have hk10 : Keep [t] w2 W10 := hk9.more0.trans hs10
            replace hb11 := hb11.on hs10 hn11 HTL.out
            clear hb8 hb9 hn8 hn9 hs10
            apply hK
            clear hK K
            go_simp
            refine wpAny_ready (rs := [12]) (by kernel_rfl) (by simp) ?_
            refine AllReady.cons rfl (fun K hK => ?_) ?_
            ·
              apply step_wp
              · rfl
              refine ow_store _ _ _ rfl m D rfl rfl _ _ hb11 (by rw [HDS.out]; kernel_rfl) (by rw [HDS.out]; exact HZS.out) HD1.out ?_
              intro W12 hbD hs12
              have hk12 : Keep [t] w2 W12 := hk10.trans' hs12 (fun x hx => by right; simp at hx; omega)
              replace hT := hT.keep hs12 (by have := HTL.out; simp; omega)
              replace hb11 := hbD
              apply hK
              clear hK K
              refine wpAny_done (by kernel_rfl) ?_ _
              exact hR.out _ _ _ ⟨rfl, rfl, by repeat (first | exact trivial | refine ⟨rfl, ?_⟩)⟩ hn11 hb11 hT hk12
            exact AllReady.nil
          exact AllReady.nil
        exact AllReady.nil
      exact AllReady.nil
    exact AllReady.nil
  refine AllReady.cons rfl (fun K hK => ?_) ?_
  ·
    apply step_wp
    · rfl
    refine ow_slice _ 5 1 _ rfl Try.underlying24 #[.int .u8 i] [(0, .int .u8 i)] (by kernel_rfl) (by kernel_rfl) ?_
    intro n8 W8 hn8 hb8 hs8
    replace hn8 : w2.heap.size ≤ n8 := by rw [hn8]; exact hk0.size
    have hk8 : Keep [] w2 W8 := hk0.trans0 hs8
    clear hs8
    apply hK
    clear hK K
    go_simp
    refine wpAny_ready (rs := [3, 9, 11]) (by kernel_rfl) (by simp) ?_
    refine AllReady.cons rfl (fun K hK => ?_) ?_
    ·
      apply step_wp
      · rfl
      refine ow_load1 _ _ rfl ⟨k, 0, none⟩ rfl _ (LD _ hk8) ?_
      apply hK
      clear hK K
      go_simp
      refine wpAny_ready (rs := [9, 11]) (by kernel_rfl) (by simp) ?_
      refine AllReady.cons rfl (fun K hK => ?_) ?_
      ·
        apply step_wp
        · rfl
        refine ow_slice _ 24 3 _ rfl Try.underlying51 #[.slice lA LL lc, .slice aA AL ac, .slice (some ⟨n8, 0, none⟩) 1 1] [(0, .slice lA LL lc), (1, .slice aA AL ac), (2, .slice (some ⟨n8, 0, none⟩) 1 1)] (by kernel_rfl) (by kernel_rfl) ?_
        intro n9 W9 hn9 hb9 hs9
        replace hn9 : w2.heap.size ≤ n9 := by rw [hn9]; exact hk8.size
        have hk9 : Keep [] w2 W9 := hk8.trans0 hs9
        replace hb8 := hb8.keep hs9 (by simp)
        clear hs9
        apply hK
        clear hK K
        go_simp
        refine wpAny_ready (rs := [10, 11]) (by kernel_rfl) (by simp) ?_
        refine AllReady.cons rfl (fun K hK => ?_) ?_
        ·
          apply step_wp
          · rfl
          refine ow_call _ _ _ (by kernel_rfl) (MK _ _ _ hk9 hb8 hb9) ?_
          rintro e W10 ⟨rfl, hT, hs10⟩
          refine ⟨_, rfl, ?_⟩
          have hk10 : Keep [t] w2 W10 := hk9.more0.trans hs10
          clear hb8 hb9 hn8 hn9 hs10
          apply hK
          clear hK K
          go_simp
          refine wpAny_ready (rs := [11]) (by kernel_rfl) (by simp) ?_
          refine AllReady.cons rfl (fun K hK => ?_) ?_
          ·
            apply step_wp
            · rfl
            refine ow_alloc _ rfl Z 32 HZI.out ?_
            intro m W11 hn11 hb11 hs11
            replace hn11 : w2.heap.size ≤ m := by rw [hn11]; exact hk10.size
            have hk11 : Keep [t] w2 W11 := hk10.trans0 hs11
            replace hT := hT.keep hs11 (by simp)
            clear hs11
            apply hK
            clear hK K
            go_simp
            refine wpAny_ready (rs := [12]) (by kernel_rfl) (by simp) ?_
            refine AllReady.cons rfl (fun K hK => ?_) ?_
            ·
              apply step_wp
              · rfl
              refine ow_store _ _ _ rfl m D rfl rfl _ _ hb11 (by rw [HDS.out]; kernel_rfl) (by rw [HDS.out]; exact HZS.out) HD1.out ?_
              intro W12 hbD hs12
              have hk12 : Keep [t] w2 W12 := hk11.trans' hs12 (fun x hx => by right; simp at hx; omega)
              replace hT := hT.keep hs12 (by have := HTL.out; simp; omega)
              replace hb11 := hbD
              apply hK
              clear hK K
              refine wpAny_done (by kernel_rfl) ?_ _
              exact hR.out _ _ _ ⟨rfl, rfl, by repeat (first | exact trivial | refine ⟨rfl, ?_⟩)⟩ hn11 hb11 hT hk12
            exact AllReady.nil
          exact AllReady.nil
        refine AllReady.cons rfl (fun K hK => ?_) ?_
        ·
          apply step_wp
          · rfl
          refine ow_alloc _ rfl Z 32 HZI.out ?_
          intro m W11 hn11 hb11 hs11
          replace hn11 : w2.heap.size ≤ m := by rw [hn11]; exact hk9.size
          have hk11 : Keep [] w2 W11 := hk9.trans0 hs11
          replace hb8 := hb8.keep hs11 (by simp)
          replace hb9 := hb9.keep hs11 (by simp)
          clear hs11
          apply hK
          clear hK K
          go_simp
          refine wpAny_ready (rs := [10]) (by kernel_rfl) (by simp) ?_
          refine AllReady.cons rfl (fun K hK => ?_) ?_
          ·
            apply step_wp
            · rfl
            refine ow_call _ _ _ (by kernel_rfl) (MK _ _ _ hk11 hb8 hb9) ?_
            rintro e W10 ⟨rfl, hT, hs10⟩
            refine ⟨_, rfl, ?_⟩
            have hk10 : Keep [t] w2 W10 := hk11.more0.trans hs10
            replace hb11 := hb11.on hs10 hn11 HTL.out
            clear hb8 hb9 hn8 hn9 hs10
            apply hK
            clear hK K
            go_simp
            refine wpAny_ready (rs := [12]) (by kernel_rfl) (by simp) ?_
            refine AllReady.cons rfl (fun K hK => ?_) ?_
            ·
              apply step_wp
              · rfl
              refine ow_store _ _ _ rfl m D rfl rfl _ _ hb11 (by rw [HDS.out]; kernel_rfl) (by rw [HDS.out]; exact HZS.out) HD1.out ?_
              intro W12 hbD hs12
              have hk12 : Keep [t] w2 W12 := hk10.trans' hs12 (fun x hx => by right; simp at hx; omega)
              replace hT := hT.keep hs12 (by have := HTL.out; simp; omega)
              replace hb11 := hbD
              apply hK
              clear hK K
              refine wpAny_done (by kernel_rfl) ?_ _
              exact hR.out _ _ _ ⟨rfl, rfl, by repeat (first | exact trivial | refine ⟨rfl, ?_⟩)⟩ hn11 hb11 hT hk12
            exact AllReady.nil
          exact AllReady.nil
        exact AllReady.nil
      refine AllReady.cons rfl (fun K hK => ?_) ?_
      ·
        apply step_wp
        · rfl
        refine ow_alloc _ rfl Z 32 HZI.out ?_
        intro m W11 hn11 hb11 hs11
        replace hn11 : w2.heap.size ≤ m := by rw [hn11]; exact hk8.size
        have hk11 : Keep [] w2 W11 := hk8.trans0 hs11
        replace hb8 := hb8.keep hs11 (by simp)
        clear hs11
        apply hK
        clear hK K
        go_simp
        refine wpAny_ready (rs := [9]) (by kernel_rfl) (by simp) ?_
        refine AllReady.cons rfl (fun K hK => ?_) ?_
        ·
          apply step_wp
          · rfl
          refine ow_slice _ 24 3 _ rfl Try.underlying51 #[.slice lA LL lc, .slice aA AL ac, .slice (some ⟨n8, 0, none⟩) 1 1] [(0, .slice lA LL lc), (1, .slice aA AL ac), (2, .slice (some ⟨n8, 0, none⟩) 1 1)] (by kernel_rfl) (by kernel_rfl) ?_
          intro n9 W9 hn9 hb9 hs9
          replace hn9 : w2.heap.size ≤ n9 := by rw [hn9]; exact hk11.size
          have hk9 : Keep [] w2 W9 := hk11.trans0 hs9
          replace hb8 := hb8.keep hs9 (by simp)
          replace hb11 := hb11.keep hs9 (by simp)
          clear hs9
          apply hK
          clear hK K
          go_simp
          refine wpAny_ready (rs := [10]) (by kernel_rfl) (by simp) ?_
          refine AllReady.cons rfl (fun K hK => ?_) ?_
          ·
            apply step_wp
            · rfl
            refine ow_call _ _ _ (by kernel_rfl) (MK _ _ _ hk9 hb8 hb9) ?_
            rintro e W10 ⟨rfl, hT, hs10⟩
            refine ⟨_, rfl, ?_⟩
            have hk10 : Keep [t] w2 W10 := hk9.more0.trans hs10
            replace hb11 := hb11.on hs10 hn11 HTL.out
            clear hb8 hb9 hn8 hn9 hs10
            apply hK
            clear hK K
            go_simp
            refine wpAny_ready (rs := [12]) (by kernel_rfl) (by simp) ?_
            refine AllReady.cons rfl (fun K hK => ?_) ?_
            ·
              apply step_wp
              · rfl
              refine ow_store _ _ _ rfl m D rfl rfl _ _ hb11 (by rw [HDS.out]; kernel_rfl) (by rw [HDS.out]; exact HZS.out) HD1.out ?_
              intro W12 hbD hs12
              have hk12 : Keep [t] w2 W12 := hk10.trans' hs12 (fun x hx => by right; simp at hx; omega)
              replace hT := hT.keep hs12 (by have := HTL.out; simp; omega)
              replace hb11 := hbD
              apply hK
              clear hK K
              refine wpAny_done (by kernel_rfl) ?_ _
              exact hR.out _ _ _ ⟨rfl, rfl, by repeat (first | exact trivial | refine ⟨rfl, ?_⟩)⟩ hn11 hb11 hT hk12
            exact AllReady.nil
          exact AllReady.nil
        exact AllReady.nil
      exact AllReady.nil
    refine AllReady.cons rfl (fun K hK => ?_) ?_
    ·
      apply step_wp
      · rfl
      refine ow_slice _ 24 3 _ rfl Try.underlying51 #[.slice lA LL lc, .slice aA AL ac, .slice (some ⟨n8, 0, none⟩) 1 1] [(0, .slice lA LL lc), (1, .slice aA AL ac), (2, .slice (some ⟨n8, 0, none⟩) 1 1)] (by kernel_rfl) (by kernel_rfl) ?_
      intro n9 W9 hn9 hb9 hs9
      replace hn9 : w2.heap.size ≤ n9 := by rw [hn9]; exact hk8.size
      have hk9 : Keep [] w2 W9 := hk8.trans0 hs9
      replace hb8 := hb8.keep hs9 (by simp)
      clear hs9
      apply hK
      clear hK K
      go_simp
      refine wpAny_ready (rs := [3, 11]) (by kernel_rfl) (by simp) ?_
      refine AllReady.cons rfl (fun K hK => ?_) ?_
      ·
        apply step_wp
        · rfl
        refine ow_load1 _ _ rfl ⟨k, 0, none⟩ rfl _ (LD _ hk9) ?_
        apply hK
        clear hK K
        go_simp
        refine wpAny_ready (rs := [10, 11]) (by kernel_rfl) (by simp) ?_
        refine AllReady.cons rfl (fun K hK => ?_) ?_
        ·
          apply step_wp
          · rfl
          refine ow_call _ _ _ (by kernel_rfl) (MK _ _ _ hk9 hb8 hb9) ?_
          rintro e W10 ⟨rfl, hT, hs10⟩
          refine ⟨_, rfl, ?_⟩
          have hk10 : Keep [t] w2 W10 := hk9.more0.trans hs10
          clear hb8 hb9 hn8 hn9 hs10
          apply hK
          clear hK K
          go_simp
          refine wpAny_ready (rs := [11]) (by kernel_rfl) (by simp) ?_
          refine AllReady.cons rfl (fun K hK => ?_) ?_
          ·
            apply step_wp
            · rfl
            refine ow_alloc _ rfl Z 32 HZI.out ?_
            intro m W11 hn11 hb11 hs11
            replace hn11 : w2.heap.size ≤ m := by rw [hn11]; exact hk10.size
            have hk11 : Keep [t] w2 W11 := hk10.trans0 hs11
            replace hT := hT.keep hs11 (by simp)
            clear hs11
            apply hK
            clear hK K
            go_simp
            refine wpAny_ready (rs := [12]) (by kernel_rfl) (by simp) ?_
            refine AllReady.cons rfl (fun K hK => ?_) ?_
            ·
              apply step_wp
              · rfl
              refine ow_store _ _ _ rfl m D rfl rfl _ _ hb11 (by rw [HDS.out]; kernel_rfl) (by rw [HDS.out]; exact HZS.out) HD1.out ?_
              intro W12 hbD hs12
              have hk12 : Keep [t] w2 W12 := hk11.trans' hs12 (fun x hx => by right; simp at hx; omega)
              replace hT := hT.keep hs12 (by have := HTL.out; simp; omega)
              replace hb11 := hbD
              apply hK
              clear hK K
              refine wpAny_done (by kernel_rfl) ?_ _
              exact hR.out _ _ _ ⟨rfl, rfl, by repeat (first | exact trivial | refine ⟨rfl, ?_⟩)⟩ hn11 hb11 hT hk12
            exact AllReady.nil
          exact AllReady.nil
        refine AllReady.cons rfl (fun K hK => ?_) ?_
        ·
          apply step_wp
          · rfl
          refine ow_alloc _ rfl Z 32 HZI.out ?_
          intro m W11 hn11 hb11 hs11
          replace hn11 : w2.heap.size ≤ m := by rw [hn11]; exact hk9.size
          have hk11 : Keep [] w2 W11 := hk9.trans0 hs11
          replace hb8 := hb8.keep hs11 (by simp)
          replace hb9 := hb9.keep hs11 (by simp)
          clear hs11
          apply hK
          clear hK K
          go_simp
          refine wpAny_ready (rs := [10]) (by kernel_rfl) (by simp) ?_
          refine AllReady.cons rfl (fun K hK => ?_) ?_
          ·
            apply step_wp
            · rfl
            refine ow_call _ _ _ (by kernel_rfl) (MK _ _ _ hk11 hb8 hb9) ?_
            rintro e W10 ⟨rfl, hT, hs10⟩
            refine ⟨_, rfl, ?_⟩
            have hk10 : Keep [t] w2 W10 := hk11.more0.trans hs10
            replace hb11 := hb11.on hs10 hn11 HTL.out
            clear hb8 hb9 hn8 hn9 hs10
            apply hK
            clear hK K
            go_simp
            refine wpAny_ready (rs := [12]) (by kernel_rfl) (by simp) ?_
            refine AllReady.cons rfl (fun K hK => ?_) ?_
            ·
              apply step_wp
              · rfl
              refine ow_store _ _ _ rfl m D rfl rfl _ _ hb11 (by rw [HDS.out]; kernel_rfl) (by rw [HDS.out]; exact HZS.out) HD1.out ?_
              intro W12 hbD hs12
              have hk12 : Keep [t] w2 W12 := hk10.trans' hs12 (fun x hx => by right; simp at hx; omega)
              replace hT := hT.keep hs12 (by have := HTL.out; simp; omega)
              replace hb11 := hbD
              apply hK
              clear hK K
              refine wpAny_done (by kernel_rfl) ?_ _
              exact hR.out _ _ _ ⟨rfl, rfl, by repeat (first | exact trivial | refine ⟨rfl, ?_⟩)⟩ hn11 hb11 hT hk12
            exact AllReady.nil
          exact AllReady.nil
        exact AllReady.nil
      refine AllReady.cons rfl (fun K hK => ?_) ?_
      ·
        apply step_wp
        · rfl
        refine ow_alloc _ rfl Z 32 HZI.out ?_
        intro m W11 hn11 hb11 hs11
        replace hn11 : w2.heap.size ≤ m := by rw [hn11]; exact hk9.size
        have hk11 : Keep [] w2 W11 := hk9.trans0 hs11
        replace hb8 := hb8.keep hs11 (by simp)
        replace hb9 := hb9.keep hs11 (by simp)
        clear hs11
        apply hK
        clear hK K
        go_simp
        refine wpAny_ready (rs := [3]) (by kernel_rfl) (by simp) ?_
        refine AllReady.cons rfl (fun K hK => ?_) ?_
        ·
          apply step_wp
          · rfl
          refine ow_load1 _ _ rfl ⟨k, 0, none⟩ rfl _ (LD _ hk11) ?_
          apply hK
          clear hK K
          go_simp
          refine wpAny_ready (rs := [10]) (by kernel_rfl) (by simp) ?_
          refine AllReady.cons rfl (fun K hK => ?_) ?_
          ·
            apply step_wp
            · rfl
            refine ow_call _ _ _ (by kernel_rfl) (MK _ _ _ hk11 hb8 hb9) ?_
            rintro e W10 ⟨rfl, hT, hs10⟩
            refine ⟨_, rfl, ?_⟩
            have hk10 : Keep [t] w2 W10 := hk11.more0.trans hs10
            replace hb11 := hb11.on hs10 hn11 HTL.out
            clear hb8 hb9 hn8 hn9 hs10
            apply hK
            clear hK K
            go_simp
            refine wpAny_ready (rs := [12]) (by kernel_rfl) (by simp) ?_
            refine AllReady.cons rfl (fun K hK => ?_) ?_
            ·
              apply step_wp
              · rfl
              refine ow_store _ _ _ rfl m D rfl rfl _ _ hb11 (by rw [HDS.out]; kernel_rfl) (by rw [HDS.out]; exact HZS.out) HD1.out ?_
              intro W12 hbD hs12
              have hk12 : Keep [t] w2 W12 := hk10.trans' hs12 (fun x hx => by right; simp at hx; omega)
              replace hT := hT.keep hs12 (by have := HTL.out; simp; omega)
              replace hb11 := hbD
              apply hK
              clear hK K
              refine wpAny_done (by kernel_rfl) ?_ _
              exact hR.out _ _ _ ⟨rfl, rfl, by repeat (first | exact trivial | refine ⟨rfl, ?_⟩)⟩ hn11 hb11 hT hk12
            exact AllReady.nil
          exact AllReady.nil
        exact AllReady.nil
      exact AllReady.nil
    refine AllReady.cons rfl (fun K hK => ?_) ?_
    ·
      apply step_wp
      · rfl
      refine ow_alloc _ rfl Z 32 HZI.out ?_
      intro m W11 hn11 hb11 hs11
      replace hn11 : w2.heap.size ≤ m := by rw [hn11]; exact hk8.size
      have hk11 : Keep [] w2 W11 := hk8.trans0 hs11
      replace hb8 := hb8.keep hs11 (by simp)
      clear hs11
      apply hK
      clear hK K
      go_simp
      refine wpAny_ready (rs := [3, 9]) (by kernel_rfl) (by simp) ?_
      refine AllReady.cons rfl (fun K hK => ?_) ?_
      ·
        apply step_wp
        · rfl
        refine ow_load1 _ _ rfl ⟨k, 0, none⟩ rfl _ (LD _ hk11) ?_
        apply hK
        clear hK K
        go_simp
        refine wpAny_ready (rs := [9]) (by kernel_rfl) (by simp) ?_
        refine AllReady.cons rfl (fun K hK => ?_) ?_
        ·
          apply step_wp
          · rfl
          refine ow_slice _ 24 3 _ rfl Try.underlying51 #[.slice lA LL lc, .slice aA AL ac, .slice (some ⟨n8, 0, none⟩) 1 1] [(0, .slice lA LL lc), (1, .slice aA AL ac), (2, .slice (some ⟨n8, 0, none⟩) 1 1)] (by kernel_rfl) (by kernel_rfl) ?_
          intro n9 W9 hn9 hb9 hs9
          replace hn9 : w2.heap.size ≤ n9 := by rw [hn9]; exact hk11.size
          have hk9 : Keep [] w2 W9 := hk11.trans0 hs9
          replace hb8 := hb8.keep hs9 (by simp)
          replace hb11 := hb11.keep hs9 (by simp)
          clear hs9
          apply hK
          clear hK K
          go_simp
          refine wpAny_ready (rs := [10]) (by kernel_rfl) (by simp) ?_
          refine AllReady.cons rfl (fun K hK => ?_) ?_
          ·
            apply step_wp
            · rfl
            refine ow_call _ _ _ (by kernel_rfl) (MK _ _ _ hk9 hb8 hb9) ?_
            rintro e W10 ⟨rfl, hT, hs10⟩
            refine ⟨_, rfl, ?_⟩
            have hk10 : Keep [t] w2 W10 := hk9.more0.trans hs10
            replace hb11 := hb11.on hs10 hn11 HTL.out
            clear hb8 hb9 hn8 hn9 hs10
            apply hK
            clear hK K
            go_simp
            refine wpAny_ready (rs := [12]) (by kernel_rfl) (by simp) ?_
            refine AllReady.cons rfl (fun K hK => ?_) ?_
            ·
              apply step_wp
              · rfl
              refine ow_store _ _ _ rfl m D rfl rfl _ _ hb11 (by rw [HDS.out]; kernel_rfl) (by rw [HDS.out]; exact HZS.out) HD1.out ?_
              intro W12 hbD hs12
              have hk12 : Keep [t] w2 W12 := hk10.trans' hs12 (fun x hx => by right; simp at hx; omega)
              replace hT := hT.keep hs12 (by have := HTL.out; simp; omega)
              replace hb11 := hbD
              apply hK
              clear hK K
              refine wpAny_done (by kernel_rfl) ?_ _
              exact hR.out _ _ _ ⟨rfl, rfl, by repeat (first | exact trivial | refine ⟨rfl, ?_⟩)⟩ hn11 hb11 hT hk12
            exact AllReady.nil
          exact AllReady.nil
        exact AllReady.nil
      refine AllReady.cons rfl (fun K hK => ?_) ?_
      ·
        apply step_wp
        · rfl
        refine ow_slice _ 24 3 _ rfl Try.underlying51 #[.slice lA LL lc, .slice aA AL ac, .slice (some ⟨n8, 0, none⟩) 1 1] [(0, .slice lA LL lc), (1, .slice aA AL ac), (2, .slice (some ⟨n8, 0, none⟩) 1 1)] (by kernel_rfl) (by kernel_rfl) ?_
        intro n9 W9 hn9 hb9 hs9
        replace hn9 : w2.heap.size ≤ n9 := by rw [hn9]; exact hk11.size
        have hk9 : Keep [] w2 W9 := hk11.trans0 hs9
        replace hb8 := hb8.keep hs9 (by simp)
        replace hb11 := hb11.keep hs9 (by simp)
        clear hs9
        apply hK
        clear hK K
        go_simp
        refine wpAny_ready (rs := [3]) (by kernel_rfl) (by simp) ?_
        refine AllReady.cons rfl (fun K hK => ?_) ?_
        ·
          apply step_wp
          · rfl
          refine ow_load1 _ _ rfl ⟨k, 0, none⟩ rfl _ (LD _ hk9) ?_
          apply hK
          clear hK K
          go_simp
          refine wpAny_ready (rs := [10]) (by kernel_rfl) (by simp) ?_
          refine AllReady.cons rfl (fun K hK => ?_) ?_
          ·
            apply step_wp
            · rfl
            refine ow_call _ _ _ (by kernel_rfl) (MK _ _ _ hk9 hb8 hb9) ?_
            rintro e W10 ⟨rfl, hT, hs10⟩
            refine ⟨_, rfl, ?_⟩
            have hk10 : Keep [t] w2 W10 := hk9.more0.trans hs10
            replace hb11 := hb11.on hs10 hn11 HTL.out
            clear hb8 hb9 hn8 hn9 hs10
            apply hK
            clear hK K
            go_simp
            refine wpAny_ready (rs := [12]) (by kernel_rfl) (by simp) ?_
            refine AllReady.cons rfl (fun K hK => ?_) ?_
            ·
              apply step_wp
              · rfl
              refine ow_store _ _ _ rfl m D rfl rfl _ _ hb11 (by rw [HDS.out]; kernel_rfl) (by rw [HDS.out]; exact HZS.out) HD1.out ?_
              intro W12 hbD hs12
              have hk12 : Keep [t] w2 W12 := hk10.trans' hs12 (fun x hx => by right; simp at hx; omega)
              replace hT := hT.keep hs12 (by have := HTL.out; simp; omega)
              replace hb11 := hbD
              apply hK
              clear hK K
              refine wpAny_done (by kernel_rfl) ?_ _
              exact hR.out _ _ _ ⟨rfl, rfl, by repeat (first | exact trivial | refine ⟨rfl, ?_⟩)⟩ hn11 hb11 hT hk12
            exact AllReady.nil
          exact AllReady.nil
        exact AllReady.nil
      exact AllReady.nil
    exact AllReady.nil
  refine AllReady.cons rfl (fun K hK => ?_) ?_
  ·
    apply step_wp
    · rfl
    refine ow_alloc _ rfl Z 32 HZI.out ?_
    intro m W11 hn11 hb11 hs11
    replace hn11 : w2.heap.size ≤ m := by rw [hn11]; exact hk0.size
    have hk11 : Keep [] w2 W11 := hk0.trans0 hs11
    clear hs11
    apply hK
    clear hK K
    go_simp
    refine wpAny_ready (rs := [3, 8]) (by kernel_rfl) (by simp) ?_
    refine AllReady.cons rfl (fun K hK => ?_) ?_
    ·
      apply step_wp
      · rfl
      refine ow_load1 _ _ rfl ⟨k, 0, none⟩ rfl _ (LD _ hk11) ?_
      apply hK
      clear hK K
      go_simp
      refine wpAny_ready (rs := [8]) (by kernel_rfl) (by simp) ?_
      refine AllReady.cons rfl (fun K hK => ?_) ?_
      ·
        apply step_wp
        · rfl
        refine ow_slice _ 5 1 _ rfl Try.underlying24 #[.int .u8 i] [(0, .int .u8 i)] (by kernel_rfl) (by kernel_rfl) ?_
        intro n8 W8 hn8 hb8 hs8
        replace hn8 : w2.heap.size ≤ n8 := by rw [hn8]; exact hk11.size
        have hk8 : Keep [] w2 W8 := hk11.trans0 hs8
        replace hb11 := hb11.keep hs8 (by simp)
        clear hs8
        apply hK
        clear hK K
        go_simp
        refine wpAny_ready (rs := [9]) (by kernel_rfl) (by simp) ?_
        refine AllReady.cons rfl (fun K hK => ?_) ?_
        ·
          apply step_wp
          · rfl
          refine ow_slice _ 24 3 _ rfl Try.underlying51 #[.slice lA LL lc, .slice aA AL ac, .slice (some ⟨n8, 0, none⟩) 1 1] [(0, .slice lA LL lc), (1, .slice aA AL ac), (2, .slice (some ⟨n8, 0, none⟩) 1 1)] (by kernel_rfl) (by kernel_rfl) ?_
          intro n9 W9 hn9 hb9 hs9
          replace hn9 : w2.heap.size ≤ n9 := by rw [hn9]; exact hk8.size
          have hk9 : Keep [] w2 W9 := hk8.trans0 hs9
          replace hb11 := hb11.keep hs9 (by simp)
          replace hb8 := hb8.keep hs9 (by simp)
          clear hs9
          apply hK
          clear hK K
          go_simp
          refine wpAny_ready (rs := [10]) (by kernel_rfl) (by simp) ?_
          refine AllReady.cons rfl (fun K hK => ?_) ?_
          ·
            apply step_wp
            · rfl
            refine ow_call _ _ _ (by kernel_rfl) (MK _ _ _ hk9 hb8 hb9) ?_
            rintro e W10 ⟨rfl, hT, hs10⟩
            refine ⟨_, rfl, ?_⟩
            have hk10 : Keep [t] w2 W10 := hk9.more0.trans hs10
            replace hb11 := hb11.on hs10 hn11 HTL.out
            clear hb8 hb9 hn8 hn9 hs10
            apply hK
            clear hK K
            go_simp
            refine wpAny_ready (rs := [12]) (by kernel_rfl) (by simp) ?_
            refine AllReady.cons rfl (fun K hK => ?_) ?_
            ·
              apply step_wp
              · rfl
              refine ow_store _ _ _ rfl m D rfl rfl _ _ hb11 (by rw [HDS.out]; kernel_rfl) (by rw [HDS.out]; exact HZS.out) HD1.out ?_
              intro W12 hbD hs12
              have hk12 : Keep [t] w2 W12 := hk10.trans' hs12 (fun x hx => by right; simp at hx; omega)
              replace hT := hT.keep hs12 (by have := HTL.out; simp; omega)
              replace hb11 := hbD
              apply hK
              clear hK K
              refine wpAny_done (by kernel_rfl) ?_ _
              exact hR.out _ _ _ ⟨rfl, rfl, by repeat (first | exact trivial | refine ⟨rfl, ?_⟩)⟩ hn11 hb11 hT hk12
            exact AllReady.nil
          exact AllReady.nil
        exact AllReady.nil
      exact AllReady.nil
    refine AllReady.cons rfl (fun K hK => ?_) ?_
    ·
      apply step_wp
      · rfl
      refine ow_slice _ 5 1 _ rfl Try.underlying24 #[.int .u8 i] [(0, .int .u8 i)] (by kernel_rfl) (by kernel_rfl) ?_
      intro n8 W8 hn8 hb8 hs8
      replace hn8 : w2.heap.size ≤ n8 := by rw [hn8]; exact hk11.size
      have hk8 : Keep [] w2 W8 := hk11.trans0 hs8
      replace hb11 := hb11.keep hs8 (by simp)
      clear hs8
      apply hK
      clear hK K
      go_simp
      refine wpAny_ready (rs := [3, 9]) (by kernel_rfl) (by simp) ?_
      refine AllReady.cons rfl (fun K hK => ?_) ?_
      ·
        apply step_wp
        · rfl
        refine ow_load1 _ _ rfl ⟨k, 0, none⟩ rfl _ (LD _ hk8) ?_
        apply hK
        clear hK K
        go_simp
        refine wpAny_ready (rs := [9]) (by kernel_rfl) (by simp) ?_
        refine AllReady.cons rfl (fun K hK => ?_) ?_
        ·
          apply step_wp
          · rfl
          refine ow_slice _ 24 3 _ rfl Try.underlying51 #[.slice lA LL lc, .slice aA AL ac, .slice (some ⟨n8, 0, none⟩) 1 1] [(0, .slice lA LL lc), (1, .slice aA AL ac), (2, .slice (some ⟨n8, 0, none⟩) 1 1)] (by kernel_rfl) (by kernel_rfl) ?_
          intro n9 W9 hn9 hb9 hs9
          replace hn9 : w2.heap.size ≤ n9 := by rw [hn9]; exact hk8.size
          have hk9 : Keep [] w2 W9 := hk8.trans0 hs9
          replace hb11 := hb11.keep hs9 (by simp)
          replace hb8 := hb8.keep hs9 (by simp)
          clear hs9
          apply hK
          clear hK K
          go_simp
          refine wpAny_ready (rs := [10]) (by kernel_rfl) (by simp) ?_
          refine AllReady.cons rfl (fun K hK => ?_) ?_
          ·
            apply step_wp
            · rfl
            refine ow_call _ _ _ (by kernel_rfl) (MK _ _ _ hk9 hb8 hb9) ?_
            rintro e W10 ⟨rfl, hT, hs10⟩
            refine ⟨_, rfl, ?_⟩
            have hk10 : Keep [t] w2 W10 := hk9.more0.trans hs10
            replace hb11 := hb11.on hs10 hn11 HTL.out
            clear hb8 hb9 hn8 hn9 hs10
            apply hK
            clear hK K
            go_simp
            refine wpAny_ready (rs := [12]) (by kernel_rfl) (by simp) ?_
            refine AllReady.cons rfl (fun K hK => ?_) ?_
            ·
              apply step_wp
              · rfl
              refine ow_store _ _ _ rfl m D rfl rfl _ _ hb11 (by rw [HDS.out]; kernel_rfl) (by rw [HDS.out]; exact HZS.out) HD1.out ?_
              intro W12 hbD hs12
              have hk12 : Keep [t] w2 W12 := hk10.trans' hs12 (fun x hx => by right; simp at hx; omega)
              replace hT := hT.keep hs12 (by have := HTL.out; simp; omega)
              replace hb11 := hbD
              apply hK
              clear hK K
              refine wpAny_done (by kernel_rfl) ?_ _
              exact hR.out _ _ _ ⟨rfl, rfl, by repeat (first | exact trivial | refine ⟨rfl, ?_⟩)⟩ hn11 hb11 hT hk12
            exact AllReady.nil
          exact AllReady.nil
        exact AllReady.nil
      refine AllReady.cons rfl (fun K hK => ?_) ?_
      ·
        apply step_wp
        · rfl
        refine ow_slice _ 24 3 _ rfl Try.underlying51 #[.slice lA LL lc, .slice aA AL ac, .slice (some ⟨n8, 0, none⟩) 1 1] [(0, .slice lA LL lc), (1, .slice aA AL ac), (2, .slice (some ⟨n8, 0, none⟩) 1 1)] (by kernel_rfl) (by kernel_rfl) ?_
        intro n9 W9 hn9 hb9 hs9
        replace hn9 : w2.heap.size ≤ n9 := by rw [hn9]; exact hk8.size
        have hk9 : Keep [] w2 W9 := hk8.trans0 hs9
        replace hb11 := hb11.keep hs9 (by simp)
        replace hb8 := hb8.keep hs9 (by simp)
        clear hs9
        apply hK
        clear hK K
        go_simp
        refine wpAny_ready (rs := [3]) (by kernel_rfl) (by simp) ?_
        refine AllReady.cons rfl (fun K hK => ?_) ?_
        ·
          apply step_wp
          · rfl
          refine ow_load1 _ _ rfl ⟨k, 0, none⟩ rfl _ (LD _ hk9) ?_
          apply hK
          clear hK K
          go_simp
          refine wpAny_ready (rs := [10]) (by kernel_rfl) (by simp) ?_
          refine AllReady.cons rfl (fun K hK => ?_) ?_
          ·
            apply step_wp
            · rfl
            refine ow_call _ _ _ (by kernel_rfl) (MK _ _ _ hk9 hb8 hb9) ?_
            rintro e W10 ⟨rfl, hT, hs10⟩
            refine ⟨_, rfl, ?_⟩
            have hk10 : Keep [t] w2 W10 := hk9.more0.trans hs10
            replace hb11 := hb11.on hs10 hn11 HTL.out
            clear hb8 hb9 hn8 hn9 hs10
            apply hK
            clear hK K
            go_simp
            refine wpAny_ready (rs := [12]) (by kernel_rfl) (by simp) ?_
            refine AllReady.cons rfl (fun K hK => ?_) ?_
            ·
              apply step_wp
              · rfl
              refine ow_store _ _ _ rfl m D rfl rfl _ _ hb11 (by rw [HDS.out]; kernel_rfl) (by rw [HDS.out]; exact HZS.out) HD1.out ?_
              intro W12 hbD hs12
              have hk12 : Keep [t] w2 W12 := hk10.trans' hs12 (fun x hx => by right; simp at hx; omega)
              replace hT := hT.keep hs12 (by have := HTL.out; simp; omega)
              replace hb11 := hbD
              apply hK
              clear hK K
              refine wpAny_done (by kernel_rfl) ?_ _
              exact hR.out _ _ _ ⟨rfl, rfl, by repeat (first | exact trivial | refine ⟨rfl, ?_⟩)⟩ hn11 hb11 hT hk12
            exact AllReady.nil
          exact AllReady.nil
        exact AllReady.nil
      exact AllReady.nil
    exact AllReady.nil
  exact AllReady.nil
end Go.Proofs.Ytiiifcfgfmoiaaa
