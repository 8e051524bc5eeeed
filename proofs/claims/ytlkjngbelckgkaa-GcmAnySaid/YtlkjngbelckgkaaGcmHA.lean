/-
  The landed gcm: a block of the counter, enciphered: the drawn region.
  The landed gcm: a text enciphered.
  The landed gcm: a text enciphered, whole.
-/
import Derived.Test.YtlkjngbelckgkaaGcmGA
namespace Go.Proofs.Ytlkjngbelckgkaa
open Go.RowKit

/-- Bytes stay as they are, wherever they lie, if only the tables' count has turned. -/
theorem tcs5_u8 (d m d' m' : Value) (B : List Nat) (n n' : Int) (i : Nat) (x : Int) (hB : B.length = 256) (h1 : d = d') (h2 : m = m') (h : (tcs5 d m B n)[i]? = some (.int .u8 x)) : (tcs5 d' m' B n')[i]? = some (.int .u8 x) := by
  subst h1; subst h2
  rw [← tcs5_setLast d m B n n' hB]
  by_cases hi : i = 259
  · subst hi
    exfalso
    have : (tcs5 d m B n)[259]? = some (.int .i64 n) := by
      unfold tcs5
      rw [List.getElem?_toArray, show 259 = 256 + 1 + 1 + 1 by omega, List.getElem?_cons_succ, List.getElem?_cons_succ, List.getElem?_cons_succ, List.getElem?_append_right (by simp [hB])]
      simp [hB]
    rw [this] at h
    cases h
  · rw [Array.getElem?_setIfInBounds_ne (fun h => hi h.symm)]
    exact h
theorem boxes_length : boxes.length = 256 := by simp [boxes]
theorem Sl.keepT {w w' : World} {v : Value} {l : List Int} {g m m' : Nat} {S : List Nat} (h : Sl .u8 w v l) (h1 : AT w g m) (h2 : AT w' g m') (hk : Keep S w w') (hS : ∀ b, 0 < l.length → v.ownBlock = some b → b ∈ S → b = g) : Sl .u8 w' v l := by
  obtain ⟨A, c, rfl, a1, a2, a3, a4⟩ := h
  refine ⟨A, c, rfl, a1, a2, fun hp => ?_, a4⟩
  obtain ⟨b, off, rfl, hc⟩ := a3 hp
  refine ⟨b, off, rfl, fun j u hu => ?_⟩
  have h3 := hc j u hu
  by_cases hb : b ∈ S
  · obtain rfl := hS b (by simpa using hp) rfl hb
    obtain ⟨x, rfl⟩ : ∃ x, u = .int .u8 x := by
      obtain ⟨x, _, rfl⟩ := List.mem_map.1 (List.mem_of_getElem? hu)
      exact ⟨x, rfl⟩
    rw [Blk.cell h1] at h3
    rw [Blk.cell h2]
    exact tcs5_u8 _ _ _ _ _ _ _ _ _ boxes_length rfl rfl h3
  · exact (World.cell?_of_block (hk.block b (World.block_lt_of_cell? w _ h3) hb)).trans h3

noncomputable def hmask_reg4 : Code := regionOf Try.f15 4
set_option maxRecDepth 100000 in
set_option maxHeartbeats 8000000 in
theorem mask_reg4 (R : Act → World → Prop) (a : Act) (w2 : World) (s p g N m q h : Nat) (k nn : List Int) (D F : Array Value) (v1 v3 : Value) (hk : B16 k) (hnn : N12 nn) (hq : q < 65536) (hDn : Hid (D = (nn.map (Value.int .u8)).toArray)) (hD : Hid (D.size = 12)) (hFn : Hid (F = ((Aes.turn k (Gcm.ctr nn q)).map (Value.int .u8)).toArray)) (hF0 : Hid (F.size = 16)) (hF1 : Hid (F.all (·.oneCell') = true)) (hm : m ≤ 1000000) (hne : Hid (N ∉ [g] ∧ s ∉ [g]))
    (hBN : Hid (Blk w2 N 25 D)) (hBS : Hid (SB w2 s p h)) (hAT : Hid (AT w2 g m)) (hAK : Hid (AK w2 p g k))
    (hF : Fr 55 [(0, .pointer (some ⟨s, 0, none⟩)), (1, v1), (3, v3), (6, .pointer (some ⟨N, 0, none⟩)), (8, .int .u32 (q : Nat))] a)
    (hR : Hid (∀ a' w' mB, Fr 55 [(0, .pointer (some ⟨s, 0, none⟩)), (1, v1), (3, v3), (6, .pointer (some ⟨N, 0, none⟩)), (8, .int .u32 (q : Nat)), (9, .pointer (some ⟨mB, 0, none⟩))] a' → Blk w' mB 23 F → w2.heap.size ≤ mB → AT w' g (m + 1) → Keep [g] w2 w' → R a' w')) :
    Code.wp Try.prog hmask_reg4 (OutN R) a w2 := by
  have LN : ∀ W, Keep [g] w2 W → Blk W N 25 D := fun W h => hBN.out.keep h hne.out.1
  have LS : ∀ W, Keep [g] w2 W → W.cell? ⟨s, 0, none⟩ = some (.pointer (some ⟨p, 0, none⟩)) := fun W hh => (hBS.out.keep hh hne.out.2).key
  have LA : ∀ W, Keep [] w2 W → AT W g m := fun W h => hAT.out.keep h (by simp)
  have LK : ∀ W, Keep [] w2 W → AK W p g k := fun W h => hAK.out.keep h (by simp)
  have CC := fun w => counter_any nn hnn q hq w
  rw [arr_agg, ← hDn.out] at CC
  have CU := fun w h1 h2 => aTurnC w p g m k _ h1 h2 hm hk (ctr_b16 hnn q hq)
  rw [arr_agg (Aes.turn k (Gcm.ctr nn q)), ← hFn.out] at CU
  have hgl := hAT.out.lt
  obtain ⟨Z, hZ, hZs, hZi⟩ := blk16
  have HZI := Lib.hid hZi
  have HZS := Lib.hid hZs
  clear hZ hZs hZi hm hq
  obtain ⟨f, ⟨f0, f1, f3, f6, f8, -⟩, rfl⟩ := hF.open55
  simp only [f0, f1, f3, f6, f8]
  clear f0 f1 f3 f6 f8 hF
  conv => arg 2; whnf
  refine wp_region_any (by kernel_rfl) ?_
  change wpAny _ _ _ _ _ _ _ (World.drew _)
  obtain ⟨W0, hW0⟩ : ∃ W0, W0 = w2.drew := ⟨_, rfl⟩
  rw [← hW0]
  have hk0 : Keep [] w2 W0 := by rw [hW0]; exact (Keep.refl [] w2).drew
  have hg0 : Keep [g] w2 W0 := hk0.more0
  clear hW0
  go_simp
  refine wpAny_take (i := 0) (v := ?_) rfl (by kernel_rfl) (by kernel_rfl) (by kernel_rfl) (fun _ _ _ h => h) (Or.inl ⟨by rfl, ?_⟩) ?_
  rotate_left
  · intro y; go_simp; try (with_reducible rfl)
  rotate_left
  go_simp
  refine wpAny_take (i := 1) (v := ?_) rfl (by kernel_rfl) (by kernel_rfl) (by kernel_rfl) (fun _ _ _ h => h) (Or.inl ⟨by rfl, ?_⟩) ?_
  rotate_left
  · intro y; go_simp; try (with_reducible rfl)
  rotate_left
  go_simp
  refine wpAny_take (i := 2) (v := ?_) rfl (by kernel_rfl) (by kernel_rfl) (by kernel_rfl) (fun _ _ _ h => h) (Or.inl ⟨by rfl, ?_⟩) ?_
  rotate_left
  · intro y; go_simp; try (with_reducible rfl)
  rotate_left
  go_simp
  refine wpAny_take (i := 5) (v := ?_) rfl (by kernel_rfl) (by kernel_rfl) (by kernel_rfl) (fun _ _ _ h => h) (Or.inl ⟨by rfl, ?_⟩) ?_
  rotate_left
  · intro y; go_simp; try (with_reducible rfl)
  rotate_left
  go_simp
  refine wpAny_ready (rs := [3, 4, 8]) (by kernel_rfl) (by simp) ?_
  refine AllReady.cons rfl (fun K hK => ?_) ?_
  ·
    apply step_wp
    · rfl
    have q := LS _ hg0
    refine ow_load1 _ _ rfl ⟨s, 0, none⟩ rfl (.pointer (some ⟨p, 0, none⟩)) (by simp [go_sem, q]) ?_
    clear q
    apply hK
    clear hK K
    go_simp
    refine wpAny_ready (rs := [4, 8]) (by kernel_rfl) (by simp) ?_
    refine AllReady.cons rfl (fun K hK => ?_) ?_
    ·
      apply step_wp
      · rfl
      refine ow_load _ _ rfl N rfl 12 5 Try.underlying25 _ D (LN _ hg0) (by rw [hD.out]; exact nonceCells') ?_
      apply hK
      clear hK K
      go_simp
      refine wpAny_ready (rs := [6, 8]) (by kernel_rfl) (by simp) ?_
      refine AllReady.cons rfl (fun K hK => ?_) ?_
      ·
        apply step_wp
        · rfl
        refine ow_call _ _ _ (by kernel_rfl) (CC _) ?_
        rintro e W6 ⟨rfl, hs6⟩
        refine ⟨_, rfl, ?_⟩
        have hk6 : Keep [] w2 W6 := hk0.trans hs6
        have hg6 : Keep [g] w2 W6 := hk6.more0
        clear hs6
        apply hK
        clear hK K
        go_simp
        refine wpAny_ready (rs := [7, 8]) (by kernel_rfl) (by simp) ?_
        refine AllReady.cons rfl (fun K hK => ?_) ?_
        ·
          apply step_wp
          · rfl
          refine ow_call _ _ _ (by kernel_rfl) (CU _ (LK _ hk6) (LA _ hk6)) ?_
          rintro e W7 ⟨rfl, hat, hs7⟩
          refine ⟨_, rfl, ?_⟩
          have hg7 : Keep [g] w2 W7 := hk6.more0.trans hs7
          clear hs7
          apply hK
          clear hK K
          go_simp
          refine wpAny_ready (rs := [8]) (by kernel_rfl) (by simp) ?_
          refine AllReady.cons rfl (fun K hK => ?_) ?_
          ·
            apply step_wp
            · rfl
            refine ow_alloc _ rfl Z 16 HZI.out ?_
            intro mB W8 hm8 hb8 hs8
            replace hm8 : w2.heap.size ≤ mB := by rw [hm8]; exact hg7.size
            have hg8 : Keep [g] w2 W8 := hg7.trans0 hs8
            replace hat := hat.keep hs8 (by simp)
            clear hs8
            apply hK
            clear hK K
            go_simp
            refine wpAny_ready (rs := [9]) (by kernel_rfl) (by simp) ?_
            refine AllReady.cons rfl (fun K hK => ?_) ?_
            ·
              apply step_wp
              · rfl
              refine ow_store _ _ _ rfl mB F rfl rfl _ _ hb8 (by rw [hF0.out]; exact blkCells) (by rw [hF0.out]; exact HZS.out) hF1.out ?_
              intro WF hbF hsF
              have hkF : Keep [g] w2 WF := hg8.trans' hsF (fun q hq => by right; simp at hq; omega)
              replace hat := hat.keep hsF (by simp; omega)
              clear hsF
              apply hK
              clear hK K
              go_simp
              refine wpAny_done (by kernel_rfl) ?_ _
              exact hR.out _ _ _ ⟨rfl, rfl, by repeat (first | exact trivial | refine ⟨rfl, ?_⟩)⟩ hbF hm8 hat hkF
            exact AllReady.nil
          exact AllReady.nil
        refine AllReady.cons rfl (fun K hK => ?_) ?_
        ·
          apply step_wp
          · rfl
          refine ow_alloc _ rfl Z 16 HZI.out ?_
          intro mB W8 hm8 hb8 hs8
          replace hm8 : w2.heap.size ≤ mB := by rw [hm8]; exact hg6.size
          have hk8 : Keep [] w2 W8 := hk6.trans hs8
          have hg8 : Keep [g] w2 W8 := hk8.more0
          clear hs8
          apply hK
          clear hK K
          go_simp
          refine wpAny_ready (rs := [7]) (by kernel_rfl) (by simp) ?_
          refine AllReady.cons rfl (fun K hK => ?_) ?_
          ·
            apply step_wp
            · rfl
            refine ow_call _ _ _ (by kernel_rfl) (CU _ (LK _ hk8) (LA _ hk8)) ?_
            rintro e W7 ⟨rfl, hat, hs7⟩
            refine ⟨_, rfl, ?_⟩
            have hg7 : Keep [g] w2 W7 := hk8.more0.trans hs7
            replace hb8 := hb8.keep hs7 (by simp; omega)
            clear hs7
            apply hK
            clear hK K
            go_simp
            refine wpAny_ready (rs := [9]) (by kernel_rfl) (by simp) ?_
            refine AllReady.cons rfl (fun K hK => ?_) ?_
            ·
              apply step_wp
              · rfl
              refine ow_store _ _ _ rfl mB F rfl rfl _ _ hb8 (by rw [hF0.out]; exact blkCells) (by rw [hF0.out]; exact HZS.out) hF1.out ?_
              intro WF hbF hsF
              have hkF : Keep [g] w2 WF := hg7.trans' hsF (fun q hq => by right; simp at hq; omega)
              replace hat := hat.keep hsF (by simp; omega)
              clear hsF
              apply hK
              clear hK K
              go_simp
              refine wpAny_done (by kernel_rfl) ?_ _
              exact hR.out _ _ _ ⟨rfl, rfl, by repeat (first | exact trivial | refine ⟨rfl, ?_⟩)⟩ hbF hm8 hat hkF
            exact AllReady.nil
          exact AllReady.nil
        exact AllReady.nil
      refine AllReady.cons rfl (fun K hK => ?_) ?_
      ·
        apply step_wp
        · rfl
        refine ow_alloc _ rfl Z 16 HZI.out ?_
        intro mB W8 hm8 hb8 hs8
        replace hm8 : w2.heap.size ≤ mB := by rw [hm8]; exact hg0.size
        have hk8 : Keep [] w2 W8 := hk0.trans hs8
        have hg8 : Keep [g] w2 W8 := hk8.more0
        clear hs8
        apply hK
        clear hK K
        go_simp
        refine wpAny_ready (rs := [6]) (by kernel_rfl) (by simp) ?_
        refine AllReady.cons rfl (fun K hK => ?_) ?_
        ·
          apply step_wp
          · rfl
          refine ow_call _ _ _ (by kernel_rfl) (CC _) ?_
          rintro e W6 ⟨rfl, hs6⟩
          refine ⟨_, rfl, ?_⟩
          have hk6 : Keep [] w2 W6 := hk8.trans hs6
          have hg6 : Keep [g] w2 W6 := hk6.more0
          replace hb8 := hb8.keep hs6 (by simp)
          clear hs6
          apply hK
          clear hK K
          go_simp
          refine wpAny_ready (rs := [7]) (by kernel_rfl) (by simp) ?_
          refine AllReady.cons rfl (fun K hK => ?_) ?_
          ·
            apply step_wp
            · rfl
            refine ow_call _ _ _ (by kernel_rfl) (CU _ (LK _ hk6) (LA _ hk6)) ?_
            rintro e W7 ⟨rfl, hat, hs7⟩
            refine ⟨_, rfl, ?_⟩
            have hg7 : Keep [g] w2 W7 := hk6.more0.trans hs7
            replace hb8 := hb8.keep hs7 (by simp; omega)
            clear hs7
            apply hK
            clear hK K
            go_simp
            refine wpAny_ready (rs := [9]) (by kernel_rfl) (by simp) ?_
            refine AllReady.cons rfl (fun K hK => ?_) ?_
            ·
              apply step_wp
              · rfl
              refine ow_store _ _ _ rfl mB F rfl rfl _ _ hb8 (by rw [hF0.out]; exact blkCells) (by rw [hF0.out]; exact HZS.out) hF1.out ?_
              intro WF hbF hsF
              have hkF : Keep [g] w2 WF := hg7.trans' hsF (fun q hq => by right; simp at hq; omega)
              replace hat := hat.keep hsF (by simp; omega)
              clear hsF
              apply hK
              clear hK K
              go_simp
              refine wpAny_done (by kernel_rfl) ?_ _
              exact hR.out _ _ _ ⟨rfl, rfl, by repeat (first | exact trivial | refine ⟨rfl, ?_⟩)⟩ hbF hm8 hat hkF
            exact AllReady.nil
          exact AllReady.nil
        exact AllReady.nil
      exact AllReady.nil
    refine AllReady.cons rfl (fun K hK => ?_) ?_
    ·
      apply step_wp
      · rfl
      refine ow_alloc _ rfl Z 16 HZI.out ?_
      intro mB W8 hm8 hb8 hs8
      replace hm8 : w2.heap.size ≤ mB := by rw [hm8]; exact hg0.size
      have hk8 : Keep [] w2 W8 := hk0.trans hs8
      have hg8 : Keep [g] w2 W8 := hk8.more0
      clear hs8
      apply hK
      clear hK K
      go_simp
      refine wpAny_ready (rs := [4]) (by kernel_rfl) (by simp) ?_
      refine AllReady.cons rfl (fun K hK => ?_) ?_
      ·
        apply step_wp
        · rfl
        refine ow_load _ _ rfl N rfl 12 5 Try.underlying25 _ D (LN _ hg8) (by rw [hD.out]; exact nonceCells') ?_
        apply hK
        clear hK K
        go_simp
        refine wpAny_ready (rs := [6]) (by kernel_rfl) (by simp) ?_
        refine AllReady.cons rfl (fun K hK => ?_) ?_
        ·
          apply step_wp
          · rfl
          refine ow_call _ _ _ (by kernel_rfl) (CC _) ?_
          rintro e W6 ⟨rfl, hs6⟩
          refine ⟨_, rfl, ?_⟩
          have hk6 : Keep [] w2 W6 := hk8.trans hs6
          have hg6 : Keep [g] w2 W6 := hk6.more0
          replace hb8 := hb8.keep hs6 (by simp)
          clear hs6
          apply hK
          clear hK K
          go_simp
          refine wpAny_ready (rs := [7]) (by kernel_rfl) (by simp) ?_
          refine AllReady.cons rfl (fun K hK => ?_) ?_
          ·
            apply step_wp
            · rfl
            refine ow_call _ _ _ (by kernel_rfl) (CU _ (LK _ hk6) (LA _ hk6)) ?_
            rintro e W7 ⟨rfl, hat, hs7⟩
            refine ⟨_, rfl, ?_⟩
            have hg7 : Keep [g] w2 W7 := hk6.more0.trans hs7
            replace hb8 := hb8.keep hs7 (by simp; omega)
            clear hs7
            apply hK
            clear hK K
            go_simp
            refine wpAny_ready (rs := [9]) (by kernel_rfl) (by simp) ?_
            refine AllReady.cons rfl (fun K hK => ?_) ?_
            ·
              apply step_wp
              · rfl
              refine ow_store _ _ _ rfl mB F rfl rfl _ _ hb8 (by rw [hF0.out]; exact blkCells) (by rw [hF0.out]; exact HZS.out) hF1.out ?_
              intro WF hbF hsF
              have hkF : Keep [g] w2 WF := hg7.trans' hsF (fun q hq => by right; simp at hq; omega)
              replace hat := hat.keep hsF (by simp; omega)
              clear hsF
              apply hK
              clear hK K
              go_simp
              refine wpAny_done (by kernel_rfl) ?_ _
              exact hR.out _ _ _ ⟨rfl, rfl, by repeat (first | exact trivial | refine ⟨rfl, ?_⟩)⟩ hbF hm8 hat hkF
            exact AllReady.nil
          exact AllReady.nil
        exact AllReady.nil
      exact AllReady.nil
    exact AllReady.nil
  refine AllReady.cons rfl (fun K hK => ?_) ?_
  ·
    apply step_wp
    · rfl
    refine ow_load _ _ rfl N rfl 12 5 Try.underlying25 _ D (LN _ hg0) (by rw [hD.out]; exact nonceCells') ?_
    apply hK
    clear hK K
    go_simp
    refine wpAny_ready (rs := [3, 6, 8]) (by kernel_rfl) (by simp) ?_
    refine AllReady.cons rfl (fun K hK => ?_) ?_
    ·
      apply step_wp
      · rfl
      have q := LS _ hg0
      refine ow_load1 _ _ rfl ⟨s, 0, none⟩ rfl (.pointer (some ⟨p, 0, none⟩)) (by simp [go_sem, q]) ?_
      clear q
      apply hK
      clear hK K
      go_simp
      refine wpAny_ready (rs := [6, 8]) (by kernel_rfl) (by simp) ?_
      refine AllReady.cons rfl (fun K hK => ?_) ?_
      ·
        apply step_wp
        · rfl
        refine ow_call _ _ _ (by kernel_rfl) (CC _) ?_
        rintro e W6 ⟨rfl, hs6⟩
        refine ⟨_, rfl, ?_⟩
        have hk6 : Keep [] w2 W6 := hk0.trans hs6
        have hg6 : Keep [g] w2 W6 := hk6.more0
        clear hs6
        apply hK
        clear hK K
        go_simp
        refine wpAny_ready (rs := [7, 8]) (by kernel_rfl) (by simp) ?_
        refine AllReady.cons rfl (fun K hK => ?_) ?_
        ·
          apply step_wp
          · rfl
          refine ow_call _ _ _ (by kernel_rfl) (CU _ (LK _ hk6) (LA _ hk6)) ?_
          rintro e W7 ⟨rfl, hat, hs7⟩
          refine ⟨_, rfl, ?_⟩
          have hg7 : Keep [g] w2 W7 := hk6.more0.trans hs7
          clear hs7
          apply hK
          clear hK K
          go_simp
          refine wpAny_ready (rs := [8]) (by kernel_rfl) (by simp) ?_
          refine AllReady.cons rfl (fun K hK => ?_) ?_
          ·
            apply step_wp
            · rfl
            refine ow_alloc _ rfl Z 16 HZI.out ?_
            intro mB W8 hm8 hb8 hs8
            replace hm8 : w2.heap.size ≤ mB := by rw [hm8]; exact hg7.size
            have hg8 : Keep [g] w2 W8 := hg7.trans0 hs8
            replace hat := hat.keep hs8 (by simp)
            clear hs8
            apply hK
            clear hK K
            go_simp
            refine wpAny_ready (rs := [9]) (by kernel_rfl) (by simp) ?_
            refine AllReady.cons rfl (fun K hK => ?_) ?_
            ·
              apply step_wp
              · rfl
              refine ow_store _ _ _ rfl mB F rfl rfl _ _ hb8 (by rw [hF0.out]; exact blkCells) (by rw [hF0.out]; exact HZS.out) hF1.out ?_
              intro WF hbF hsF
              have hkF : Keep [g] w2 WF := hg8.trans' hsF (fun q hq => by right; simp at hq; omega)
              replace hat := hat.keep hsF (by simp; omega)
              clear hsF
              apply hK
              clear hK K
              go_simp
              refine wpAny_done (by kernel_rfl) ?_ _
              exact hR.out _ _ _ ⟨rfl, rfl, by repeat (first | exact trivial | refine ⟨rfl, ?_⟩)⟩ hbF hm8 hat hkF
            exact AllReady.nil
          exact AllReady.nil
        refine AllReady.cons rfl (fun K hK => ?_) ?_
        ·
          apply step_wp
          · rfl
          refine ow_alloc _ rfl Z 16 HZI.out ?_
          intro mB W8 hm8 hb8 hs8
          replace hm8 : w2.heap.size ≤ mB := by rw [hm8]; exact hg6.size
          have hk8 : Keep [] w2 W8 := hk6.trans hs8
          have hg8 : Keep [g] w2 W8 := hk8.more0
          clear hs8
          apply hK
          clear hK K
          go_simp
          refine wpAny_ready (rs := [7]) (by kernel_rfl) (by simp) ?_
          refine AllReady.cons rfl (fun K hK => ?_) ?_
          ·
            apply step_wp
            · rfl
            refine ow_call _ _ _ (by kernel_rfl) (CU _ (LK _ hk8) (LA _ hk8)) ?_
            rintro e W7 ⟨rfl, hat, hs7⟩
            refine ⟨_, rfl, ?_⟩
            have hg7 : Keep [g] w2 W7 := hk8.more0.trans hs7
            replace hb8 := hb8.keep hs7 (by simp; omega)
            clear hs7
            apply hK
            clear hK K
            go_simp
            refine wpAny_ready (rs := [9]) (by kernel_rfl) (by simp) ?_
            refine AllReady.cons rfl (fun K hK => ?_) ?_
            ·
              apply step_wp
              · rfl
              refine ow_store _ _ _ rfl mB F rfl rfl _ _ hb8 (by rw [hF0.out]; exact blkCells) (by rw [hF0.out]; exact HZS.out) hF1.out ?_
              intro WF hbF hsF
              have hkF : Keep [g] w2 WF := hg7.trans' hsF (fun q hq => by right; simp at hq; omega)
              replace hat := hat.keep hsF (by simp; omega)
              clear hsF
              apply hK
              clear hK K
              go_simp
              refine wpAny_done (by kernel_rfl) ?_ _
              exact hR.out _ _ _ ⟨rfl, rfl, by repeat (first | exact trivial | refine ⟨rfl, ?_⟩)⟩ hbF hm8 hat hkF
            exact AllReady.nil
          exact AllReady.nil
        exact AllReady.nil
      refine AllReady.cons rfl (fun K hK => ?_) ?_
      ·
        apply step_wp
        · rfl
        refine ow_alloc _ rfl Z 16 HZI.out ?_
        intro mB W8 hm8 hb8 hs8
        replace hm8 : w2.heap.size ≤ mB := by rw [hm8]; exact hg0.size
        have hk8 : Keep [] w2 W8 := hk0.trans hs8
        have hg8 : Keep [g] w2 W8 := hk8.more0
        clear hs8
        apply hK
        clear hK K
        go_simp
        refine wpAny_ready (rs := [6]) (by kernel_rfl) (by simp) ?_
        refine AllReady.cons rfl (fun K hK => ?_) ?_
        ·
          apply step_wp
          · rfl
          refine ow_call _ _ _ (by kernel_rfl) (CC _) ?_
          rintro e W6 ⟨rfl, hs6⟩
          refine ⟨_, rfl, ?_⟩
          have hk6 : Keep [] w2 W6 := hk8.trans hs6
          have hg6 : Keep [g] w2 W6 := hk6.more0
          replace hb8 := hb8.keep hs6 (by simp)
          clear hs6
          apply hK
          clear hK K
          go_simp
          refine wpAny_ready (rs := [7]) (by kernel_rfl) (by simp) ?_
          refine AllReady.cons rfl (fun K hK => ?_) ?_
          ·
            apply step_wp
            · rfl
            refine ow_call _ _ _ (by kernel_rfl) (CU _ (LK _ hk6) (LA _ hk6)) ?_
            rintro e W7 ⟨rfl, hat, hs7⟩
            refine ⟨_, rfl, ?_⟩
            have hg7 : Keep [g] w2 W7 := hk6.more0.trans hs7
            replace hb8 := hb8.keep hs7 (by simp; omega)
            clear hs7
            apply hK
            clear hK K
            go_simp
            refine wpAny_ready (rs := [9]) (by kernel_rfl) (by simp) ?_
            refine AllReady.cons rfl (fun K hK => ?_) ?_
            ·
              apply step_wp
              · rfl
              refine ow_store _ _ _ rfl mB F rfl rfl _ _ hb8 (by rw [hF0.out]; exact blkCells) (by rw [hF0.out]; exact HZS.out) hF1.out ?_
              intro WF hbF hsF
              have hkF : Keep [g] w2 WF := hg7.trans' hsF (fun q hq => by right; simp at hq; omega)
              replace hat := hat.keep hsF (by simp; omega)
              clear hsF
              apply hK
              clear hK K
              go_simp
              refine wpAny_done (by kernel_rfl) ?_ _
              exact hR.out _ _ _ ⟨rfl, rfl, by repeat (first | exact trivial | refine ⟨rfl, ?_⟩)⟩ hbF hm8 hat hkF
            exact AllReady.nil
          exact AllReady.nil
        exact AllReady.nil
      exact AllReady.nil
    refine AllReady.cons rfl (fun K hK => ?_) ?_
    ·
      apply step_wp
      · rfl
      refine ow_call _ _ _ (by kernel_rfl) (CC _) ?_
      rintro e W6 ⟨rfl, hs6⟩
      refine ⟨_, rfl, ?_⟩
      have hk6 : Keep [] w2 W6 := hk0.trans hs6
      have hg6 : Keep [g] w2 W6 := hk6.more0
      clear hs6
      apply hK
      clear hK K
      go_simp
      refine wpAny_ready (rs := [3, 8]) (by kernel_rfl) (by simp) ?_
      refine AllReady.cons rfl (fun K hK => ?_) ?_
      ·
        apply step_wp
        · rfl
        have q := LS _ hg6
        refine ow_load1 _ _ rfl ⟨s, 0, none⟩ rfl (.pointer (some ⟨p, 0, none⟩)) (by simp [go_sem, q]) ?_
        clear q
        apply hK
        clear hK K
        go_simp
        refine wpAny_ready (rs := [7, 8]) (by kernel_rfl) (by simp) ?_
        refine AllReady.cons rfl (fun K hK => ?_) ?_
        ·
          apply step_wp
          · rfl
          refine ow_call _ _ _ (by kernel_rfl) (CU _ (LK _ hk6) (LA _ hk6)) ?_
          rintro e W7 ⟨rfl, hat, hs7⟩
          refine ⟨_, rfl, ?_⟩
          have hg7 : Keep [g] w2 W7 := hk6.more0.trans hs7
          clear hs7
          apply hK
          clear hK K
          go_simp
          refine wpAny_ready (rs := [8]) (by kernel_rfl) (by simp) ?_
          refine AllReady.cons rfl (fun K hK => ?_) ?_
          ·
            apply step_wp
            · rfl
            refine ow_alloc _ rfl Z 16 HZI.out ?_
            intro mB W8 hm8 hb8 hs8
            replace hm8 : w2.heap.size ≤ mB := by rw [hm8]; exact hg7.size
            have hg8 : Keep [g] w2 W8 := hg7.trans0 hs8
            replace hat := hat.keep hs8 (by simp)
            clear hs8
            apply hK
            clear hK K
            go_simp
            refine wpAny_ready (rs := [9]) (by kernel_rfl) (by simp) ?_
            refine AllReady.cons rfl (fun K hK => ?_) ?_
            ·
              apply step_wp
              · rfl
              refine ow_store _ _ _ rfl mB F rfl rfl _ _ hb8 (by rw [hF0.out]; exact blkCells) (by rw [hF0.out]; exact HZS.out) hF1.out ?_
              intro WF hbF hsF
              have hkF : Keep [g] w2 WF := hg8.trans' hsF (fun q hq => by right; simp at hq; omega)
              replace hat := hat.keep hsF (by simp; omega)
              clear hsF
              apply hK
              clear hK K
              go_simp
              refine wpAny_done (by kernel_rfl) ?_ _
              exact hR.out _ _ _ ⟨rfl, rfl, by repeat (first | exact trivial | refine ⟨rfl, ?_⟩)⟩ hbF hm8 hat hkF
            exact AllReady.nil
          exact AllReady.nil
        refine AllReady.cons rfl (fun K hK => ?_) ?_
        ·
          apply step_wp
          · rfl
          refine ow_alloc _ rfl Z 16 HZI.out ?_
          intro mB W8 hm8 hb8 hs8
          replace hm8 : w2.heap.size ≤ mB := by rw [hm8]; exact hg6.size
          have hk8 : Keep [] w2 W8 := hk6.trans hs8
          have hg8 : Keep [g] w2 W8 := hk8.more0
          clear hs8
          apply hK
          clear hK K
          go_simp
          refine wpAny_ready (rs := [7]) (by kernel_rfl) (by simp) ?_
          refine AllReady.cons rfl (fun K hK => ?_) ?_
          ·
            apply step_wp
            · rfl
            refine ow_call _ _ _ (by kernel_rfl) (CU _ (LK _ hk8) (LA _ hk8)) ?_
            rintro e W7 ⟨rfl, hat, hs7⟩
            refine ⟨_, rfl, ?_⟩
            have hg7 : Keep [g] w2 W7 := hk8.more0.trans hs7
            replace hb8 := hb8.keep hs7 (by simp; omega)
            clear hs7
            apply hK
            clear hK K
            go_simp
            refine wpAny_ready (rs := [9]) (by kernel_rfl) (by simp) ?_
            refine AllReady.cons rfl (fun K hK => ?_) ?_
            ·
              apply step_wp
              · rfl
              refine ow_store _ _ _ rfl mB F rfl rfl _ _ hb8 (by rw [hF0.out]; exact blkCells) (by rw [hF0.out]; exact HZS.out) hF1.out ?_
              intro WF hbF hsF
              have hkF : Keep [g] w2 WF := hg7.trans' hsF (fun q hq => by right; simp at hq; omega)
              replace hat := hat.keep hsF (by simp; omega)
              clear hsF
              apply hK
              clear hK K
              go_simp
              refine wpAny_done (by kernel_rfl) ?_ _
              exact hR.out _ _ _ ⟨rfl, rfl, by repeat (first | exact trivial | refine ⟨rfl, ?_⟩)⟩ hbF hm8 hat hkF
            exact AllReady.nil
          exact AllReady.nil
        exact AllReady.nil
      refine AllReady.cons rfl (fun K hK => ?_) ?_
      ·
        apply step_wp
        · rfl
        refine ow_alloc _ rfl Z 16 HZI.out ?_
        intro mB W8 hm8 hb8 hs8
        replace hm8 : w2.heap.size ≤ mB := by rw [hm8]; exact hg6.size
        have hk8 : Keep [] w2 W8 := hk6.trans hs8
        have hg8 : Keep [g] w2 W8 := hk8.more0
        clear hs8
        apply hK
        clear hK K
        go_simp
        refine wpAny_ready (rs := [3]) (by kernel_rfl) (by simp) ?_
        refine AllReady.cons rfl (fun K hK => ?_) ?_
        ·
          apply step_wp
          · rfl
          have q := LS _ hg8
          refine ow_load1 _ _ rfl ⟨s, 0, none⟩ rfl (.pointer (some ⟨p, 0, none⟩)) (by simp [go_sem, q]) ?_
          clear q
          apply hK
          clear hK K
          go_simp
          refine wpAny_ready (rs := [7]) (by kernel_rfl) (by simp) ?_
          refine AllReady.cons rfl (fun K hK => ?_) ?_
          ·
            apply step_wp
            · rfl
            refine ow_call _ _ _ (by kernel_rfl) (CU _ (LK _ hk8) (LA _ hk8)) ?_
            rintro e W7 ⟨rfl, hat, hs7⟩
            refine ⟨_, rfl, ?_⟩
            have hg7 : Keep [g] w2 W7 := hk8.more0.trans hs7
            replace hb8 := hb8.keep hs7 (by simp; omega)
            clear hs7
            apply hK
            clear hK K
            go_simp
            refine wpAny_ready (rs := [9]) (by kernel_rfl) (by simp) ?_
            refine AllReady.cons rfl (fun K hK => ?_) ?_
            ·
              apply step_wp
              · rfl
              refine ow_store _ _ _ rfl mB F rfl rfl _ _ hb8 (by rw [hF0.out]; exact blkCells) (by rw [hF0.out]; exact HZS.out) hF1.out ?_
              intro WF hbF hsF
              have hkF : Keep [g] w2 WF := hg7.trans' hsF (fun q hq => by right; simp at hq; omega)
              replace hat := hat.keep hsF (by simp; omega)
              clear hsF
              apply hK
              clear hK K
              go_simp
              refine wpAny_done (by kernel_rfl) ?_ _
              exact hR.out _ _ _ ⟨rfl, rfl, by repeat (first | exact trivial | refine ⟨rfl, ?_⟩)⟩ hbF hm8 hat hkF
            exact AllReady.nil
          exact AllReady.nil
        exact AllReady.nil
      exact AllReady.nil
    refine AllReady.cons rfl (fun K hK => ?_) ?_
    ·
      apply step_wp
      · rfl
      refine ow_alloc _ rfl Z 16 HZI.out ?_
      intro mB W8 hm8 hb8 hs8
      replace hm8 : w2.heap.size ≤ mB := by rw [hm8]; exact hg0.size
      have hk8 : Keep [] w2 W8 := hk0.trans hs8
      have hg8 : Keep [g] w2 W8 := hk8.more0
      clear hs8
      apply hK
      clear hK K
      go_simp
      refine wpAny_ready (rs := [3, 6]) (by kernel_rfl) (by simp) ?_
      refine AllReady.cons rfl (fun K hK => ?_) ?_
      ·
        apply step_wp
        · rfl
        have q := LS _ hg8
        refine ow_load1 _ _ rfl ⟨s, 0, none⟩ rfl (.pointer (some ⟨p, 0, none⟩)) (by simp [go_sem, q]) ?_
        clear q
        apply hK
        clear hK K
        go_simp
        refine wpAny_ready (rs := [6]) (by kernel_rfl) (by simp) ?_
        refine AllReady.cons rfl (fun K hK => ?_) ?_
        ·
          apply step_wp
          · rfl
          refine ow_call _ _ _ (by kernel_rfl) (CC _) ?_
          rintro e W6 ⟨rfl, hs6⟩
          refine ⟨_, rfl, ?_⟩
          have hk6 : Keep [] w2 W6 := hk8.trans hs6
          have hg6 : Keep [g] w2 W6 := hk6.more0
          replace hb8 := hb8.keep hs6 (by simp)
          clear hs6
          apply hK
          clear hK K
          go_simp
          refine wpAny_ready (rs := [7]) (by kernel_rfl) (by simp) ?_
          refine AllReady.cons rfl (fun K hK => ?_) ?_
          ·
            apply step_wp
            · rfl
            refine ow_call _ _ _ (by kernel_rfl) (CU _ (LK _ hk6) (LA _ hk6)) ?_
            rintro e W7 ⟨rfl, hat, hs7⟩
            refine ⟨_, rfl, ?_⟩
            have hg7 : Keep [g] w2 W7 := hk6.more0.trans hs7
            replace hb8 := hb8.keep hs7 (by simp; omega)
            clear hs7
            apply hK
            clear hK K
            go_simp
            refine wpAny_ready (rs := [9]) (by kernel_rfl) (by simp) ?_
            refine AllReady.cons rfl (fun K hK => ?_) ?_
            ·
              apply step_wp
              · rfl
              refine ow_store _ _ _ rfl mB F rfl rfl _ _ hb8 (by rw [hF0.out]; exact blkCells) (by rw [hF0.out]; exact HZS.out) hF1.out ?_
              intro WF hbF hsF
              have hkF : Keep [g] w2 WF := hg7.trans' hsF (fun q hq => by right; simp at hq; omega)
              replace hat := hat.keep hsF (by simp; omega)
              clear hsF
              apply hK
              clear hK K
              go_simp
              refine wpAny_done (by kernel_rfl) ?_ _
              exact hR.out _ _ _ ⟨rfl, rfl, by repeat (first | exact trivial | refine ⟨rfl, ?_⟩)⟩ hbF hm8 hat hkF
            exact AllReady.nil
          exact AllReady.nil
        exact AllReady.nil
      refine AllReady.cons rfl (fun K hK => ?_) ?_
      ·
        apply step_wp
        · rfl
        refine ow_call _ _ _ (by kernel_rfl) (CC _) ?_
        rintro e W6 ⟨rfl, hs6⟩
        refine ⟨_, rfl, ?_⟩
        have hk6 : Keep [] w2 W6 := hk8.trans hs6
        have hg6 : Keep [g] w2 W6 := hk6.more0
        replace hb8 := hb8.keep hs6 (by simp)
        clear hs6
        apply hK
        clear hK K
        go_simp
        refine wpAny_ready (rs := [3]) (by kernel_rfl) (by simp) ?_
        refine AllReady.cons rfl (fun K hK => ?_) ?_
        ·
          apply step_wp
          · rfl
          have q := LS _ hg6
          refine ow_load1 _ _ rfl ⟨s, 0, none⟩ rfl (.pointer (some ⟨p, 0, none⟩)) (by simp [go_sem, q]) ?_
          clear q
          apply hK
          clear hK K
          go_simp
          refine wpAny_ready (rs := [7]) (by kernel_rfl) (by simp) ?_
          refine AllReady.cons rfl (fun K hK => ?_) ?_
          ·
            apply step_wp
            · rfl
            refine ow_call _ _ _ (by kernel_rfl) (CU _ (LK _ hk6) (LA _ hk6)) ?_
            rintro e W7 ⟨rfl, hat, hs7⟩
            refine ⟨_, rfl, ?_⟩
            have hg7 : Keep [g] w2 W7 := hk6.more0.trans hs7
            replace hb8 := hb8.keep hs7 (by simp; omega)
            clear hs7
            apply hK
            clear hK K
            go_simp
            refine wpAny_ready (rs := [9]) (by kernel_rfl) (by simp) ?_
            refine AllReady.cons rfl (fun K hK => ?_) ?_
            ·
              apply step_wp
              · rfl
              refine ow_store _ _ _ rfl mB F rfl rfl _ _ hb8 (by rw [hF0.out]; exact blkCells) (by rw [hF0.out]; exact HZS.out) hF1.out ?_
              intro WF hbF hsF
              have hkF : Keep [g] w2 WF := hg7.trans' hsF (fun q hq => by right; simp at hq; omega)
              replace hat := hat.keep hsF (by simp; omega)
              clear hsF
              apply hK
              clear hK K
              go_simp
              refine wpAny_done (by kernel_rfl) ?_ _
              exact hR.out _ _ _ ⟨rfl, rfl, by repeat (first | exact trivial | refine ⟨rfl, ?_⟩)⟩ hbF hm8 hat hkF
            exact AllReady.nil
          exact AllReady.nil
        exact AllReady.nil
      exact AllReady.nil
    exact AllReady.nil
  refine AllReady.cons rfl (fun K hK => ?_) ?_
  ·
    apply step_wp
    · rfl
    refine ow_alloc _ rfl Z 16 HZI.out ?_
    intro mB W8 hm8 hb8 hs8
    replace hm8 : w2.heap.size ≤ mB := by rw [hm8]; exact hg0.size
    have hk8 : Keep [] w2 W8 := hk0.trans hs8
    have hg8 : Keep [g] w2 W8 := hk8.more0
    clear hs8
    apply hK
    clear hK K
    go_simp
    refine wpAny_ready (rs := [3, 4]) (by kernel_rfl) (by simp) ?_
    refine AllReady.cons rfl (fun K hK => ?_) ?_
    ·
      apply step_wp
      · rfl
      have q := LS _ hg8
      refine ow_load1 _ _ rfl ⟨s, 0, none⟩ rfl (.pointer (some ⟨p, 0, none⟩)) (by simp [go_sem, q]) ?_
      clear q
      apply hK
      clear hK K
      go_simp
      refine wpAny_ready (rs := [4]) (by kernel_rfl) (by simp) ?_
      refine AllReady.cons rfl (fun K hK => ?_) ?_
      ·
        apply step_wp
        · rfl
        refine ow_load _ _ rfl N rfl 12 5 Try.underlying25 _ D (LN _ hg8) (by rw [hD.out]; exact nonceCells') ?_
        apply hK
        clear hK K
        go_simp
        refine wpAny_ready (rs := [6]) (by kernel_rfl) (by simp) ?_
        refine AllReady.cons rfl (fun K hK => ?_) ?_
        ·
          apply step_wp
          · rfl
          refine ow_call _ _ _ (by kernel_rfl) (CC _) ?_
          rintro e W6 ⟨rfl, hs6⟩
          refine ⟨_, rfl, ?_⟩
          have hk6 : Keep [] w2 W6 := hk8.trans hs6
          have hg6 : Keep [g] w2 W6 := hk6.more0
          replace hb8 := hb8.keep hs6 (by simp)
          clear hs6
          apply hK
          clear hK K
          go_simp
          refine wpAny_ready (rs := [7]) (by kernel_rfl) (by simp) ?_
          refine AllReady.cons rfl (fun K hK => ?_) ?_
          ·
            apply step_wp
            · rfl
            refine ow_call _ _ _ (by kernel_rfl) (CU _ (LK _ hk6) (LA _ hk6)) ?_
            rintro e W7 ⟨rfl, hat, hs7⟩
            refine ⟨_, rfl, ?_⟩
            have hg7 : Keep [g] w2 W7 := hk6.more0.trans hs7
            replace hb8 := hb8.keep hs7 (by simp; omega)
            clear hs7
            apply hK
            clear hK K
            go_simp
            refine wpAny_ready (rs := [9]) (by kernel_rfl) (by simp) ?_
            refine AllReady.cons rfl (fun K hK => ?_) ?_
            ·
              apply step_wp
              · rfl
              refine ow_store _ _ _ rfl mB F rfl rfl _ _ hb8 (by rw [hF0.out]; exact blkCells) (by rw [hF0.out]; exact HZS.out) hF1.out ?_
              intro WF hbF hsF
              have hkF : Keep [g] w2 WF := hg7.trans' hsF (fun q hq => by right; simp at hq; omega)
              replace hat := hat.keep hsF (by simp; omega)
              clear hsF
              apply hK
              clear hK K
              go_simp
              refine wpAny_done (by kernel_rfl) ?_ _
              exact hR.out _ _ _ ⟨rfl, rfl, by repeat (first | exact trivial | refine ⟨rfl, ?_⟩)⟩ hbF hm8 hat hkF
            exact AllReady.nil
          exact AllReady.nil
        exact AllReady.nil
      exact AllReady.nil
    refine AllReady.cons rfl (fun K hK => ?_) ?_
    ·
      apply step_wp
      · rfl
      refine ow_load _ _ rfl N rfl 12 5 Try.underlying25 _ D (LN _ hg8) (by rw [hD.out]; exact nonceCells') ?_
      apply hK
      clear hK K
      go_simp
      refine wpAny_ready (rs := [3, 6]) (by kernel_rfl) (by simp) ?_
      refine AllReady.cons rfl (fun K hK => ?_) ?_
      ·
        apply step_wp
        · rfl
        have q := LS _ hg8
        refine ow_load1 _ _ rfl ⟨s, 0, none⟩ rfl (.pointer (some ⟨p, 0, none⟩)) (by simp [go_sem, q]) ?_
        clear q
        apply hK
        clear hK K
        go_simp
        refine wpAny_ready (rs := [6]) (by kernel_rfl) (by simp) ?_
        refine AllReady.cons rfl (fun K hK => ?_) ?_
        ·
          apply step_wp
          · rfl
          refine ow_call _ _ _ (by kernel_rfl) (CC _) ?_
          rintro e W6 ⟨rfl, hs6⟩
          refine ⟨_, rfl, ?_⟩
          have hk6 : Keep [] w2 W6 := hk8.trans hs6
          have hg6 : Keep [g] w2 W6 := hk6.more0
          replace hb8 := hb8.keep hs6 (by simp)
          clear hs6
          apply hK
          clear hK K
          go_simp
          refine wpAny_ready (rs := [7]) (by kernel_rfl) (by simp) ?_
          refine AllReady.cons rfl (fun K hK => ?_) ?_
          ·
            apply step_wp
            · rfl
            refine ow_call _ _ _ (by kernel_rfl) (CU _ (LK _ hk6) (LA _ hk6)) ?_
            rintro e W7 ⟨rfl, hat, hs7⟩
            refine ⟨_, rfl, ?_⟩
            have hg7 : Keep [g] w2 W7 := hk6.more0.trans hs7
            replace hb8 := hb8.keep hs7 (by simp; omega)
            clear hs7
            apply hK
            clear hK K
            go_simp
            refine wpAny_ready (rs := [9]) (by kernel_rfl) (by simp) ?_
            refine AllReady.cons rfl (fun K hK => ?_) ?_
            ·
              apply step_wp
              · rfl
              refine ow_store _ _ _ rfl mB F rfl rfl _ _ hb8 (by rw [hF0.out]; exact blkCells) (by rw [hF0.out]; exact HZS.out) hF1.out ?_
              intro WF hbF hsF
              have hkF : Keep [g] w2 WF := hg7.trans' hsF (fun q hq => by right; simp at hq; omega)
              replace hat := hat.keep hsF (by simp; omega)
              clear hsF
              apply hK
              clear hK K
              go_simp
              refine wpAny_done (by kernel_rfl) ?_ _
              exact hR.out _ _ _ ⟨rfl, rfl, by repeat (first | exact trivial | refine ⟨rfl, ?_⟩)⟩ hbF hm8 hat hkF
            exact AllReady.nil
          exact AllReady.nil
        exact AllReady.nil
      refine AllReady.cons rfl (fun K hK => ?_) ?_
      ·
        apply step_wp
        · rfl
        refine ow_call _ _ _ (by kernel_rfl) (CC _) ?_
        rintro e W6 ⟨rfl, hs6⟩
        refine ⟨_, rfl, ?_⟩
        have hk6 : Keep [] w2 W6 := hk8.trans hs6
        have hg6 : Keep [g] w2 W6 := hk6.more0
        replace hb8 := hb8.keep hs6 (by simp)
        clear hs6
        apply hK
        clear hK K
        go_simp
        refine wpAny_ready (rs := [3]) (by kernel_rfl) (by simp) ?_
        refine AllReady.cons rfl (fun K hK => ?_) ?_
        ·
          apply step_wp
          · rfl
          have q := LS _ hg6
          refine ow_load1 _ _ rfl ⟨s, 0, none⟩ rfl (.pointer (some ⟨p, 0, none⟩)) (by simp [go_sem, q]) ?_
          clear q
          apply hK
          clear hK K
          go_simp
          refine wpAny_ready (rs := [7]) (by kernel_rfl) (by simp) ?_
          refine AllReady.cons rfl (fun K hK => ?_) ?_
          ·
            apply step_wp
            · rfl
            refine ow_call _ _ _ (by kernel_rfl) (CU _ (LK _ hk6) (LA _ hk6)) ?_
            rintro e W7 ⟨rfl, hat, hs7⟩
            refine ⟨_, rfl, ?_⟩
            have hg7 : Keep [g] w2 W7 := hk6.more0.trans hs7
            replace hb8 := hb8.keep hs7 (by simp; omega)
            clear hs7
            apply hK
            clear hK K
            go_simp
            refine wpAny_ready (rs := [9]) (by kernel_rfl) (by simp) ?_
            refine AllReady.cons rfl (fun K hK => ?_) ?_
            ·
              apply step_wp
              · rfl
              refine ow_store _ _ _ rfl mB F rfl rfl _ _ hb8 (by rw [hF0.out]; exact blkCells) (by rw [hF0.out]; exact HZS.out) hF1.out ?_
              intro WF hbF hsF
              have hkF : Keep [g] w2 WF := hg7.trans' hsF (fun q hq => by right; simp at hq; omega)
              replace hat := hat.keep hsF (by simp; omega)
              clear hsF
              apply hK
              clear hK K
              go_simp
              refine wpAny_done (by kernel_rfl) ?_ _
              exact hR.out _ _ _ ⟨rfl, rfl, by repeat (first | exact trivial | refine ⟨rfl, ?_⟩)⟩ hbF hm8 hat hkF
            exact AllReady.nil
          exact AllReady.nil
        exact AllReady.nil
      exact AllReady.nil
    exact AllReady.nil
  exact AllReady.nil

/-- 'x[k:]', x a slice of one-cell elements. -/
theorem run_from {P : Program} {t e : TypeId} (ht : P.underlying t = some (.slice e)) (hi : (P.info? e).map (·.size) = some 1) (A : Option Addr) (n c k : Nat) (hk : k ≤ n) (W : World) :
    (Instr.sliceAt t (.slice A n c) (some (.int .i64 (k : Int))) none none).run P W = .ok (.slice (if c = k then A else A.map fun a => a.add k) (n - k) (c - k)) W := by
  obtain ⟨i, hi1, hi2⟩ := Option.map_eq_some_iff.1 hi
  have e2 : P.elem t = e := by simp [Program.elem, ht]
  have ht' : P.underlying t = some (.slice (P.elem t)) := by rw [e2]; exact ht
  rw [run_sliceAt_slice (h := ht'), run_slice_l (ht := ht') (h0 := by omega) (h1 := by omega), e2]
  simp [sizeOf, typeInfo, hi1, hi2, sliced]

/-- The first j bytes of a block, over those of another. -/
def xorF (F X : List Int) (i : Nat) : Int := ((nb F i ^^^ nb X i : Nat) : Int)
noncomputable def hmaskI : Code := loopOf Try.f15 1
set_option maxRecDepth 100000 in
set_option maxHeartbeats 8000000 in
theorem mask_inner (R : Act → World → Prop) (a : Act) (w2 : World) (B b off k cv : Nat) (F X : List Int) (v0 v1 v3 v6 v8 v10 : Value) (hF : B16 F) (hXw : Hid (∀ x ∈ X, (Lit.int .u8 x).wf = true)) (hk : k ≤ 16) (hkX : k ≤ X.length) (hbB : Hid (b ≠ B))
    (hX : Hid (∀ j, j < k → w2.cell? ⟨b, off + j, none⟩ = some (.int .u8 ((nb X j : Nat) : Int)))) (hbl : Hid (0 < k → b < w2.heap.size)) (hB : Hid (Blk w2 B 23 (F.map (Value.int .u8)).toArray))
    (hFr : Fr 55 [(0, v0), (1, v1), (3, v3), (6, v6), (8, v8), (9, .pointer (some ⟨B, 0, none⟩)), (10, v10), (31, .slice (some ⟨b, off, none⟩) k cv), (32, .int .i64 (k : Nat)), (33, .int .i64 0)] a)
    (hQ : ∀ a' w', Fr 55 [(0, v0), (1, v1), (3, v3), (6, v6), (8, v8), (9, .pointer (some ⟨B, 0, none⟩)), (10, v10)] a' → Blk w' B 23 ((upd (xorF F X) F k).map (Value.int .u8)).toArray → Keep [B] w2 w' → R a' w') :
    Code.wp Try.prog (.loop hmaskI) (OutX 2 R) a w2 := by
  refine wp_loop_ghost_k (fun m a wr => ∃ j : Nat, m + j = k ∧ Fr 55 [(0, v0), (1, v1), (3, v3), (6, v6), (8, v8), (9, .pointer (some ⟨B, 0, none⟩)), (10, v10), (31, .slice (some ⟨b, off, none⟩) k cv), (32, .int .i64 (k : Nat)), (33, .int .i64 j)] a ∧ Blk wr B 23 ((upd (xorF F X) F j).map (Value.int .u8)).toArray ∧ Keep [B] w2 wr)
    k ⟨0, rfl, hFr, by rw [upd_zero]; exact hB.out, Keep.refl _ _⟩ ?_
  clear hFr hB
  rintro m a wr ⟨j, hmj, hFr, h1, hk1⟩ J K hJ hK1
  have HJ := Lib.hid hJ
  have HM := Lib.hid hmj
  have HB := Lib.hid h1
  have HK := Lib.hid hk1
  have HQ := Lib.hid hQ
  obtain ⟨fr, ⟨f0, f1, f3, f6, f8, f9, f10, f31, f32, f33, -⟩, rfl⟩ := hFr.open55
  simp only [f0, f1, f3, f6, f8, f9, f10, f31, f32, f33]
  clear f0 f1 f3 f6 f8 f9 f10 f31 f32 f33 hFr hJ h1 hk1 hQ hmj
  conv => arg 2; whnf
  by_cases hj : j < k
  · have hjk : (j : Int) < (k : Int) := by omega
    have bj : (0 : Int) ≤ (j : Int) ∧ (j : Int) < 16 := ⟨by omega, by omega⟩
    have c1 : wr.cell? ⟨b, off + j, none⟩ = some (.int .u8 ((nb X j : Nat) : Int)) := (HK.out.cell (hbl.out (by omega)) (by have := hbB.out; simp; omega)).trans (hX.out j hj)
    have c2 : wr.cell? ⟨B, j, none⟩ = some (.int .u8 ((nb F j : Nat) : Int)) := by
      have hL := upd_length (xorF F X) F j (by rw [hF.1]; omega)
      have h := upd_get (xorF F X) F j j (Nat.le_refl _)
      rw [nb_int hF.2 j, List.getD_eq_getElem?_getD, List.getElem?_eq_getElem (by rw [hL, hF.1]; omega)] at h
      rw [HB.out.cell]
      simp only [List.getElem?_toArray, List.getElem?_map, List.getElem?_eq_getElem (show j < (upd (xorF F X) F j).length by rw [hL, hF.1]; omega), Option.map_some]
      exact congrArg some (congrArg (Value.int .u8) h)
    have z1 := HB.out.frozen j
    have hx := u8_xor_nat _ _ (nb_lt hF.2 j) (nb_lt hXw.out j)
    have HX := Lib.hid (show bits .xor .u8 ((nb F j : Nat) : Int) ((nb X j : Nat) : Int) = xorF F X j from hx)
    clear hx
    generalize nb F j = x at *
    generalize nb X j = y at *
    go_wp2_with fail
    refine Handed.intro (m - 1) (by have := HM.out; omega) (HJ.out _ _ _ ⟨j + 1, by have := HM.out; omega, ⟨rfl, rfl, by repeat (first | exact trivial | refine ⟨rfl, ?_⟩)⟩, HB.out.upd (by rw [hF.1]; omega) HX.out, HK.out.setCell (.inl (by simp)) _⟩)
  · obtain rfl : j = k := by have := HM.out; omega
    go_wp2_with fail
    exact ⟨rfl, HQ.out _ _ ⟨rfl, rfl, by repeat (first | exact trivial | refine ⟨rfl, ?_⟩)⟩ HB.out HK.out⟩

/-- So many bytes enciphered, zeros behind. -/
def mcs (k nn fl : List Int) (j m : Nat) : List Value := (Gcm.encL k nn fl j).map (Value.int .u8) ++ List.replicate (m - j) (.int .u8 0)
theorem mcs_length (k nn fl : List Int) (j m : Nat) (h : j ≤ m) : (mcs k nn fl j m).length = m := by simp [mcs, Gcm.encL_length]; omega
theorem mcs_next (k nn fl X F : List Int) (r q m : Nat) (hX : X = fl.drop (16 * r)) (hF : F = Aes.turn k (Gcm.ctr nn (2 + r))) (hFl : F.length = 16) (hq : q ≤ 16) (hm : 16 * r + q ≤ m) :
    splice (mcs k nn fl (16 * r) m) (16 * r) (((upd (xorF F X) F q).take q).map (Value.int .u8)) = mcs k nn fl (16 * r + q) m := by
  have e1 : (upd (xorF F X) F q).take q = (List.range q).map (xorF F X) := by
    unfold upd
    rw [List.take_append_of_le_length (by simp), List.take_of_length_le (by simp)]
  have e2 : Gcm.encL k nn fl (16 * r + q) = Gcm.encL k nn fl (16 * r) ++ (List.range q).map (xorF F X) := by
    unfold Gcm.encL
    rw [List.range_add, List.map_append, List.map_map]
    congr 1
    apply List.map_congr_left
    intro j hj
    have hj := List.mem_range.1 hj
    show ((nb fl (16 * r + j) ^^^ nb (Aes.turn k (Gcm.ctr nn (2 + (16 * r + j) / 16))) ((16 * r + j) % 16) : Nat) : Int) = xorF F X j
    unfold xorF
    rw [hX, Gcm.nb_drop, hF, show (16 * r + j) / 16 = r by omega, show (16 * r + j) % 16 = j by omega, Nat.xor_comm]
  unfold splice mcs
  rw [e1, e2]
  have l1 : ((Gcm.encL k nn fl (16 * r)).map (Value.int .u8)).length = 16 * r := by simp [Gcm.encL_length]
  rw [List.take_append_of_le_length (by omega), List.take_of_length_le (by omega), List.map_append, List.append_assoc]
  congr 2
  rw [List.drop_append, l1, List.drop_of_length_le (by simp [Gcm.encL_length]), List.nil_append, List.drop_replicate]
  congr 1
  simp
  omega

theorem sl_cellX {w : World} {b off n c : Nat} {l : List Int} (h : Sl .u8 w (.slice (some ⟨b, off, none⟩) n c) l) (j : Nat) (hj : j < l.length) : w.cell? ⟨b, off + j, none⟩ = some (.int .u8 ((nb l j : Nat) : Int)) := by
  obtain ⟨b', off', c', e, _, _, hc⟩ := h.cells (by omega)
  simp only [Value.slice.injEq, Option.some.injEq, Addr.mk.injEq, and_true] at e
  obtain ⟨⟨rfl, rfl⟩, _, _⟩ := e
  rw [hc j hj, ← nb_int h.wf j, List.getD_eq_getElem?_getD]

noncomputable def hmaskL : Code := loopOf Try.f15 0
set_option maxRecDepth 100000 in
set_option maxHeartbeats 8000000 in
theorem mask_loop (R : Act → World → Prop) (a : Act) (w2 : World) (s p g m h N T mT cT : Nat) (fv : Value) (k nn fl : List Int) (L : Nat) (hL : L = fl.length) (D : Array Value) (hk : B16 k) (hnn : N12 nn) (hfl : L ≤ 100000) (hm : m ≤ 900000) (hmT : L ≤ mT)
    (hcT : L ≤ cT) (hcT2 : cT ≤ 9223372036854775807) (hDn : Hid (D = (nn.map (Value.int .u8)).toArray)) (hD : Hid (D.size = 12))
    (hf : Hid (Sl .u8 w2 fv fl)) (hne : Hid (N ∉ [g, T] ∧ s ∉ [g, T] ∧ p ∉ [g, T] ∧ g ≠ T ∧ ∀ b, 0 < L → fv.ownBlock = some b → b ≠ T))
    (hBN : Hid (Blk w2 N 25 D)) (hBS : Hid (SB w2 s p h)) (hAT : Hid (AT w2 g m)) (hAK : Hid (AK w2 p g k)) (hBT : Hid (Blk w2 T 5 (mcs k nn fl 0 mT).toArray))
    (hF : Fr 55 [(0, .pointer (some ⟨s, 0, none⟩)), (1, .slice (some ⟨T, 0, none⟩) L cT), (3, fv), (6, .pointer (some ⟨N, 0, none⟩)), (8, .int .u32 2)] a)
    (hQ : ∀ a' w', Fr 55 [(0, .pointer (some ⟨s, 0, none⟩))] a' → Blk w' T 5 (mcs k nn fl L mT).toArray → (∃ m', m' ≤ m + 7000 ∧ AT w' g m') → Keep [g, T] w2 w' → R a' w') :
    Code.wp Try.prog (.loop hmaskL) (OutX 0 R) a w2 := by
  refine wp_loop_ghost_k (fun μ a wr => ∃ (r : Nat) (v1 v3 : Value), μ + r = (L + 15) / 16 ∧ Fr 55 [(0, .pointer (some ⟨s, 0, none⟩)), (1, v1), (3, v3), (6, .pointer (some ⟨N, 0, none⟩)), (8, .int .u32 ((2 + r : Nat) : Int))] a ∧
      (∃ A1 c1, v1 = .slice A1 (L - 16 * r) c1 ∧ L - 16 * r ≤ c1 ∧ c1 ≤ cT ∧ (16 * r < L → A1 = some ⟨T, 16 * r, none⟩)) ∧ Sl .u8 wr v3 (fl.drop (16 * r)) ∧ (16 * r < L → v3.ownBlock = fv.ownBlock) ∧
      Blk wr T 5 (mcs k nn fl (min (16 * r) L) mT).toArray ∧ AT wr g (m + r) ∧ Keep [g, T] w2 wr)
    ((L + 15) / 16) ⟨0, _, fv, by omega, hF, ⟨_, cT, rfl, by omega, by omega, fun _ => rfl⟩, hf.out, fun _ => rfl, by rw [Nat.mul_zero, Nat.zero_min]; exact hBT.out, hAT.out, Keep.refl _ _⟩ ?_
  clear hF hBT hAT
  rintro μ a wr ⟨r, v1, v3, hmr, hFr, ⟨A1, c1, rfl, hc11, hc12, hA1⟩, hs, hob, hbT, hat, hkk⟩ J K hJ hK1
  have HJ := Lib.hid hJ
  have HM := Lib.hid hmr
  have HS := Lib.hid hs
  have HOB := Lib.hid hob
  have HBT := Lib.hid hbT
  have HAT := Lib.hid hat
  have HK := Lib.hid hkk
  have HQ := Lib.hid hQ
  have HWF := Lib.hid (hs.wf)
  have hlen : (fl.drop (16 * r)).length = L - 16 * r := by rw [hL]; exact List.length_drop
  have HL := Lib.hid hL
  clear hJ hmr hob hbT hat hkk hQ hL
  by_cases hlt : 16 * r < L
  · obtain rfl := hA1 hlt
    obtain ⟨b, off, c, rfl, hc1, hc2, -⟩ := hs.cells (by omega)
    clear hs hA1
    obtain ⟨fr, ⟨f0, f1, f3, f6, f8, -⟩, rfl⟩ := hFr.open55
    simp only [f0, f1, f3, f6, f8]
    clear f0 f1 f3 f6 f8 hFr
    conv => arg 2; whnf
    obtain ⟨X, hX⟩ : ∃ X, X = fl.drop (16 * r) := ⟨_, rfl⟩
    rw [← hX] at HS hlen hc1 HWF ⊢
    have HX := Lib.hid hX
    clear hX
    obtain ⟨n, hn⟩ : ∃ n, n = X.length := ⟨_, rfl⟩
    rw [← hn] at HS hlen hc1 ⊢
    have HNX := Lib.hid hn
    obtain ⟨n1, hn1⟩ : ∃ n1, n1 = L - 16 * r := ⟨_, rfl⟩
    rw [← hn1] at hc11 hlen ⊢
    have HN1 := Lib.hid hn1
    have hn0 : 0 < n := by omega
    have hnp : (0 : Int) < (n : Int) := by omega
    have HNN := Lib.hid hlen
    clear hn hn1 hlen
    have HBND := Lib.hid (show 2 + r < 65536 ∧ m + r ≤ 1000000 by have := HM.out; omega)
    obtain ⟨q, hq⟩ : ∃ q, q = 2 + r := ⟨_, rfl⟩
    have HQR := Lib.hid hq
    rw [← hq] at HBND ⊢
    clear hq
    obtain ⟨Fl, hFl⟩ : ∃ Fl, Fl = Aes.turn k (Gcm.ctr nn q) := ⟨_, rfl⟩
    have HFB := Lib.hid (show B16 Fl by rw [hFl]; exact turn_b16 hk (ctr_b16 hnn q HBND.out.1))
    have HFL := Lib.hid hFl
    clear hFl
    obtain ⟨F, hF⟩ : ∃ F, F = (Fl.map (Value.int .u8)).toArray := ⟨_, rfl⟩
    have HF := Lib.hid hF
    have HFS := Lib.hid (show F.size = 16 by rw [hF]; simp [HFB.out.1])
    have HF1 := Lib.hid (show F.all (·.oneCell') = true by rw [hF]; exact arr_cell _)
    clear hF
    have HHW := Lib.hid (show N ∉ [g] ∧ s ∉ [g] by have := hne.out; simp at this ⊢; omega)
    go_upto_region 4 with fail
    refine OutN.use (mask_reg4 (fun a' w' => ∃ mB, Fr 55 [(0, .pointer (some ⟨s, 0, none⟩)), (1, .slice (some ⟨T, 16 * r, none⟩) n1 c1), (3, .slice (some ⟨b, off, none⟩) n c), (6, .pointer (some ⟨N, 0, none⟩)), (8, .int .u32 (q : Nat)), (9, .pointer (some ⟨mB, 0, none⟩))] a' ∧ Blk w' mB 23 F ∧ wr.heap.size ≤ mB ∧ AT w' g (m + r + 1) ∧ Keep [g] wr w') _ wr s p g N (m + r) q h k nn D F _ _ hk hnn HBND.out.1 hDn hD (Lib.hid (by rw [HF.out, HFL.out])) HFS HF1 HBND.out.2 HHW
      (Lib.hid (hBN.out.keep HK.out hne.out.1)) (Lib.hid (hBS.out.keep HK.out hne.out.2.1)) HAT (Lib.hid (hAK.out.keep HK.out hne.out.2.2.1))
      ⟨rfl, rfl, by repeat (first | exact trivial | refine ⟨rfl, ?_⟩)⟩ (Lib.hid fun a' w' mB h1 h2 h3 h4 h5 => ⟨mB, h1, h2, h3, h4, h5⟩)) ?_
    rintro a' w3 ⟨B, hF3, hb3, hB3, hat3, hk3⟩
    have HS3 := Lib.hid (HS.out.keepT HAT.out hat3 hk3 (fun b _ _ hb => by simpa using hb))
    have HBB := Lib.hid (show Blk w3 B 23 (Fl.map (Value.int .u8)).toArray by rw [← HF.out]; exact hb3)
    have HBT3 := Lib.hid (HBT.out.keep hk3 (by have := hne.out.2.2.2.1; simp; omega))
    have HAT3 := Lib.hid hat3
    have HK3 := Lib.hid (HK.out.trans' hk3 (by simp))
    have HBN := Lib.hid (show B ≠ T ∧ B ≠ g ∧ B ≠ b ∧ w2.heap.size ≤ B ∧ b ≠ T by
      have h1 := HBT.out.lt
      have h2 := HAT.out.lt
      have h3 := HS.out.lt (by have := HNX.out; omega) b rfl
      have h4 := HK.out.size
      have h6 := HOB.out hlt
      have h5 := hne.out.2.2.2.2 b (by omega) (by rw [← h6]; rfl)
      omega)
    obtain ⟨fr', ⟨f0, f1, f3, f6, f8, f9, -⟩, rfl⟩ := hF3.open55
    simp only [f0, f1, f3, f6, f8, f9]
    clear f0 f1 f3 f6 f8 f9 hF3 hb3 hB3 hat3 hk3 HS HBT HAT HK
    go_upto_block 2 with fail
    obtain ⟨kk, hkk⟩ : ∃ kk, kk = min n 16 := ⟨_, rfl⟩
    have HKK := Lib.hid hkk
    have hkn : kk ≤ n ∧ kk ≤ 16 := by omega
    have em : min (n : Int) 16 = (kk : Int) := by omega
    have em2 : max (kk : Int) 0 = (kk : Int) := by omega
    simp only [em, em2, Int.toNat_natCast]
    clear em em2 hkk
    go_wp2_with fail
    refine OutX.use (mask_inner (fun a' w' => Fr 55 [(0, .pointer (some ⟨s, 0, none⟩)), (1, .slice (some ⟨T, 16 * r, none⟩) n1 c1), (3, .slice (some ⟨b, off, none⟩) n c), (6, .pointer (some ⟨N, 0, none⟩)), (8, .int .u32 (q : Nat)), (9, .pointer (some ⟨B, 0, none⟩)), (10, .int .i64 (kk : Nat))] a' ∧ Blk w' B 23 ((upd (xorF Fl X) Fl kk).map (Value.int .u8)).toArray ∧ Keep [B] w3 w') _ w3 B b off kk c Fl X _ _ _ _ _ _ HFB.out HWF hkn.2 (by have := HNX.out; omega) (Lib.hid (fun h => HBN.out.2.2.1 h.symm))
      (Lib.hid fun j hj => by
        have := sl_cellX HS3.out j (by have := HNX.out; omega)
        exact this) (Lib.hid fun _ => by
        have := HS3.out.lt (by have := HNX.out; omega) b rfl
        exact this) HBB
      ⟨rfl, rfl, by repeat (first | exact trivial | refine ⟨rfl, ?_⟩)⟩ (fun a' w' h1 h2 h3 => ⟨h1, h2, h3⟩)) ?_
    rintro a' w4 ⟨hF4, hb4, hk4⟩
    have HB4 := Lib.hid hb4
    have HBT4 := Lib.hid (HBT3.out.keep hk4 (by have := HBN.out; simp; omega))
    have HAT4 := Lib.hid (HAT3.out.keep hk4 (by have := HBN.out; simp; omega))
    have HS4 := Lib.hid (HS3.out.keep hk4 (fun _ x hx => by
      have h1 := HBN.out
      have : b = x := by simpa [Value.ownBlock] using hx
      simp; omega))
    have HK4 := Lib.hid (HK3.out.trans' hk4 (fun x hx => by right; have := HBN.out; simp at hx; omega))
    obtain ⟨fr, ⟨f0, f1, f3, f6, f8, f9, f10, -⟩, rfl⟩ := hF4.open55
    simp only [f0, f1, f3, f6, f8, f9, f10]
    clear f0 f1 f3 f6 f8 f9 f10 hF4 hb4 hk4 HS3 HBB HBT3 HAT3 HK3
    have HMC := Lib.hid (show Blk w4 T 5 (mcs k nn fl (16 * r) mT).toArray by
      have := HBT4.out
      rwa [show min (16 * r) L = 16 * r by omega] at this)
    obtain ⟨cs, hcs⟩ : ∃ cs, cs = ((upd (xorF Fl X) Fl kk).take kk).map (Value.int .u8) := ⟨_, rfl⟩
    have hcl : cs.length = kk := by
      rw [hcs, List.length_map, List.length_take, upd_length _ _ _ (by rw [HFB.out.1]; exact hkn.2), HFB.out.1]; omega
    have HCL := Lib.hid (show cs.length = Nat.min kk n1 by rw [hcl]; show kk = min kk n1; have := HNN.out; omega)
    have HCR := Lib.hid (show Rd w4 (some ⟨B, 0, none⟩) cs by
      rw [hcs, List.map_take]
      have h := Rd.of_blk HB4.out
      rw [show ((upd (xorF Fl X) Fl kk).map (Value.int .u8)).toArray.toList = (upd (xorF Fl X) Fl kk).map (Value.int .u8) from rfl] at h
      exact h.take kk)
    have HCF := Lib.hid (show 16 * r + cs.length ≤ (mcs k nn fl (16 * r) mT).length by
      rw [mcs_length _ _ _ _ _ (by omega), hcl]
      have := HNN.out; have := HN1.out; omega)
    have HC1 := Lib.hid (show ∀ v ∈ cs, v.oneCell' = true by rw [hcs]; exact ints_one _ _)
    have HCS := Lib.hid hcs
    have HCL2 := Lib.hid hcl
    clear hcs hcl
    have rB := fun W => run_slice_arr (P := Try.prog) (t := 23) (e := 5) (n := 16) Try.underlying23 u8sz ⟨B, 0, none⟩ .i64 kk hkn.2 (by decide) W
    simp only [Exit.inBlock, Exit.then, if_true]
    go_at_K
    go_upto_region 12 with (refine wl_copy _ rfl _ _ _ _ rfl 5 Try.underlying26 u8sz T (16 * r) n1 c1 rfl (some ⟨B, 0, none⟩) kk 16 rfl (mcs k nn fl (16 * r) mT) 5 HMC.out cs HCL.out HCR.out HCF.out HC1.out ?_; intro w5 hB5 hk5 hz5; have HB5 := Lib.hid hB5; have HK5 := Lib.hid hk5; clear hB5 hk5 hz5)
    have HT5 := Lib.hid (show Blk w5 T 5 (mcs k nn fl (min (16 * (r + 1)) L) mT).toArray by
      have h := HB5.out
      rw [HCS.out, mcs_next k nn fl X Fl r kk mT HX.out (by rw [HFL.out, HQR.out]) HFB.out.1 hkn.2 (by have := HNN.out; have := HN1.out; omega)] at h
      rwa [show 16 * r + kk = min (16 * (r + 1)) L by have := HNN.out; have := HN1.out; have := HKK.out; omega] at h)
    have HAT5 := Lib.hid (HAT4.out.keep HK5.out (by have := hne.out.2.2.2.1; simp; omega))
    have HS5 := Lib.hid (HS4.out.keep HK5.out (fun _ x hx => by
      have h1 := HBN.out
      have : b = x := by simpa [Value.ownBlock] using hx
      simp; omega))
    have HK5' := Lib.hid (HK4.out.trans' HK5.out (by simp))
    have HXD := Lib.hid (show X.drop kk = fl.drop (16 * (r + 1)) by
      rw [HX.out, List.drop_drop]
      have h1 := HNN.out
      have h2 := HKK.out
      have h3 := HN1.out
      have h4 := HL.out
      by_cases h16 : 16 ≤ n
      · rw [show kk = 16 by omega, show 16 * r + 16 = 16 * (r + 1) by omega]
      · rw [List.drop_of_length_le (by omega), List.drop_of_length_le (by omega)])
    have r1 := fun W => run_from (P := Try.prog) (t := 26) (e := 5) Try.underlying26 u8sz (some ⟨T, 16 * r, none⟩) n1 c1 kk (by have := HNN.out; omega) W
    have r3 := fun W => run_from (P := Try.prog) (t := 26) (e := 5) Try.underlying26 u8sz (some ⟨b, off, none⟩) n c kk hkn.1 W
    obtain ⟨A1', hA1'⟩ : ∃ A, A = (if c1 = kk then some ⟨T, 16 * r, none⟩ else (some (⟨T, 16 * r, none⟩ : Addr)).map fun a => a.add kk) := ⟨_, rfl⟩
    obtain ⟨A3', hA3'⟩ : ∃ A, A = (if c = kk then some ⟨b, off, none⟩ else (some (⟨b, off, none⟩ : Addr)).map fun a => a.add kk) := ⟨_, rfl⟩
    rw [← hA1'] at r1
    rw [← hA3'] at r3
    have HA1 := Lib.hid hA1'
    have HA3 := Lib.hid hA3'
    clear hA1' hA3' HB5 HMC HCL HCR HCF HC1 HBT4 HAT4 HS4 HK4
    clear rB
    go_region_with fail
    all_goals
      have hqb := HBND.out.1
      have hq1 : IntKind.u32.wrap ((q : Int) + 1) = (q : Int) + 1 := IntWalk.u32_in _ ⟨by omega, by omega⟩
      go_simp
      go_wp2_with fail
      refine Handed.intro (μ - 1) (by have := HM.out; omega) (HJ.out _ _ _ ⟨r + 1, .slice A1' (n1 - kk) (c1 - kk), .slice A3' (n - kk) (c - kk), by have := HM.out; have := HN1.out; omega, ⟨rfl, rfl, by
          have e : ((2 + (r + 1) : Nat) : Int) = (q : Int) + 1 := by rw [HQR.out]; omega
          rw [e]
          repeat (first | exact trivial | refine ⟨rfl, ?_⟩)⟩, ⟨A1', c1 - kk, ?_, ?_, by omega, ?_⟩, ?_, ?_, HT5.out.drew, ?_, HK5'.out.drew⟩)
      · rw [show n1 - kk = L - 16 * (r + 1) by have := HN1.out; have := HKK.out; have := HNN.out; omega]
      · have := HN1.out; have := HKK.out; have := HNN.out; omega
      · intro hlt2
        have h1 := HN1.out
        have h2 := HKK.out
        have h3 := HNN.out
        rw [HA1.out, if_neg (by omega), Option.map_some, Addr.add_lit, show kk = 16 by omega, show 16 * r + 16 = 16 * (r + 1) by omega]
      · rw [← HXD.out]
        have h := (HS5.out.keep0 ((Keep.refl [] w5).drew))
        have hn := HNX.out
        subst hn
        refine h.drop hkn.1 (fun hlt3 => ?_)
        rw [HA3.out, if_neg (by omega)]
      · intro hlt2
        have h4 := HOB.out hlt
        rw [← h4, HA3.out]
        by_cases hck : c = kk
        · rw [if_pos hck]; rfl
        · rw [if_neg hck, Option.map_some, Addr.add_lit]; rfl
      · have := HAT5.out
        rw [show m + (r + 1) = m + r + 1 by omega]
        exact Blk.drew this
  · obtain ⟨A, c, rfl, hc1, hc2⟩ := hs.at0
    rw [show (fl.drop (16 * r)).length = 0 by omega] at hFr
    clear hs
    obtain ⟨fr, ⟨f0, f1, f3, f6, f8, -⟩, rfl⟩ := hFr.open55
    simp only [f0, f1, f3, f6, f8]
    clear f0 f1 f3 f6 f8 hFr
    conv => arg 2; whnf
    have HRR := Lib.hid (show min (16 * r) L = L ∧ r ≤ 7000 by have := HM.out; omega)
    clear hlt hlen hc1 hc2
    go_wp2_with fail
    refine ⟨rfl, HQ.out _ _ ⟨rfl, rfl, by repeat (first | exact trivial | refine ⟨rfl, ?_⟩)⟩ ?_ ⟨_, ?_, HAT.out⟩ HK.out⟩
    · have := HBT.out
      rwa [HRR.out.1] at this
    · have := HRR.out.2; omega
end Go.Proofs.Ytlkjngbelckgkaa
