/-
  The document's Seal: the block of lengths.
  The document's Seal: its drawn regions.
  The document's Seal: the loop of the tag.
  The document's Seal: the loop that enciphers.
  The document's Seal, whole.
-/
import Derived.Test.YtlkjngbelckgkaaROver
namespace Go.Proofs.Ytlkjngbelckgkaa
open Go.RowKit

noncomputable def hseL : Code := loopOf Try.f9 1
set_option maxRecDepth 100000 in
set_option maxHeartbeats 4000000 in
theorem se_lens (R : Act → World → Prop) (a : Act) (w : World) (v11 v16 : Value) (gA gC : Option Addr) (lA cA lC cC G : Nat) (hlA : lA ≤ 1000000) (hlC : lC ≤ 2000000) (v0 v1 v2 : Value)
    (hG : Hid (Row w G (List.replicate 16 0)))
    (hF : Fr 123 [(0, v0), (1, v1), (2, v2), (3, .slice gA lA cA), (11, v11), (12, .slice gC lC cC), (16, v16), (17, .slice (some ⟨G, 0, none⟩) 16 16), (18, .int .i64 0)] a)
    (hQ : ∀ a' w', Fr 123 [(0, v0), (1, v1), (2, v2), (3, .slice gA lA cA), (11, v11), (12, .slice gC lC cC), (16, v16), (17, .slice (some ⟨G, 0, none⟩) 16 16)] a' → Row w' G (Gcm.lens (lA * 8) (lC * 8) 8) → Keep [G] w w' → R a' w') :
    Code.wp Try.prog (.loop hseL) (OutX 2 R) a w := by
  refine wp_loop_ghost_k (fun m a wr => ∃ i : Nat, m + i = 8 ∧ Fr 123 [(0, v0), (1, v1), (2, v2), (3, .slice gA lA cA), (11, v11), (12, .slice gC lC cC), (16, v16), (17, .slice (some ⟨G, 0, none⟩) 16 16), (18, .int .i64 i)] a ∧ Row wr G (Gcm.lens (lA * 8) (lC * 8) i) ∧ Keep [G] w wr)
    8 ⟨0, rfl, hF, hG.out, Keep.refl _ _⟩ ?_
  clear hF
  rintro m a wr ⟨i, hmi, hFr, hb, hk⟩ J K hJ hK1
  have HJ := Lib.hid hJ
  have HM := Lib.hid hmi
  have HR := Lib.hid hb
  have HK := Lib.hid hk
  have HQ := Lib.hid hQ
  have HLA := Lib.hid hlA
  have HLC := Lib.hid hlC
  obtain ⟨f, ⟨f0, f1, f2, f3, f11, f12, f16, f17, f18, -⟩, rfl⟩ := hFr.open123
  have w1 : IntKind.i64.wrap (7 - (i : Int)) = 7 - i := IntWalk.i64_in _ ⟨by omega, by omega⟩
  have w2 : IntKind.i64.wrap (15 - (i : Int)) = 15 - i := IntWalk.i64_in _ ⟨by omega, by omega⟩
  simp only [f0, f1, f2, f3, f11, f12, f16, f17, f18]
  by_cases hi : i < 8
  · have c1 : (i : Int) < 8 := by omega
    have eA : wrap64 ((lA : Int) * 8) / 2 ^ (8 * i) % 256 = ((lA * 8 / 2 ^ (8 * i) % 256 : Nat) : Int) := by
      have h : wrap64 ((lA : Int) * 8) = ((lA * 8 : Nat) : Int) := by
        unfold wrap64; omega
      rw [h]; push_cast; rfl
    have eC : wrap64 ((lC : Int) * 8) / 2 ^ (8 * i) % 256 = ((lC * 8 / 2 ^ (8 * i) % 256 : Nat) : Int) := by
      have h : wrap64 ((lC : Int) * 8) = ((lC * 8 : Nat) : Int) := by
        unfold wrap64; omega
      rw [h]; push_cast; rfl
    have EA := Lib.hid eA
    have EC := Lib.hid eC
    have hc7 := hb.cell (7 - i) (by rw [Gcm.lens_length]; omega)
    have hf7 := hb.frozen (7 - i)
    clear f0 f1 f2 f3 f11 f12 f16 f17 f18 hFr hJ hb hk hQ hmi hlA hlC eA eC
    conv => arg 2; whnf
    go_upto_region 15 with fail
    have HR2 := Lib.hid (HR.out.set (7 - i) (wrap64 ((lA : Int) * 8) / 2 ^ (8 * i) % 256))
    have HK2 := Lib.hid (HK.out.cellset (List.mem_singleton.2 rfl) (G := G) (j := 7 - i) (.int .u8 (wrap64 ((lA : Int) * 8) / 2 ^ (8 * i) % 256)))
    obtain ⟨W, hW⟩ : ∃ W, W = wr.setCell ⟨G, 7 - i, none⟩ (.int .u8 (wrap64 ((lA : Int) * 8) / 2 ^ (8 * i) % 256)) := ⟨_, rfl⟩
    rw [← hW] at HR2 HK2 ⊢
    clear hW hc7 hf7
    have hc15 := HR2.out.cell (15 - i) (by rw [List.length_set, Gcm.lens_length]; omega)
    have hf15 := HR2.out.frozen (15 - i)
    go_wp2_with fail
    refine Handed.intro (m - 1) (by have := HM.out; omega) (HJ.out _ _ _ ⟨i + 1, by have := HM.out; omega, ⟨rfl, rfl, by repeat (first | exact trivial | refine ⟨rfl, ?_⟩)⟩, ?_, HK2.out.cellset (List.mem_singleton.2 rfl) _⟩)
    have h := HR2.out.set (15 - i) (wrap64 ((lC : Int) * 8) / 2 ^ (8 * i) % 256)
    rw [EA.out, EC.out] at h
    rw [EC.out]
    exact h
  · obtain rfl : i = 8 := by omega
    clear f0 f1 f2 f3 f11 f12 f16 f17 f18 hFr hJ hb hk hQ hmi hlA hlC
    conv => arg 2; whnf
    go_wp2_with fail
    exact ⟨rfl, HQ.out _ _ ⟨rfl, rfl, by repeat (first | exact trivial | refine ⟨rfl, ?_⟩)⟩ HR.out HK.out⟩

noncomputable def hse21 : Code := regionOf Try.f9 21
set_option maxRecDepth 100000 in
set_option maxHeartbeats 8000000 in
theorem se_reg21 (R : Act → World → Prop) (a : Act) (w2 : World) (base n x y : Nat) (v12 : Value) (T oT U ct cu j : Nat) (xs : List Value) (hn : n ≤ 2000000) (hx : x < 256) (hy : y < 256) (hj : j < 16) (hO : Hid (w2.ownsRow base 5 1 v12 n xs)) (hbase : Hid (base ≤ w2.heap.size))
    (hcx : Hid (w2.cell? ⟨T, oT + j, none⟩ = some (.int .u8 (x : Int)))) (hcy : Hid (w2.cell? ⟨U, j, none⟩ = some (.int .u8 (y : Int))))
    (hF : Fr 123 [(12, v12), (16, .slice (some ⟨T, oT, none⟩) 16 ct), (19, .slice (some ⟨U, 0, none⟩) 16 cu), (20, .int .i64 j)] a)
    (hR : Hid (∀ a' w' v', Fr 123 [(12, v'), (16, .slice (some ⟨T, oT, none⟩) 16 ct), (19, .slice (some ⟨U, 0, none⟩) 16 cu), (20, .int .i64 j)] a' → w'.ownsRow base 5 1 v' (n + 1) (xs ++ [.int .u8 ((x ^^^ y : Nat) : Int)]) → Keep v12.ownBlock.toList w2 w' → (∀ q, v'.ownBlock = some q → v12.ownBlock = some q ∨ w2.heap.size ≤ q) → R a' w')) :
    Code.wp Try.prog hse21 (OutN R) a w2 := by
  have X := u8_xor_nat x y hx hy
  have LX : ∀ W, Keep [] w2 W → W.cell? ⟨T, oT + j, none⟩ = some (.int .u8 (x : Int)) := fun W hk => (hk.cell (World.block_lt_of_cell? _ _ hcx.out) (by simp)).trans hcx.out
  have LY : ∀ W, Keep [] w2 W → W.cell? ⟨U, j, none⟩ = some (.int .u8 (y : Int)) := fun W hk => (hk.cell (World.block_lt_of_cell? _ _ hcy.out) (by simp)).trans hcy.out
  have LO : ∀ W, Keep [] w2 W → W.ownsRow base 5 1 v12 n xs := fun W hk => own_keep0 hO.out hk
  have bj : (0 : Int) ≤ (j : Int) ∧ (j : Int) < 16 := ⟨by omega, by omega⟩
  obtain ⟨f, ⟨f12, f16, f19, f20, -⟩, rfl⟩ := hF.open123
  simp only [f12, f16, f19, f20]
  clear f12 f16 f19 f20 hF
  conv => arg 2; whnf
  refine wp_region_any (by kernel_rfl) ?_
  change wpAny _ _ _ _ _ _ _ (World.drew _)
  obtain ⟨W0, hW0⟩ : ∃ W0, W0 = w2.drew := ⟨_, rfl⟩
  rw [← hW0]
  have hk0 : Keep [] w2 W0 := by rw [hW0]; exact (Keep.refl [] w2).drew
  clear hW0
  go_simp
  refine wpAny_take (i := 0) (v := ?_) rfl (by kernel_rfl) (by kernel_rfl) (by kernel_rfl) (fun _ _ _ h => h) (Or.inl ⟨by rfl, ?_⟩) ?_
  rotate_left
  · intro y; go_simp; try (with_reducible rfl)
  rotate_left
  go_simp
  refine wpAny_take (i := 1) (v := ?_) rfl (by kernel_rfl) (by kernel_rfl) (by kernel_rfl) (fun _ _ _ h => h) (Or.inl ⟨by rfl, ?_⟩) ?_
  rotate_left
  · intro y; go_simp; try (with_reducible rfl)
  rotate_left
  go_simp
  refine wpAny_take (i := 2) (v := ?_) rfl (by kernel_rfl) (by kernel_rfl) (by kernel_rfl) (fun _ _ _ h => h) (Or.inl ⟨by rfl, ?_⟩) ?_
  rotate_left
  · intro y; go_simp; try (with_reducible rfl)
  rotate_left
  go_simp
  refine wpAny_take (i := 3) (v := ?_) rfl (by kernel_rfl) (by kernel_rfl) (by kernel_rfl) (fun _ _ _ h => h) (Or.inl ⟨by rfl, ?_⟩) ?_
  rotate_left
  · intro y; go_simp; try (with_reducible rfl)
  rotate_left
  go_simp
  refine wpAny_take (i := 5) (v := ?_) rfl (by kernel_rfl) (by kernel_rfl) (by kernel_rfl) (fun _ _ _ h => h) (Or.inl ⟨by rfl, ?_⟩) ?_
  rotate_left
  · intro y; go_simp; try (with_reducible rfl)
  rotate_left
  go_simp
  refine wpAny_take (i := 6) (v := ?_) rfl (by kernel_rfl) (by kernel_rfl) (by kernel_rfl) (fun _ _ _ h => h) (Or.inl ⟨by rfl, ?_⟩) ?_
  rotate_left
  · intro y; go_simp; try (with_reducible rfl)
  rotate_left
  go_simp
  refine wpAny_take (i := 7) (v := ?_) rfl (by kernel_rfl) (by kernel_rfl) (by kernel_rfl) (fun _ _ _ h => h) (Or.inl ⟨by rfl, ?_⟩) ?_
  rotate_left
  · intro y; go_simp; try (with_reducible rfl)
  rotate_left
  go_simp
  refine wpAny_ready (rs := [4, 8]) (by kernel_rfl) (by simp) ?_
  refine AllReady.cons rfl (fun K hK => ?_) ?_
  ·
    apply step_wp
    · rfl
    have q := LX _ hk0
    refine ow_load1 _ _ rfl _ rfl (.int .u8 (x : Int)) (by simp [go_sem, q]) ?_
    clear q
    apply hK
    clear hK K
    go_simp
    refine wpAny_ready (rs := [8]) (by kernel_rfl) (by simp) ?_
    refine AllReady.cons rfl (fun K hK => ?_) ?_
    ·
      apply step_wp
      · rfl
      have q := LY _ hk0
      refine ow_load1 _ _ rfl _ rfl (.int .u8 (y : Int)) (by simp [go_sem, q]) ?_
      clear q
      apply hK
      clear hK K
      go_simp
      refine wpAny_take (i := 9) (v := ?_) rfl (by kernel_rfl) (by kernel_rfl) (by kernel_rfl) (fun _ _ _ h => h) (Or.inl ⟨by rfl, ?_⟩) ?_
      rotate_left
      · intro y; go_simp; try (with_reducible rfl)
      rotate_left
      go_simp
      refine wpAny_ready (rs := [10]) (by kernel_rfl) (by simp) ?_
      refine AllReady.cons rfl (fun K hK => ?_) ?_
      ·
        apply step_wp
        · rfl
        refine ow_slice _ 5 1 _ rfl Try.underlying26 #[.int .u8 ((x ^^^ y : Nat) : Int)] [(0, .int .u8 ((x ^^^ y : Nat) : Int))] (by kernel_rfl) (by kernel_rfl) ?_
        intro n8 W8 hn8 hb8 hs8
        replace hn8 : w2.heap.size ≤ n8 := by rw [hn8]; exact hk0.size
        have hk8 : Keep [] w2 W8 := hk0.trans0 hs8
        apply hK
        clear hK K
        go_simp
        refine wpAny_ready (rs := [11]) (by kernel_rfl) (by simp) ?_
        refine AllReady.cons rfl (fun K hK => ?_) ?_
        ·
          apply step_wp
          · rfl
          refine ow_append _ _ _ rfl base 5 (.int .u8 0) 1 1 Try.underlying26 u8infB rfl (by decide) v12 n xs rfl (LO _ hk8) (some ⟨n8, 0, none⟩) 1 1 [.int .u8 ((x ^^^ y : Nat) : Int)] rfl rfl (by simpa using Rd.of_blk hb8) (by simp [Value.oneCell']) (by simp only [maxLen]; omega) (by omega) (by have := hbase.out; have := hk8.size; omega) ?_
          intro v9 W9 ho9 hs9 hat9
          have hk9 : Keep v12.ownBlock.toList w2 W9 := hk8.more0.trans' hs9 (fun q hq => by left; exact hq)
          apply hK
          clear hK K
          go_simp
          refine wpAny_take (i := 12) (v := ?_) rfl (by kernel_rfl) (by kernel_rfl) (by kernel_rfl) (fun _ _ _ h => h) (Or.inl ⟨by rfl, ?_⟩) ?_
          rotate_left
          · intro y; go_simp; try (with_reducible rfl)
          rotate_left
          go_simp
          refine wpAny_done (by kernel_rfl) ?_ _
          refine hR.out _ _ v9 ⟨rfl, rfl, by repeat (first | exact trivial | refine ⟨rfl, ?_⟩)⟩ ho9 hk9 (fun q hq => ?_)
          rcases hat9 with h | h
          · left; rw [← h]; exact hq
          · right; rw [h] at hq; have := Option.some.inj hq; have := hk8.size; omega
        exact AllReady.nil
      exact AllReady.nil
    exact AllReady.nil
  refine AllReady.cons rfl (fun K hK => ?_) ?_
  ·
    apply step_wp
    · rfl
    have q := LY _ hk0
    refine ow_load1 _ _ rfl _ rfl (.int .u8 (y : Int)) (by simp [go_sem, q]) ?_
    clear q
    apply hK
    clear hK K
    go_simp
    refine wpAny_ready (rs := [4]) (by kernel_rfl) (by simp) ?_
    refine AllReady.cons rfl (fun K hK => ?_) ?_
    ·
      apply step_wp
      · rfl
      have q := LX _ hk0
      refine ow_load1 _ _ rfl _ rfl (.int .u8 (x : Int)) (by simp [go_sem, q]) ?_
      clear q
      apply hK
      clear hK K
      go_simp
      refine wpAny_take (i := 9) (v := ?_) rfl (by kernel_rfl) (by kernel_rfl) (by kernel_rfl) (fun _ _ _ h => h) (Or.inl ⟨by rfl, ?_⟩) ?_
      rotate_left
      · intro y; go_simp; try (with_reducible rfl)
      rotate_left
      go_simp
      refine wpAny_ready (rs := [10]) (by kernel_rfl) (by simp) ?_
      refine AllReady.cons rfl (fun K hK => ?_) ?_
      ·
        apply step_wp
        · rfl
        refine ow_slice _ 5 1 _ rfl Try.underlying26 #[.int .u8 ((x ^^^ y : Nat) : Int)] [(0, .int .u8 ((x ^^^ y : Nat) : Int))] (by kernel_rfl) (by kernel_rfl) ?_
        intro n8 W8 hn8 hb8 hs8
        replace hn8 : w2.heap.size ≤ n8 := by rw [hn8]; exact hk0.size
        have hk8 : Keep [] w2 W8 := hk0.trans0 hs8
        apply hK
        clear hK K
        go_simp
        refine wpAny_ready (rs := [11]) (by kernel_rfl) (by simp) ?_
        refine AllReady.cons rfl (fun K hK => ?_) ?_
        ·
          apply step_wp
          · rfl
          refine ow_append _ _ _ rfl base 5 (.int .u8 0) 1 1 Try.underlying26 u8infB rfl (by decide) v12 n xs rfl (LO _ hk8) (some ⟨n8, 0, none⟩) 1 1 [.int .u8 ((x ^^^ y : Nat) : Int)] rfl rfl (by simpa using Rd.of_blk hb8) (by simp [Value.oneCell']) (by simp only [maxLen]; omega) (by omega) (by have := hbase.out; have := hk8.size; omega) ?_
          intro v9 W9 ho9 hs9 hat9
          have hk9 : Keep v12.ownBlock.toList w2 W9 := hk8.more0.trans' hs9 (fun q hq => by left; exact hq)
          apply hK
          clear hK K
          go_simp
          refine wpAny_take (i := 12) (v := ?_) rfl (by kernel_rfl) (by kernel_rfl) (by kernel_rfl) (fun _ _ _ h => h) (Or.inl ⟨by rfl, ?_⟩) ?_
          rotate_left
          · intro y; go_simp; try (with_reducible rfl)
          rotate_left
          go_simp
          refine wpAny_done (by kernel_rfl) ?_ _
          refine hR.out _ _ v9 ⟨rfl, rfl, by repeat (first | exact trivial | refine ⟨rfl, ?_⟩)⟩ ho9 hk9 (fun q hq => ?_)
          rcases hat9 with h | h
          · left; rw [← h]; exact hq
          · right; rw [h] at hq; have := Option.some.inj hq; have := hk8.size; omega
        exact AllReady.nil
      exact AllReady.nil
    exact AllReady.nil
  exact AllReady.nil

noncomputable def hse8 : Code := regionOf Try.f9 8
set_option maxRecDepth 100000 in
set_option maxHeartbeats 8000000 in
theorem se_reg8 (R : Act → World → Prop) (a : Act) (w2 : World) (base n x y : Nat) (v12 : Value) (v0 v1 v2 v3 v11 v14 : Value) (T ct gp op lp cp j : Nat) (xs : List Value) (hn : n ≤ 2000000) (hx : x < 256) (hy : y < 256) (hj : j < lp) (hO : Hid (w2.ownsRow base 5 1 v12 n xs)) (hbase : Hid (base ≤ w2.heap.size))
    (hcx : Hid (w2.cell? ⟨gp, op + j, none⟩ = some (.int .u8 (x : Int)))) (hcy : Hid (w2.cell? ⟨T, j % 16, none⟩ = some (.int .u8 (y : Int))))
    (hF : Fr 123 [(12, v12), (0, v0), (1, v1), (2, v2), (3, v3), (4, .slice (some ⟨gp, op, none⟩) lp cp), (11, v11), (13, .int .i64 j), (14, v14), (15, .slice (some ⟨T, 0, none⟩) 16 ct)] a)
    (hR : Hid (∀ a' w' v', Fr 123 [(12, v'), (0, v0), (1, v1), (2, v2), (3, v3), (4, .slice (some ⟨gp, op, none⟩) lp cp), (11, v11), (13, .int .i64 j), (14, v14), (15, .slice (some ⟨T, 0, none⟩) 16 ct)] a' → w'.ownsRow base 5 1 v' (n + 1) (xs ++ [.int .u8 ((x ^^^ y : Nat) : Int)]) → Keep v12.ownBlock.toList w2 w' → (∀ q, v'.ownBlock = some q → v12.ownBlock = some q ∨ w2.heap.size ≤ q) → R a' w')) :
    Code.wp Try.prog hse8 (OutN R) a w2 := by
  have X := u8_xor_nat x y hx hy
  have LX : ∀ W, Keep [] w2 W → W.cell? ⟨gp, op + j, none⟩ = some (.int .u8 (x : Int)) := fun W hk => (hk.cell (World.block_lt_of_cell? _ _ hcx.out) (by simp)).trans hcx.out
  have LY : ∀ W, Keep [] w2 W → W.cell? ⟨T, j % 16, none⟩ = some (.int .u8 (y : Int)) := fun W hk => (hk.cell (World.block_lt_of_cell? _ _ hcy.out) (by simp)).trans hcy.out
  have LO : ∀ W, Keep [] w2 W → W.ownsRow base 5 1 v12 n xs := fun W hk => own_keep0 hO.out hk
  have bj : (0 : Int) ≤ (j : Int) ∧ (j : Int) < lp := ⟨by omega, by omega⟩
  have r1 : Int.tmod (j : Int) 16 = (j : Int) % 16 := Int.tmod_eq_emod_of_nonneg (by omega)
  have b1 : (0 : Int) ≤ (j : Int) % 16 ∧ (j : Int) % 16 < 16 := ⟨by omega, by omega⟩
  have e1 : ((j : Int) % 16).toNat = j % 16 := by omega
  obtain ⟨f, ⟨f12, f0, f1, f2, f3, f4, f11, f13, f14, f15, -⟩, rfl⟩ := hF.open123
  simp only [f12, f0, f1, f2, f3, f4, f11, f13, f14, f15]
  clear f12 f0 f1 f2 f3 f4 f11 f13 f14 f15 hF
  conv => arg 2; whnf
  refine wp_region_any (by kernel_rfl) ?_
  change wpAny _ _ _ _ _ _ _ (World.drew _)
  obtain ⟨W0, hW0⟩ : ∃ W0, W0 = w2.drew := ⟨_, rfl⟩
  rw [← hW0]
  have hk0 : Keep [] w2 W0 := by rw [hW0]; exact (Keep.refl [] w2).drew
  clear hW0
  go_simp
  refine wpAny_take (i := 0) (v := ?_) rfl (by kernel_rfl) (by kernel_rfl) (by kernel_rfl) (fun _ _ _ h => h) (Or.inl ⟨by rfl, ?_⟩) ?_
  rotate_left
  · intro y; go_simp; try (with_reducible rfl)
  rotate_left
  go_simp
  refine wpAny_take (i := 1) (v := ?_) rfl (by kernel_rfl) (by kernel_rfl) (by kernel_rfl) (fun _ _ _ h => h) (Or.inl ⟨by rfl, ?_⟩) ?_
  rotate_left
  · intro y; go_simp; try (with_reducible rfl)
  rotate_left
  go_simp
  refine wpAny_take (i := 2) (v := ?_) rfl (by kernel_rfl) (by kernel_rfl) (by kernel_rfl) (fun _ _ _ h => h) (Or.inl ⟨by rfl, ?_⟩) ?_
  rotate_left
  · intro y; go_simp; try (with_reducible rfl)
  rotate_left
  go_simp
  refine wpAny_take (i := 3) (v := ?_) rfl (by kernel_rfl) (by kernel_rfl) (by kernel_rfl) (fun _ _ _ h => h) (Or.inl ⟨by rfl, ?_⟩) ?_
  rotate_left
  · intro y; go_simp; try (with_reducible rfl)
  rotate_left
  go_simp
  refine wpAny_take (i := 5) (v := ?_) rfl (by kernel_rfl) (by kernel_rfl) (by kernel_rfl) (fun _ _ _ h => h) (Or.inl ⟨by rfl, ?_⟩) ?_
  rotate_left
  · intro y; go_simp; try (with_reducible rfl)
  rotate_left
  go_simp
  refine wpAny_take (i := 6) (v := ?_) rfl (by kernel_rfl) (by kernel_rfl) (by kernel_rfl) (fun _ _ _ h => h) (Or.inl ⟨by rfl, ?_⟩) ?_
  rotate_left
  · intro y; go_simp; try (with_reducible rfl)
  rotate_left
  go_simp
  refine wpAny_take (i := 7) (v := ?_) rfl (by kernel_rfl) (by kernel_rfl) (by kernel_rfl) (fun _ _ _ h => h) (Or.inl ⟨by rfl, ?_⟩) ?_
  rotate_left
  · intro y; go_simp; try (with_reducible rfl)
  rotate_left
  go_simp
  refine wpAny_take (i := 8) (v := ?_) rfl (by kernel_rfl) (by kernel_rfl) (by kernel_rfl) (fun _ _ _ h => h) (Or.inl ⟨by rfl, ?_⟩) ?_
  rotate_left
  · intro y; go_simp; try (with_reducible rfl)
  rotate_left
  go_simp
  refine wpAny_ready (rs := [4, 9]) (by kernel_rfl) (by simp) ?_
  refine AllReady.cons rfl (fun K hK => ?_) ?_
  ·
    apply step_wp
    · rfl
    have q := LX _ hk0
    refine ow_load1 _ _ rfl _ rfl (.int .u8 (x : Int)) (by simp [go_sem, q]) ?_
    clear q
    apply hK
    clear hK K
    go_simp
    refine wpAny_ready (rs := [9]) (by kernel_rfl) (by simp) ?_
    refine AllReady.cons rfl (fun K hK => ?_) ?_
    ·
      apply step_wp
      · rfl
      have q := LY _ hk0
      refine ow_load1 _ _ rfl _ rfl (.int .u8 (y : Int)) (by simp [go_sem, q]) ?_
      clear q
      apply hK
      clear hK K
      go_simp
      refine wpAny_take (i := 10) (v := ?_) rfl (by kernel_rfl) (by kernel_rfl) (by kernel_rfl) (fun _ _ _ h => h) (Or.inl ⟨by rfl, ?_⟩) ?_
      rotate_left
      · intro y; go_simp; try (with_reducible rfl)
      rotate_left
      go_simp
      refine wpAny_ready (rs := [11]) (by kernel_rfl) (by simp) ?_
      refine AllReady.cons rfl (fun K hK => ?_) ?_
      ·
        apply step_wp
        · rfl
        refine ow_slice _ 5 1 _ rfl Try.underlying26 #[.int .u8 ((x ^^^ y : Nat) : Int)] [(0, .int .u8 ((x ^^^ y : Nat) : Int))] (by kernel_rfl) (by kernel_rfl) ?_
        intro n8 W8 hn8 hb8 hs8
        replace hn8 : w2.heap.size ≤ n8 := by rw [hn8]; exact hk0.size
        have hk8 : Keep [] w2 W8 := hk0.trans0 hs8
        apply hK
        clear hK K
        go_simp
        refine wpAny_ready (rs := [12]) (by kernel_rfl) (by simp) ?_
        refine AllReady.cons rfl (fun K hK => ?_) ?_
        ·
          apply step_wp
          · rfl
          refine ow_append _ _ _ rfl base 5 (.int .u8 0) 1 1 Try.underlying26 u8infB rfl (by decide) v12 n xs rfl (LO _ hk8) (some ⟨n8, 0, none⟩) 1 1 [.int .u8 ((x ^^^ y : Nat) : Int)] rfl rfl (by simpa using Rd.of_blk hb8) (by simp [Value.oneCell']) (by simp only [maxLen]; omega) (by omega) (by have := hbase.out; have := hk8.size; omega) ?_
          intro v9 W9 ho9 hs9 hat9
          have hk9 : Keep v12.ownBlock.toList w2 W9 := hk8.more0.trans' hs9 (fun q hq => by left; exact hq)
          apply hK
          clear hK K
          go_simp
          refine wpAny_take (i := 13) (v := ?_) rfl (by kernel_rfl) (by kernel_rfl) (by kernel_rfl) (fun _ _ _ h => h) (Or.inl ⟨by rfl, ?_⟩) ?_
          rotate_left
          · intro y; go_simp; try (with_reducible rfl)
          rotate_left
          go_simp
          refine wpAny_done (by kernel_rfl) ?_ _
          refine hR.out _ _ v9 ⟨rfl, rfl, by repeat (first | exact trivial | refine ⟨rfl, ?_⟩)⟩ ho9 hk9 (fun q hq => ?_)
          rcases hat9 with h | h
          · left; rw [← h]; exact hq
          · right; rw [h] at hq; have := Option.some.inj hq; have := hk8.size; omega
        exact AllReady.nil
      exact AllReady.nil
    exact AllReady.nil
  refine AllReady.cons rfl (fun K hK => ?_) ?_
  ·
    apply step_wp
    · rfl
    have q := LY _ hk0
    refine ow_load1 _ _ rfl _ rfl (.int .u8 (y : Int)) (by simp [go_sem, q]) ?_
    clear q
    apply hK
    clear hK K
    go_simp
    refine wpAny_ready (rs := [4]) (by kernel_rfl) (by simp) ?_
    refine AllReady.cons rfl (fun K hK => ?_) ?_
    ·
      apply step_wp
      · rfl
      have q := LX _ hk0
      refine ow_load1 _ _ rfl _ rfl (.int .u8 (x : Int)) (by simp [go_sem, q]) ?_
      clear q
      apply hK
      clear hK K
      go_simp
      refine wpAny_take (i := 10) (v := ?_) rfl (by kernel_rfl) (by kernel_rfl) (by kernel_rfl) (fun _ _ _ h => h) (Or.inl ⟨by rfl, ?_⟩) ?_
      rotate_left
      · intro y; go_simp; try (with_reducible rfl)
      rotate_left
      go_simp
      refine wpAny_ready (rs := [11]) (by kernel_rfl) (by simp) ?_
      refine AllReady.cons rfl (fun K hK => ?_) ?_
      ·
        apply step_wp
        · rfl
        refine ow_slice _ 5 1 _ rfl Try.underlying26 #[.int .u8 ((x ^^^ y : Nat) : Int)] [(0, .int .u8 ((x ^^^ y : Nat) : Int))] (by kernel_rfl) (by kernel_rfl) ?_
        intro n8 W8 hn8 hb8 hs8
        replace hn8 : w2.heap.size ≤ n8 := by rw [hn8]; exact hk0.size
        have hk8 : Keep [] w2 W8 := hk0.trans0 hs8
        apply hK
        clear hK K
        go_simp
        refine wpAny_ready (rs := [12]) (by kernel_rfl) (by simp) ?_
        refine AllReady.cons rfl (fun K hK => ?_) ?_
        ·
          apply step_wp
          · rfl
          refine ow_append _ _ _ rfl base 5 (.int .u8 0) 1 1 Try.underlying26 u8infB rfl (by decide) v12 n xs rfl (LO _ hk8) (some ⟨n8, 0, none⟩) 1 1 [.int .u8 ((x ^^^ y : Nat) : Int)] rfl rfl (by simpa using Rd.of_blk hb8) (by simp [Value.oneCell']) (by simp only [maxLen]; omega) (by omega) (by have := hbase.out; have := hk8.size; omega) ?_
          intro v9 W9 ho9 hs9 hat9
          have hk9 : Keep v12.ownBlock.toList w2 W9 := hk8.more0.trans' hs9 (fun q hq => by left; exact hq)
          apply hK
          clear hK K
          go_simp
          refine wpAny_take (i := 13) (v := ?_) rfl (by kernel_rfl) (by kernel_rfl) (by kernel_rfl) (fun _ _ _ h => h) (Or.inl ⟨by rfl, ?_⟩) ?_
          rotate_left
          · intro y; go_simp; try (with_reducible rfl)
          rotate_left
          go_simp
          refine wpAny_done (by kernel_rfl) ?_ _
          refine hR.out _ _ v9 ⟨rfl, rfl, by repeat (first | exact trivial | refine ⟨rfl, ?_⟩)⟩ ho9 hk9 (fun q hq => ?_)
          rcases hat9 with h | h
          · left; rw [← h]; exact hq
          · right; rw [h] at hq; have := Option.some.inj hq; have := hk8.size; omega
        exact AllReady.nil
      exact AllReady.nil
    exact AllReady.nil
  exact AllReady.nil

noncomputable def hseT : Code := loopOf Try.f9 2
set_option maxRecDepth 100000 in
set_option maxHeartbeats 4000000 in
theorem se_tag (R : Act → World → Prop) (a : Act) (w0 w : World) (v12 : Value) (T oT U cT cU : Nat) (s k cl : List Int) (hsl : Hid (s.length = 16)) (hkl : Hid (k.length = 16)) (hcl : cl.length ≤ 1000000)
    (hO : Hid (w.ownsRow w0.heap.size 5 1 v12 cl.length (cl.map (Value.int .u8)))) (hT : Hid (Sl .u8 w (.slice (some ⟨T, oT, none⟩) 16 cT) s)) (hU : Hid (Sl .u8 w (.slice (some ⟨U, 0, none⟩) 16 cU) k))
    (hne : Hid (∀ q, v12.ownBlock = some q → q ≠ T ∧ q ≠ U)) (hTU : Hid (T < w.heap.size ∧ U < w.heap.size)) (hk : Hid (Keep [] w0 w))
    (hF : Fr 123 [(12, v12), (16, .slice (some ⟨T, oT, none⟩) 16 cT), (19, .slice (some ⟨U, 0, none⟩) 16 cU), (20, .int .i64 0)] a)
    (hQ : ∀ a' w' v', Fr 123 [(12, v')] a' → w'.ownsRow w0.heap.size 5 1 v' (cl.length + 16) ((cl ++ Gcm.tagL s k 16).map (Value.int .u8)) → Keep [] w0 w' → R a' w') :
    Code.wp Try.prog (.loop hseT) (OutX 4 R) a w := by
  refine wp_loop_ghost_k (fun m a wr => ∃ (j : Nat) (v : Value), m + j = 16 ∧ Fr 123 [(12, v), (16, .slice (some ⟨T, oT, none⟩) 16 cT), (19, .slice (some ⟨U, 0, none⟩) 16 cU), (20, .int .i64 j)] a ∧
      wr.ownsRow w0.heap.size 5 1 v (cl.length + j) ((cl ++ Gcm.tagL s k j).map (Value.int .u8)) ∧ Sl .u8 wr (.slice (some ⟨T, oT, none⟩) 16 cT) s ∧ Sl .u8 wr (.slice (some ⟨U, 0, none⟩) 16 cU) k ∧ (∀ q, v.ownBlock = some q → q ≠ T ∧ q ≠ U) ∧ (T < wr.heap.size ∧ U < wr.heap.size) ∧ Keep [] w0 wr)
    16 ⟨0, v12, rfl, hF, by simpa [Gcm.tagL] using hO.out, hT.out, hU.out, hne.out, hTU.out, hk.out⟩ ?_
  clear hF hO hT hU hne hTU hk
  rintro m a wr ⟨j, v, hmj, hFr, hO, hT, hU, hne, hTU, hk⟩ J K hJ hK1
  have HJ := Lib.hid hJ
  have HM := Lib.hid hmj
  have HO := Lib.hid hO
  have HT := Lib.hid hT
  have HU := Lib.hid hU
  have HNE := Lib.hid hne
  have HTU := Lib.hid hTU
  have HK := Lib.hid hk
  have HQ := Lib.hid hQ
  obtain ⟨f, ⟨f12, f16, f19, f20, -⟩, rfl⟩ := hFr.open123
  by_cases hlt : j < 16
  · have HX := Lib.hid (sl_cell hT j (by rw [hsl.out]; exact hlt))
    have HY := Lib.hid (show wr.cell? ⟨U, j, none⟩ = some (.int .u8 ((nb k j : Nat) : Int)) by
      have h := sl_cell hU j (by rw [hkl.out]; exact hlt)
      rwa [Nat.zero_add] at h)
    have HSW := Lib.hid hT.wf
    have HKW := Lib.hid hU.wf
    simp only [f12, f16, f19, f20]
    clear f12 f16 f19 f20 hFr hJ hO hT hU hne hTU hk hQ hmj
    conv => arg 2; whnf
    go_upto_region 21 with fail
    refine OutN.use (se_reg21 (fun a' w' => ∃ v', Fr 123 [(12, v'), (16, .slice (some ⟨T, oT, none⟩) 16 cT), (19, .slice (some ⟨U, 0, none⟩) 16 cU), (20, .int .i64 j)] a' ∧ w'.ownsRow w0.heap.size 5 1 v' (cl.length + j + 1) ((cl ++ Gcm.tagL s k j).map (Value.int .u8) ++ [.int .u8 ((nb s j ^^^ nb k j : Nat) : Int)]) ∧ Keep v.ownBlock.toList wr w' ∧ (∀ q, v'.ownBlock = some q → v.ownBlock = some q ∨ wr.heap.size ≤ q)) _ wr w0.heap.size (cl.length + j) (nb s j) (nb k j) v T oT U cT cU j ((cl ++ Gcm.tagL s k j).map (Value.int .u8)) (by omega) (nb_lt HSW.out _) (nb_lt HKW.out _) hlt HO (Lib.hid HK.out.size) HX HY
      ⟨rfl, rfl, by repeat (first | exact trivial | refine ⟨rfl, ?_⟩)⟩ (Lib.hid fun a' w' v' h1 h2 h3 h4 => ⟨v', h1, h2, h3, h4⟩)) ?_
    rintro a' w3 ⟨v', hF3, hO3, hk3, hown⟩
    have HO3 := Lib.hid (show w3.ownsRow w0.heap.size 5 1 v' (cl.length + (j + 1)) ((cl ++ Gcm.tagL s k (j + 1)).map (Value.int .u8)) by rw [Gcm.tagL_succ, ← List.append_assoc, List.map_append]; exact hO3)
    have hmem : ∀ x, x ∈ v.ownBlock.toList → v.ownBlock = some x := fun x hx => by simpa using hx
    have HT3 := Lib.hid (HT.out.keep hk3 (fun _ g hg hm => by
      have h := (HNE.out g (hmem g hm)).1
      have h2 : T = g := by simpa [Value.ownBlock] using hg
      exact h h2.symm))
    have HU3 := Lib.hid (HU.out.keep hk3 (fun _ g hg hm => by
      have h := (HNE.out g (hmem g hm)).2
      have h2 : U = g := by simpa [Value.ownBlock] using hg
      exact h h2.symm))
    have HNE3 := Lib.hid (show ∀ q, v'.ownBlock = some q → q ≠ T ∧ q ≠ U from fun q hq => by
      rcases hown q hq with h | h
      · exact HNE.out q h
      · have := HTU.out; omega)
    have HTU3 := Lib.hid (show T < w3.heap.size ∧ U < w3.heap.size by have := HTU.out; have := hk3.size; omega)
    have HK3 := Lib.hid (HK.out.trans' hk3 (fun x hx => by right; exact (HO.out.lt x (hmem x hx)).1))
    obtain ⟨f, ⟨f12, f16, f19, f20, -⟩, rfl⟩ := hF3.open123
    simp only [f12, f16, f19, f20]
    clear f12 f16 f19 f20 hF3 hO3 hk3 hown
    go_wp2_with fail
    exact Handed.intro (m - 1) (by have := HM.out; omega) (HJ.out _ _ _ ⟨j + 1, v', by have := HM.out; omega, ⟨rfl, rfl, by repeat (first | exact trivial | refine ⟨rfl, ?_⟩)⟩, HO3.out, HT3.out, HU3.out, HNE3.out, HTU3.out, HK3.out⟩)
  · obtain rfl : j = 16 := by omega
    simp only [f12, f16, f19, f20]
    clear f12 f16 f19 f20 hFr hJ hO hT hU hne hTU hk hQ hmj
    conv => arg 2; whnf
    go_wp2_with fail
    exact ⟨rfl, HQ.out _ _ v ⟨rfl, rfl, by repeat (first | exact trivial | refine ⟨rfl, ?_⟩)⟩ HO.out HK.out⟩

noncomputable def hseE : Code := loopOf Try.f9 0
set_option maxRecDepth 100000 in
set_option maxHeartbeats 8000000 in
theorem se_enc (R : Act → World → Prop) (a : Act) (w0 w : World) (bv kv v3 v11 v12 : Value) (sA gA : Option Addr) (sc cp : Nat) (key nn p : List Int) (hkl : Hid (key.length = 16)) (hnl : Hid (nn.length = 12)) (hpl : p.length ≤ 1000000)
    (hB : Hid (Sl .u8 w0 bv (boxL 256))) (hK : Hid (Sl .u8 w0 kv key)) (hN : Hid (Sl .u8 w0 (.slice sA 12 sc) nn)) (hP : Hid (Sl .u8 w0 (.slice gA p.length cp) p))
    (hO : Hid (w.ownsRow w0.heap.size 5 1 v12 0 [])) (hk : Hid (Keep [] w0 w))
    (hF : Fr 123 [(0, bv), (1, kv), (2, .slice sA 12 sc), (3, v3), (4, .slice gA p.length cp), (11, v11), (12, v12), (13, .int .i64 0)] a)
    (hQ : ∀ a' w' v', Fr 123 [(0, bv), (1, kv), (2, .slice sA 12 sc), (3, v3), (11, v11), (12, v')] a' → w'.ownsRow w0.heap.size 5 1 v' p.length ((Gcm.encL key nn p p.length).map (Value.int .u8)) → Keep [] w0 w' → R a' w') :
    Code.wp Try.prog (.loop hseE) (OutX 0 R) a w := by
  refine wp_loop_ghost_k (fun m a wr => ∃ (j : Nat) (v : Value), m + j = p.length ∧ Fr 123 [(0, bv), (1, kv), (2, .slice sA 12 sc), (3, v3), (4, .slice gA p.length cp), (11, v11), (12, v), (13, .int .i64 j)] a ∧
      wr.ownsRow w0.heap.size 5 1 v j ((Gcm.encL key nn p j).map (Value.int .u8)) ∧ Keep [] w0 wr)
    p.length ⟨0, v12, rfl, hF, by simpa [Gcm.encL] using hO.out, hk.out⟩ ?_
  clear hF hO hk
  rintro m a wr ⟨j, v, hmj, hFr, hO, hk⟩ J K hJ hK1
  have HJ := Lib.hid hJ
  have HM := Lib.hid hmj
  have HO := Lib.hid hO
  have HK := Lib.hid hk
  have HQ := Lib.hid hQ
  obtain ⟨f, ⟨f0, f1, f2, f3, f4, f11, f12, f13, -⟩, rfl⟩ := hFr.open123
  by_cases hlt : j < p.length
  · obtain ⟨gp, op, cp', hpe, -, -, -⟩ := hP.out.cells (by omega)
    injection hpe with e1 e2 e3
    subst e1
    subst e3
    clear e2
    have c1 : (j : Int) < p.length := by omega
    have HR1 : Hid (Rd (wr.alloc (.cells #[] 5)) sA (nn.map (Value.int .u8))) := Lib.hid ((hN.out.keep0 (HK.out.trans ((Keep.refl [] wr).alloc _))).rd)
    have HBW := Lib.hid (Gcm.ctr_wf hN.out.wf (2 + j / 16) (by omega))
    obtain ⟨q1, hq1⟩ : ∃ q : Int, q = (2 + (j : Int) / 16) / 256 := ⟨_, rfl⟩
    have HCE := Lib.hid (show Gcm.ctr nn (2 + j / 16) = nn ++ [0, 0, (2 + (j : Int) / 16) / 256, (2 + (j : Int) / 16) % 256] by
      unfold Gcm.ctr; push_cast; rfl)
    clear hq1 q1
    simp only [f0, f1, f2, f3, f4, f11, f12, f13]
    clear f0 f1 f2 f3 f4 f11 f12 f13 hFr hJ hO hk hQ hmj
    conv => arg 2; whnf
    go_upto_region 7 with fail
    go_upto_region 8 with (first
        | (at_builtin
           refine wl_append _ rfl _ _ _ rfl wr.heap.size 5 (.int .u8 0) 1 1 Try.underlying26 u8infB rfl (by decide) (.slice (some ⟨wr.heap.size, 0, Option.none⟩) 0 0) 0 [] rfl (own_of_blk (Blk.new wr _ _) rfl (Nat.le_refl _) (by omega) rfl) sA 12 sc (nn.map (Value.int .u8)) rfl (by rw [List.length_map, hnl.out]) HR1.out (ints_one _ _) (by simp only [maxLen]; omega) (by omega) (by simp) ?_
           intro x1 w1 ho1 hk1 hat1
           simp only [Nat.zero_add, List.nil_append] at ho1
           have HX1 := Lib.hid ho1
           have HK1 := Lib.hid (show Keep [] wr w1 from ((Keep.refl [] wr).alloc (.cells #[] 5)).trans' hk1 (by intro y hy; right; simp [Value.ownBlock] at hy; omega))
           clear ho1 hk1 hat1
           obtain ⟨A1, cc1, rfl⟩ := own_slice HX1.out)
        | (at_builtin
           refine wl_append _ rfl _ _ _ rfl wr.heap.size 5 (.int .u8 0) 1 1 Try.underlying26 u8infB rfl (by decide) (.slice A1 12 cc1) _ _ rfl (HX1.out.alloc _) (some ⟨w1.heap.size, 0, Option.none⟩) 4 4 [.int .u8 0, .int .u8 0, .int .u8 ((2 + (j : Int) / 16) / 256), .int .u8 ((2 + (j : Int) / 16) % 256)] rfl rfl (by simpa using Rd.of_blk (Blk.new w1 _ _)) (by simp [Value.oneCell']) (by simp only [maxLen]; omega) (by omega) (by have := HK1.out.size; simp; omega) ?_
           intro x2 w2 ho2 hk2 hat2
           have HX2 := Lib.hid (show w2.ownsRow wr.heap.size 5 1 x2 16 ((Gcm.ctr nn (2 + j / 16)).map (Value.int .u8)) by
             rw [HCE.out, List.map_append]; exact ho2)
           have HK2 := Lib.hid (show Keep [] wr w2 from keep_own (HX1.out.alloc _) (Nat.le_refl _) (HK1.out.alloc _) hk2)
           clear ho2 hk2 hat2)
        | (go_at_call 18
           with_reducible refine (rturn_any bv kv x2 key (Gcm.ctr nn (2 + j / 16)) w2 (hB.out.keep0 (HK.out.trans HK2.out)) (hK.out.keep0 (HK.out.trans HK2.out)) (Sl.of_own HX2.out HBW.out) hkl.out (Gcm.ctr_length nn hnl.out _)).mono ?_
           rintro e w3 ⟨T, ct, rfl, hR3, hc3, hc4, hk3⟩
           have HR3 := Lib.hid hR3
           have HK3 := Lib.hid (HK2.out.trans hk3)
           have HC3 := Lib.hid (And.intro hc3 hc4)
           clear hR3 hk3 hc3 hc4))
    have HO3 := Lib.hid (own_keep0 HO.out HK3.out)
    have HK03 := Lib.hid (HK.out.trans HK3.out)
    have hPc := sl_cell (hP.out.keep0 HK03.out) j hlt
    have HX := Lib.hid hPc
    have hTl : (Aes.turn key (Gcm.ctr nn (2 + j / 16))).length = 16 := by exact Aes.turn_length _ _
    have hTw := Aes.turn_wf hK.out.wf HBW.out
    have HY := Lib.hid (show w3.cell? ⟨T, j % 16, none⟩ = some (.int .u8 ((nb (Aes.turn key (Gcm.ctr nn (2 + j / 16))) (j % 16) : Nat) : Int)) by
      rw [HR3.out.cell _ (by rw [hTl]; omega), nb_int hTw])
    clear hPc
    refine OutN.use (se_reg8 (fun a' w' => ∃ v', Fr 123 [(12, v'), (0, bv), (1, kv), (2, .slice sA 12 sc), (3, v3), (4, .slice (some ⟨gp, op, none⟩) p.length cp), (11, v11), (13, .int .i64 j)] a' ∧ w'.ownsRow w0.heap.size 5 1 v' (j + 1) ((Gcm.encL key nn p (j + 1)).map (Value.int .u8)) ∧ Keep [] w0 w') _ w3 w0.heap.size j (nb p j) (nb (Aes.turn key (Gcm.ctr nn (2 + j / 16))) (j % 16)) v bv kv _ v3 v11 _ T ct gp op p.length cp j ((Gcm.encL key nn p j).map (Value.int .u8)) (by omega) (nb_lt hP.out.wf _) (nb_lt hTw _) hlt HO3 (Lib.hid HK03.out.size) HX HY
      ⟨rfl, rfl, by repeat (first | exact trivial | refine ⟨rfl, ?_⟩)⟩ (Lib.hid fun a' w' v' h1 h2 h3 h4 => ⟨v', (by obtain ⟨q0, q1, q2, q3, q4, q5, q6, q7, q8, q9, -, -, -⟩ := h1; exact ⟨q0, q1, q2, q3, q4, q5, q6, q7, q8, q9, trivial⟩), by rw [Gcm.encL_succ, List.map_append]; exact h2, HK03.out.trans' h3 (fun x hx => by right; exact (HO3.out.lt x (by simpa using hx)).1)⟩)) ?_
    rintro a' w4 ⟨v', hF4, hO4, hk4⟩
    have HO4 := Lib.hid hO4
    have HK4 := Lib.hid hk4
    obtain ⟨f, ⟨f12, f0, f1, f2, f3, f4, f11, f13, -⟩, rfl⟩ := hF4.open123
    simp only [f0, f1, f2, f3, f4, f11, f12, f13]
    clear f0 f1 f2 f3 f4 f11 f12 f13 hF4 hO4 hk4
    go_wp2_with fail
    exact Handed.intro (m - 1) (by have := HM.out; omega) (HJ.out _ _ _ ⟨j + 1, v', by have := HM.out; omega, ⟨rfl, rfl, by repeat (first | exact trivial | refine ⟨rfl, ?_⟩)⟩, HO4.out, HK4.out⟩)
  · obtain rfl : j = p.length := by omega
    simp only [f0, f1, f2, f3, f4, f11, f12, f13]
    clear f0 f1 f2 f3 f4 f11 f12 f13 hFr hJ hO hk hQ hmj
    conv => arg 2; whnf
    go_wp2_with fail
    exact ⟨rfl, HQ.out _ _ v ⟨rfl, rfl, by repeat (first | exact trivial | refine ⟨rfl, ?_⟩)⟩ HO.out HK.out⟩

set_option maxRecDepth 100000 in
set_option maxHeartbeats 8000000 in
theorem rseal_any (bv kv nv av pv : Value) (key nn ad p : List Int) (w : World) (hb : Sl .u8 w bv (boxL 256)) (hk : Sl .u8 w kv key) (hn : Sl .u8 w nv nn) (ha : Sl .u8 w av ad) (hp : Sl .u8 w pv p) (hkl : key.length = 16) (hnl : nn.length = 12) (hal : ad.length ≤ 1000000) (hpl : p.length ≤ 1000000) :
    Calls Try.prog 9 #[bv, kv, nv, av, pv] w fun x w' => ∃ v', x = .returned v' ∧ w'.ownsRow w.heap.size 5 1 v' (p.length + 16) ((Gcm.sealed key nn ad p).map (Value.int .u8)) ∧ Keep [] w w' := by
  have HB := Lib.hid hb
  have HK0 := Lib.hid hk
  have HN := Lib.hid hn
  have HA := Lib.hid ha
  have HP := Lib.hid hp
  have HKL := Lib.hid hkl
  have HNL := Lib.hid hnl
  obtain ⟨sA, sc, rfl, -, -, -, -⟩ := hn
  obtain ⟨aA, ac, rfl, -, -, -, -⟩ := ha
  obtain ⟨gA, cp, rfl, -, -, -, -⟩ := hp
  have HAL := Lib.hid hal
  have HPL := Lib.hid hpl
  rw [hnl] at HN ⊢
  clear hb hk
  go_enter Try.func9, Try.ntmps9
  go_upto_block 0 with (first
    | (at_make; refine wl_make _ rfl _ _ 26 rfl 5 (.int .u8 0) 1 Try.underlying26 u8infB rfl _ _ _ _ 16 16 rfl rfl rfl rfl (Nat.le_refl _) (by omega) (by omega) ?_; intro w1 hB1 hk1 hz1; have HB1 := Lib.hid hB1; have HK1 := Lib.hid hk1; clear hB1 hk1 hz1)
    | (go_at_call 18
       with_reducible refine (rturn_any bv kv _ key (List.replicate 16 0) w1 (HB.out.keep0 HK1.out) (HK0.out.keep0 HK1.out) (Sl.of_blk (by simpa using HB1.out) (by simp) (by decide) zeros16_wf) HKL.out (by simp)).mono ?_
       rintro e w2 ⟨H, cH, rfl, hR2, hc2, hc3, hk2⟩
       have HR2 := Lib.hid hR2
       have HK2 := Lib.hid (HK1.out.trans hk2)
       have HC2 := Lib.hid (And.intro hc2 hc3)
       clear hR2 hk2 hc2 hc3))
  have HHS := Lib.hid (show Sl .u8 w2 (.slice (some ⟨H, 0, none⟩) 16 cH) (Gcm.hk key) by
    have h := HR2.out.sl (c := cH) (Aes.turn_wf HK0.out.wf zeros16_wf) (by rw [Aes.turn_length]; exact HC2.out.1) HC2.out.2
    rwa [Aes.turn_length] at h)
  have HHL := Lib.hid (show (Gcm.hk key).length = 16 from Aes.turn_length _ _)
  go_wp2_with fail
  refine OutX.use (se_enc (fun a' w' => ∃ v', Fr 123 [(0, bv), (1, kv), (2, .slice sA 12 sc), (3, .slice aA ad.length ac), (11, .slice (some ⟨H, 0, none⟩) 16 cH), (12, v')] a' ∧ w'.ownsRow w2.heap.size 5 1 v' p.length ((Gcm.encL key nn p p.length).map (Value.int .u8)) ∧ Keep [] w2 w') _ w2 w2 bv kv (.slice aA ad.length ac) (.slice (some ⟨H, 0, none⟩) 16 cH) _ sA gA sc cp key nn p HKL HNL hpl (Lib.hid (HB.out.keep0 HK2.out)) (Lib.hid (HK0.out.keep0 HK2.out)) (Lib.hid (HN.out.keep0 HK2.out)) (Lib.hid (HP.out.keep0 HK2.out)) (Lib.hid ⟨by simp, Or.inl ⟨rfl, rfl⟩⟩) (Lib.hid (Keep.refl _ _))
    ⟨rfl, rfl, by repeat (first | exact trivial | refine ⟨rfl, ?_⟩)⟩ (fun a' w' v' h1 h2 h3 => ⟨v', h1, h2, h3⟩)) ?_
  rintro a' w3 ⟨v12, hF3, hO3, hk3⟩
  obtain ⟨C, hC⟩ : ∃ C, C = Gcm.encL key nn p p.length := ⟨_, rfl⟩
  have HC := Lib.hid hC
  have hCw : ∀ x ∈ C, (Lit.int .u8 x).wf = true := by rw [hC]; exact Gcm.encL_wf HK0.out.wf HN.out.wf HP.out.wf _ hpl
  have hCl : C.length = p.length := by rw [hC]; exact Gcm.encL_length _ _ _ _
  rw [← hC] at hO3
  have HO3 := Lib.hid hO3
  have HCW := Lib.hid hCw
  have HCL := Lib.hid hCl
  have HCS := Lib.hid (Sl.of_own hO3 hCw)
  have HK3 := Lib.hid hk3
  obtain ⟨A12, c12, rfl⟩ := own_slice HO3.out
  obtain ⟨f, ⟨f0, f1, f2, f3, f11, f12, -⟩, rfl⟩ := hF3.open123
  simp only [f0, f1, f2, f3, f11, f12]
  clear f0 f1 f2 f3 f11 f12 hF3 hO3 hk3 hC hCw hCl
  go_upto_region 10 with (first
    | (at_make; refine wl_make _ rfl _ _ 26 rfl 5 (.int .u8 0) 1 Try.underlying26 u8infB rfl _ _ _ _ 16 16 rfl rfl rfl rfl (Nat.le_refl _) (by omega) (by omega) ?_; intro w4 hB4 hk4 hz4; have HB4 := Lib.hid hB4; have HK34 := Lib.hid hk4; have HK4 := Lib.hid (HK3.out.trans hk4); clear hB4 hk4 hz4)
    | (go_at_call 19
       first
       | (with_reducible refine (rover_any _ _ _ (Gcm.hk key) (Gcm.over (Gcm.hk key) (List.replicate 16 0) ad) C w5 (HHS.out.keep0 HK5.out) HS5.out (HCS.out.keep0 HK35.out) HHL.out (Gcm.over_length _ _ _ (by simp)) (by rw [HCL.out]; exact HPL.out)).mono ?_
          rintro e w6 ⟨v6, rfl, hS6, -, hk6⟩
          have HS6 := Lib.hid hS6
          have HK6 := Lib.hid (HK5.out.trans hk6)
          have HK36 := Lib.hid (HK35.out.trans hk6)
          clear hS6 hk6)
       | (with_reducible refine (rover_any _ _ _ (Gcm.hk key) (List.replicate 16 0) ad w4 (HHS.out.keep0 HK4.out) (Sl.of_blk (by simpa using HB4.out) (by simp) (by decide) zeros16_wf) (HA.out.keep0 (HK2.out.trans HK4.out)) HHL.out (by simp) HAL.out).mono ?_
          rintro e w5 ⟨v5, rfl, hS5, -, hk5⟩
          have HS5 := Lib.hid hS5
          have HK5 := Lib.hid (HK4.out.trans hk5)
          have HK35 := Lib.hid (HK34.out.trans hk5)
          clear hS5 hk5)))
  go_upto_block 2 with (at_make; refine wl_make _ rfl _ _ 26 rfl 5 (.int .u8 0) 1 Try.underlying26 u8infB rfl _ _ _ _ 16 16 rfl rfl rfl rfl (Nat.le_refl _) (by omega) (by omega) ?_; intro w7 hB7 hk7 hz7; have HB7 := Lib.hid hB7; have HK67 := Lib.hid hk7; clear hB7 hk7 hz7)
  obtain ⟨G, hG⟩ : ∃ G, G = w6.heap.size := ⟨_, rfl⟩
  have HR7 := Lib.hid (show Row w7 G (List.replicate 16 0) from Row.of_blk (by rw [hG]; simpa using HB7.out))
  have HGE := Lib.hid hG
  rw [← hG]
  clear hG
  go_wp2_with fail
  refine OutX.use (se_lens (fun a' w' => Fr 123 [(0, bv), (1, kv), (2, .slice sA 12 sc), (3, .slice aA ad.length ac), (11, .slice (some ⟨H, 0, none⟩) 16 cH), (12, .slice A12 p.length c12), (16, v6), (17, .slice (some ⟨G, 0, none⟩) 16 16)] a' ∧ Row w' G (Gcm.lens (ad.length * 8) (p.length * 8) 8) ∧ Keep [G] w7 w') _ w7 (.slice (some ⟨H, 0, none⟩) 16 cH) v6 aA A12 ad.length ac p.length c12 G hal (by omega) bv kv (.slice sA 12 sc) HR7
    ⟨rfl, rfl, by repeat (first | exact trivial | refine ⟨rfl, ?_⟩)⟩ (fun a' w' h1 h2 h3 => ⟨h1, h2, h3⟩)) ?_
  rintro a' w8 ⟨hF8, hR8, hk8⟩
  have HK68 := Lib.hid (HK67.out.trans' hk8 (fun x hx => by right; have := HGE.out; simp at hx; omega))
  have HS8 := Lib.hid (show Sl .u8 w8 (.slice (some ⟨G, 0, none⟩) 16 16) (Gcm.lens (ad.length * 8) (p.length * 8) 8) by
    have h := hR8.sl (c := 16) (Gcm.lens_wf _ _ _) (by rw [Gcm.lens_length]; exact Nat.le_refl _) (by decide)
    rwa [Gcm.lens_length] at h)
  have HK8 := Lib.hid (HK6.out.trans HK68.out)
  have HK38 := Lib.hid (HK36.out.trans HK68.out)
  have HVO := Lib.hid (rover_any _ _ _ (Gcm.hk key) (Gcm.over (Gcm.hk key) (Gcm.over (Gcm.hk key) (List.replicate 16 0) ad) C) (Gcm.lens (ad.length * 8) (p.length * 8) 8) w8 (HHS.out.keep0 HK8.out) (HS6.out.keep0 HK68.out) HS8.out HHL.out (Gcm.over_length _ _ _ (Gcm.over_length _ _ _ (by simp))) (by rw [Gcm.lens_length]; decide))
  obtain ⟨f, ⟨f0, f1, f2, f3, f11, f12, f16, f17, -⟩, rfl⟩ := hF8.open123
  simp only [f0, f1, f2, f3, f11, f12, f16, f17]
  clear f0 f1 f2 f3 f11 f12 f16 f17 hF8 hR8 hk8
  go_upto_region 17 with (go_at_call 19; with_reducible refine HVO.out.mono ?_; rintro e w9 ⟨v9, rfl, hS9, hn9, hk9⟩; have HN99 := Lib.hid (hn9 (by rw [Gcm.lens_length]; decide)); clear hn9; have HS9 := Lib.hid hS9; have HK9 := Lib.hid (HK8.out.trans hk9); have HK39 := Lib.hid (HK38.out.trans hk9); clear hS9 hk9)
  have HN9 : Hid (Rd (w9.alloc (.cells #[] 5)) sA (nn.map (Value.int .u8))) := Lib.hid ((HN.out.keep0 ((HK2.out.trans HK9.out).trans ((Keep.refl [] w9).alloc _))).rd)
  have HB1W := Lib.hid (show ∀ x ∈ nn ++ [0, 0, 0, 1], (Lit.int .u8 x).wf = true by
    intro x hx
    rcases List.mem_append.1 hx with h1 | h1
    · exact HN.out.wf x h1
    · simp only [List.mem_cons, List.not_mem_nil, or_false] at h1
      rcases h1 with rfl | rfl | rfl | rfl <;> decide)
  go_upto_block 4 with (first
        | (at_builtin
           refine wl_append _ rfl _ _ _ rfl w9.heap.size 5 (.int .u8 0) 1 1 Try.underlying26 u8infB rfl (by decide) (.slice (some ⟨w9.heap.size, 0, Option.none⟩) 0 0) 0 [] rfl (own_of_blk (Blk.new w9 _ _) rfl (Nat.le_refl _) (by omega) rfl) sA 12 sc (nn.map (Value.int .u8)) rfl (by rw [List.length_map, HNL.out]) HN9.out (ints_one _ _) (by simp only [maxLen]; omega) (by omega) (by simp) ?_
           intro x1 w1 ho1 hk1 hat1
           simp only [Nat.zero_add, List.nil_append] at ho1
           have HX1 := Lib.hid ho1
           have HKA := Lib.hid (show Keep [] w9 w1 from ((Keep.refl [] w9).alloc (.cells #[] 5)).trans' hk1 (by intro y hy; right; simp [Value.ownBlock] at hy; omega))
           clear ho1 hk1 hat1
           obtain ⟨A1, cc1, rfl⟩ := own_slice HX1.out)
        | (at_builtin
           refine wl_append _ rfl _ _ _ rfl w9.heap.size 5 (.int .u8 0) 1 1 Try.underlying26 u8infB rfl (by decide) (.slice A1 12 cc1) _ _ rfl (HX1.out.alloc _) (some ⟨w1.heap.size, 0, Option.none⟩) 4 4 [.int .u8 0, .int .u8 0, .int .u8 0, .int .u8 1] rfl rfl (by simpa using Rd.of_blk (Blk.new w1 _ _)) (by simp [Value.oneCell']) (by simp only [maxLen]; omega) (by omega) (by have := HKA.out.size; simp; omega) ?_
           intro x2 wa ho2 hk2 hat2
           have HX2 := Lib.hid (show wa.ownsRow w9.heap.size 5 1 x2 16 ((nn ++ [0, 0, 0, 1]).map (Value.int .u8)) by
             rw [List.map_append]; exact ho2)
           have HKB := Lib.hid (show Keep [] w9 wa from keep_own (HX1.out.alloc _) (Nat.le_refl _) (HKA.out.alloc _) hk2)
           clear ho2 hk2 hat2)
        | (go_at_call 18
           with_reducible refine (rturn_new bv kv x2 key (nn ++ [0, 0, 0, 1]) wa (HB.out.keep0 ((HK2.out.trans HK9.out).trans HKB.out)) (HK0.out.keep0 ((HK2.out.trans HK9.out).trans HKB.out)) (Sl.of_own HX2.out HB1W.out) HKL.out (by simp [HNL.out])).mono ?_
           rintro e wb ⟨U, cU, rfl, hUn, hRU, hc3, hc4, hkb⟩
           have HUN := Lib.hid hUn
           clear hUn
           have HRU := Lib.hid hRU
           have HKC := Lib.hid (HKB.out.trans hkb)
           have HCU := Lib.hid (And.intro hc3 hc4)
           clear hRU hkb hc3 hc4))
  obtain ⟨T, oT, cT, hv9, -, -, -⟩ := HS9.out.cells (by rw [Gcm.over_length _ _ _ (Gcm.over_length _ _ _ (Gcm.over_length _ _ _ (by simp)))]; decide)
  rw [Gcm.over_length _ _ _ (Gcm.over_length _ _ _ (Gcm.over_length _ _ _ (by simp)))] at hv9
  subst hv9
  have HTL := Lib.hid (show (Gcm.hash key ad C).length = 16 from Gcm.over_length _ _ _ (Gcm.over_length _ _ _ (Gcm.over_length _ _ _ (by simp))))
  have HTS := Lib.hid (show Sl .u8 wb (.slice (some ⟨T, oT, none⟩) 16 cT) (Gcm.hash key ad C) by
    unfold Gcm.hash
    rw [HCL.out]
    exact HS9.out.keep0 HKC.out)
  have HUS := Lib.hid (show Sl .u8 wb (.slice (some ⟨U, 0, none⟩) 16 cU) (Aes.turn key (nn ++ [0, 0, 0, 1])) by
    have h := HRU.out.sl (c := cU) (Aes.turn_wf HK0.out.wf HB1W.out) (by rw [Aes.turn_length]; exact HCU.out.1) HCU.out.2
    rwa [Aes.turn_length] at h)
  have HWB := Lib.hid (HK9.out.trans HKC.out)
  have HOB := Lib.hid (show wb.ownsRow w2.heap.size 5 1 (.slice A12 p.length c12) C.length (C.map (Value.int .u8)) by
    rw [HCL.out]
    exact own_keep0 (own_keep0 HO3.out HK39.out) HKC.out)
  have HNEQ := Lib.hid (show ∀ q, (Value.slice A12 p.length c12).ownBlock = some q → q ≠ T ∧ q ≠ U from fun q hq => by
    have h1 := (HO3.out.lt q hq).2
    have h2 : w8.heap.size ≤ T := HN99.out T (by simp [Value.ownBlock])
    have h3 := HUN.out
    have h4 := HK38.out.size
    have h5 := HK39.out.size
    have h6 := HKB.out.size
    omega)
  have HTU := Lib.hid (show T < wb.heap.size ∧ U < wb.heap.size from ⟨by
    have h := HTS.out.lt (by rw [HTL.out]; decide) T (by simp [Value.ownBlock])
    exact h, HRU.out.lt⟩)
  go_wp2_with fail
  refine OutX.use (se_tag (fun a' w' => ∃ v', Fr 123 [(12, v')] a' ∧ w'.ownsRow w2.heap.size 5 1 v' (C.length + 16) ((C ++ Gcm.tagL (Gcm.hash key ad C) (Aes.turn key (nn ++ [0, 0, 0, 1])) 16).map (Value.int .u8)) ∧ Keep [] w2 w') _ w2 wb (.slice A12 p.length c12) T oT U cT cU (Gcm.hash key ad C) (Aes.turn key (nn ++ [0, 0, 0, 1])) C HTL (Lib.hid (Aes.turn_length _ _)) (by rw [HCL.out]; exact hpl) HOB HTS HUS HNEQ HTU HWB
    ⟨rfl, rfl, by repeat (first | exact trivial | refine ⟨rfl, ?_⟩)⟩ (fun a' w' v' h1 h2 h3 => ⟨v', h1, h2, h3⟩)) ?_
  rintro a' wc ⟨v', hF, hO, hkc⟩
  have HOO := Lib.hid (show wc.ownsRow w.heap.size 5 1 v' (p.length + 16) ((Gcm.sealed key nn ad p).map (Value.int .u8)) by
    unfold Gcm.sealed
    rw [← HC.out]
    rw [HCL.out] at hO
    exact own_base hO HK2.out.size)
  have HKK := Lib.hid (HK2.out.trans hkc)
  obtain ⟨f, ⟨f12, -⟩, rfl⟩ := hF.open123
  simp only [f12]
  clear f12 hF hO hkc
  go_wp2_with fail
  go_ret
  exact ⟨_, rfl, HOO.out, HKK.out⟩
end Go.Proofs.Ytlkjngbelckgkaa
