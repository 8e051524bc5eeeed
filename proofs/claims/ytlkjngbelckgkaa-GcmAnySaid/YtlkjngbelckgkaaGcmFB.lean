/-
  Frames of the landed functions' sizes, opened.
  The landed gcm: its drawn regions.
  The landed field: the product, whole.
-/
import Derived.Test.YtlkjngbelckgkaaGen
import Derived.Test.YtlkjngbelckgkaaGcmFA
import Derived.Test.YtlkjngbelckgkaaA67
import Derived.Test.YtlkjngbelckgkaaA89
namespace Go.Proofs.Ytlkjngbelckgkaa
open Go.RowKit

set_option maxRecDepth 100000 in
theorem letters24 (f : Nat → Value) : (List.range 24).map f = [f 0, f 1, f 2, f 3, f 4, f 5, f 6, f 7, f 8, f 9, f 10, f 11, f 12, f 13, f 14, f 15, f 16, f 17, f 18, f 19, f 20, f 21, f 22, f 23] := by kernel_rfl
set_option maxRecDepth 100000 in
theorem Fr.open24 {l : List (Nat × Value)} {a : Act} (h : Fr 24 l a) : ∃ f : Nat → Value, Holds f l ∧ a = ⟨#[f 0, f 1, f 2, f 3, f 4, f 5, f 6, f 7, f 8, f 9, f 10, f 11, f 12, f 13, f 14, f 15, f 16, f 17, f 18, f 19, f 20, f 21, f 22, f 23], []⟩ := by
  refine ⟨fun k => a.tmps.getD k undef, h.slot, ?_⟩
  obtain ⟨t, d⟩ := a
  obtain ⟨h1, h2, _⟩ := h
  simp only at h1 h2
  subst h1
  have e := arr_letters t 24 h2
  rw [letters24 (fun k => t.getD k undef)] at e
  exact congrArg (fun t => Act.mk t []) e

set_option maxRecDepth 100000 in
theorem letters28 (f : Nat → Value) : (List.range 28).map f = [f 0, f 1, f 2, f 3, f 4, f 5, f 6, f 7, f 8, f 9, f 10, f 11, f 12, f 13, f 14, f 15, f 16, f 17, f 18, f 19, f 20, f 21, f 22, f 23, f 24, f 25, f 26, f 27] := by kernel_rfl
set_option maxRecDepth 100000 in
theorem Fr.open28 {l : List (Nat × Value)} {a : Act} (h : Fr 28 l a) : ∃ f : Nat → Value, Holds f l ∧ a = ⟨#[f 0, f 1, f 2, f 3, f 4, f 5, f 6, f 7, f 8, f 9, f 10, f 11, f 12, f 13, f 14, f 15, f 16, f 17, f 18, f 19, f 20, f 21, f 22, f 23, f 24, f 25, f 26, f 27], []⟩ := by
  refine ⟨fun k => a.tmps.getD k undef, h.slot, ?_⟩
  obtain ⟨t, d⟩ := a
  obtain ⟨h1, h2, _⟩ := h
  simp only at h1 h2
  subst h1
  have e := arr_letters t 28 h2
  rw [letters28 (fun k => t.getD k undef)] at e
  exact congrArg (fun t => Act.mk t []) e

set_option maxRecDepth 100000 in
theorem letters30 (f : Nat → Value) : (List.range 30).map f = [f 0, f 1, f 2, f 3, f 4, f 5, f 6, f 7, f 8, f 9, f 10, f 11, f 12, f 13, f 14, f 15, f 16, f 17, f 18, f 19, f 20, f 21, f 22, f 23, f 24, f 25, f 26, f 27, f 28, f 29] := by kernel_rfl
set_option maxRecDepth 100000 in
theorem Fr.open30 {l : List (Nat × Value)} {a : Act} (h : Fr 30 l a) : ∃ f : Nat → Value, Holds f l ∧ a = ⟨#[f 0, f 1, f 2, f 3, f 4, f 5, f 6, f 7, f 8, f 9, f 10, f 11, f 12, f 13, f 14, f 15, f 16, f 17, f 18, f 19, f 20, f 21, f 22, f 23, f 24, f 25, f 26, f 27, f 28, f 29], []⟩ := by
  refine ⟨fun k => a.tmps.getD k undef, h.slot, ?_⟩
  obtain ⟨t, d⟩ := a
  obtain ⟨h1, h2, _⟩ := h
  simp only at h1 h2
  subst h1
  have e := arr_letters t 30 h2
  rw [letters30 (fun k => t.getD k undef)] at e
  exact congrArg (fun t => Act.mk t []) e

set_option maxRecDepth 100000 in
theorem letters47 (f : Nat → Value) : (List.range 47).map f = [f 0, f 1, f 2, f 3, f 4, f 5, f 6, f 7, f 8, f 9, f 10, f 11, f 12, f 13, f 14, f 15, f 16, f 17, f 18, f 19, f 20, f 21, f 22, f 23, f 24, f 25, f 26, f 27, f 28, f 29, f 30, f 31, f 32, f 33, f 34, f 35, f 36, f 37, f 38, f 39, f 40, f 41, f 42, f 43, f 44, f 45, f 46] := by kernel_rfl
set_option maxRecDepth 100000 in
theorem Fr.open47 {l : List (Nat × Value)} {a : Act} (h : Fr 47 l a) : ∃ f : Nat → Value, Holds f l ∧ a = ⟨#[f 0, f 1, f 2, f 3, f 4, f 5, f 6, f 7, f 8, f 9, f 10, f 11, f 12, f 13, f 14, f 15, f 16, f 17, f 18, f 19, f 20, f 21, f 22, f 23, f 24, f 25, f 26, f 27, f 28, f 29, f 30, f 31, f 32, f 33, f 34, f 35, f 36, f 37, f 38, f 39, f 40, f 41, f 42, f 43, f 44, f 45, f 46], []⟩ := by
  refine ⟨fun k => a.tmps.getD k undef, h.slot, ?_⟩
  obtain ⟨t, d⟩ := a
  obtain ⟨h1, h2, _⟩ := h
  simp only at h1 h2
  subst h1
  have e := arr_letters t 47 h2
  rw [letters47 (fun k => t.getD k undef)] at e
  exact congrArg (fun t => Act.mk t []) e

set_option maxRecDepth 100000 in
theorem letters54 (f : Nat → Value) : (List.range 54).map f = [f 0, f 1, f 2, f 3, f 4, f 5, f 6, f 7, f 8, f 9, f 10, f 11, f 12, f 13, f 14, f 15, f 16, f 17, f 18, f 19, f 20, f 21, f 22, f 23, f 24, f 25, f 26, f 27, f 28, f 29, f 30, f 31, f 32, f 33, f 34, f 35, f 36, f 37, f 38, f 39, f 40, f 41, f 42, f 43, f 44, f 45, f 46, f 47, f 48, f 49, f 50, f 51, f 52, f 53] := by kernel_rfl
set_option maxRecDepth 100000 in
theorem Fr.open54 {l : List (Nat × Value)} {a : Act} (h : Fr 54 l a) : ∃ f : Nat → Value, Holds f l ∧ a = ⟨#[f 0, f 1, f 2, f 3, f 4, f 5, f 6, f 7, f 8, f 9, f 10, f 11, f 12, f 13, f 14, f 15, f 16, f 17, f 18, f 19, f 20, f 21, f 22, f 23, f 24, f 25, f 26, f 27, f 28, f 29, f 30, f 31, f 32, f 33, f 34, f 35, f 36, f 37, f 38, f 39, f 40, f 41, f 42, f 43, f 44, f 45, f 46, f 47, f 48, f 49, f 50, f 51, f 52, f 53], []⟩ := by
  refine ⟨fun k => a.tmps.getD k undef, h.slot, ?_⟩
  obtain ⟨t, d⟩ := a
  obtain ⟨h1, h2, _⟩ := h
  simp only at h1 h2
  subst h1
  have e := arr_letters t 54 h2
  rw [letters54 (fun k => t.getD k undef)] at e
  exact congrArg (fun t => Act.mk t []) e

set_option maxRecDepth 100000 in
theorem letters55 (f : Nat → Value) : (List.range 55).map f = [f 0, f 1, f 2, f 3, f 4, f 5, f 6, f 7, f 8, f 9, f 10, f 11, f 12, f 13, f 14, f 15, f 16, f 17, f 18, f 19, f 20, f 21, f 22, f 23, f 24, f 25, f 26, f 27, f 28, f 29, f 30, f 31, f 32, f 33, f 34, f 35, f 36, f 37, f 38, f 39, f 40, f 41, f 42, f 43, f 44, f 45, f 46, f 47, f 48, f 49, f 50, f 51, f 52, f 53, f 54] := by kernel_rfl
set_option maxRecDepth 100000 in
theorem Fr.open55 {l : List (Nat × Value)} {a : Act} (h : Fr 55 l a) : ∃ f : Nat → Value, Holds f l ∧ a = ⟨#[f 0, f 1, f 2, f 3, f 4, f 5, f 6, f 7, f 8, f 9, f 10, f 11, f 12, f 13, f 14, f 15, f 16, f 17, f 18, f 19, f 20, f 21, f 22, f 23, f 24, f 25, f 26, f 27, f 28, f 29, f 30, f 31, f 32, f 33, f 34, f 35, f 36, f 37, f 38, f 39, f 40, f 41, f 42, f 43, f 44, f 45, f 46, f 47, f 48, f 49, f 50, f 51, f 52, f 53, f 54], []⟩ := by
  refine ⟨fun k => a.tmps.getD k undef, h.slot, ?_⟩
  obtain ⟨t, d⟩ := a
  obtain ⟨h1, h2, _⟩ := h
  simp only at h1 h2
  subst h1
  have e := arr_letters t 55 h2
  rw [letters55 (fun k => t.getD k undef)] at e
  exact congrArg (fun t => Act.mk t []) e

noncomputable def htimes7 : Code := regionOf Try.f33 7
set_option maxRecDepth 100000 in
set_option maxHeartbeats 4000000 in
theorem times_reg7 (R : Act → World → Prop) (a : Act) (w2 : World) (F G x m n : Nat) (v2 v4 v12 v13 v16 : Value) (hx : x < 2 ^ 64) (hm : m < 2 ^ 128) (hn : n < 2 ^ 128)
    (hBF : Hid (Blk w2 F 43 (ec m))) (hBG : Hid (Blk w2 G 43 (ec n)))
    (hF : Fr 30 [(2, v2), (3, .pointer (some ⟨F, 0, none⟩)), (4, v4), (5, .pointer (some ⟨G, 0, none⟩)), (7, .int .u64 (x : Nat)), (12, v12), (13, v13), (16, v16)] a)
    (hR : Hid (∀ a' w', Fr 30 [(2, v2), (3, .pointer (some ⟨F, 0, none⟩)), (4, v4), (5, .pointer (some ⟨G, 0, none⟩)), (7, .int .u64 (x : Nat)), (12, v12), (13, v13), (16, v16)] a' → Blk w' G 43 (ec (n ^^^ (if x / 2 ^ 63 % 2 = 1 then m else 0))) → Keep [G] w2 w' → R a' w')) :
    Code.wp Try.prog htimes7 (OutN R) a w2 := by
  have LF : ∀ W, Keep [] w2 W → Blk W F 43 (ec m) := fun W h => hBF.out.keep h (by simp)
  have LG : ∀ W, Keep [] w2 W → Blk W G 43 (ec n) := fun W h => hBG.out.keep h (by simp)
  obtain ⟨y, hy⟩ : ∃ y, y = (if x / 2 ^ 63 % 2 = 1 then m else 0) := ⟨_, rfl⟩
  have hy2 : y < 2 ^ 128 := by rw [hy]; split; exact hm; decide
  have CW := fun w => el_where m x hm hx w
  have CP := fun w => el_plus n y hn hy2 w
  rw [← hy] at CW hR
  clear hy hy2 hm hn hx
  obtain ⟨f, ⟨f2, f3, f4, f5, f7, f12, f13, f16, -⟩, rfl⟩ := hF.open30
  simp only [f2, f3, f4, f5, f7, f12, f13, f16]
  clear f2 f3 f4 f5 f7 f12 f13 f16 hF
  conv => arg 2; whnf
  refine wp_region_any (by kernel_rfl) ?_
  change wpAny _ _ _ _ _ _ _ (World.drew _)
  obtain ⟨W0, hW0⟩ : ∃ W0, W0 = w2.drew := ⟨_, rfl⟩
  rw [← hW0]
  have hk0 : Keep [] w2 W0 := by rw [hW0]; exact (Keep.refl [] w2).drew
  clear hW0
  go_simp
  refine wpAny_take (i := 2) (v := ?_) rfl (by kernel_rfl) (by kernel_rfl) (by kernel_rfl) (fun _ _ _ h => h) (Or.inl ⟨by rfl, ?_⟩) ?_
  rotate_left
  · intro y; go_simp; try (with_reducible rfl)
  rotate_left
  go_simp
  refine wpAny_ready (rs := [0, 1]) (by kernel_rfl) (by simp) ?_
  refine AllReady.cons rfl (fun K hK => ?_) ?_
  ·
    apply step_wp
    · rfl
    refine ow_loadD _ _ rfl G rfl _ Try.underlying43 rfl _ _ (LG _ hk0) elSz ?_
    apply hK
    clear hK K
    go_simp
    refine wpAny_ready (rs := [1]) (by kernel_rfl) (by simp) ?_
    refine AllReady.cons rfl (fun K hK => ?_) ?_
    ·
      apply step_wp
      · rfl
      refine ow_loadD _ _ rfl F rfl _ Try.underlying43 rfl _ _ (LF _ hk0) elSz ?_
      apply hK
      clear hK K
      go_simp
      refine wpAny_ready (rs := [3]) (by kernel_rfl) (by simp) ?_
      refine AllReady.cons rfl (fun K hK => ?_) ?_
      ·
        apply step_wp
        · rfl
        refine ow_call _ _ _ (by kernel_rfl) (CW _) ?_
        rintro e W3 ⟨rfl, hs3⟩
        refine ⟨_, rfl, ?_⟩
        have hk3 : Keep [] w2 W3 := hk0.trans0 hs3
        clear hs3
        apply hK
        clear hK K
        go_simp
        refine wpAny_ready (rs := [4]) (by kernel_rfl) (by simp) ?_
        refine AllReady.cons rfl (fun K hK => ?_) ?_
        ·
          apply step_wp
          · rfl
          refine ow_call _ _ _ (by kernel_rfl) (CP _) ?_
          rintro e W4 ⟨rfl, hs4⟩
          refine ⟨_, rfl, ?_⟩
          have hk4 : Keep [] w2 W4 := hk3.trans0 hs4
          clear hs4
          apply hK
          clear hK K
          go_simp
          refine wpAny_ready (rs := [5]) (by kernel_rfl) (by simp) ?_
          refine AllReady.cons rfl (fun K hK => ?_) ?_
          ·
            apply step_wp
            · rfl
            refine ow_store _ _ _ rfl G (ec (n ^^^ y)) rfl rfl _ _ (LG _ hk4) elSz rfl (elOne _ _) ?_
            intro WF hbF hsF
            have hkF : Keep [G] w2 WF := hk4.more0.trans hsF
            clear hsF
            apply hK
            clear hK K
            go_simp
            refine wpAny_done (by kernel_rfl) ?_ _
            exact hR.out _ _ ⟨rfl, rfl, by repeat (first | exact trivial | refine ⟨rfl, ?_⟩)⟩ hbF hkF
          exact AllReady.nil
        exact AllReady.nil
      exact AllReady.nil
    exact AllReady.nil
  refine AllReady.cons rfl (fun K hK => ?_) ?_
  ·
    apply step_wp
    · rfl
    refine ow_loadD _ _ rfl F rfl _ Try.underlying43 rfl _ _ (LF _ hk0) elSz ?_
    apply hK
    clear hK K
    go_simp
    refine wpAny_ready (rs := [0, 3]) (by kernel_rfl) (by simp) ?_
    refine AllReady.cons rfl (fun K hK => ?_) ?_
    ·
      apply step_wp
      · rfl
      refine ow_loadD _ _ rfl G rfl _ Try.underlying43 rfl _ _ (LG _ hk0) elSz ?_
      apply hK
      clear hK K
      go_simp
      refine wpAny_ready (rs := [3]) (by kernel_rfl) (by simp) ?_
      refine AllReady.cons rfl (fun K hK => ?_) ?_
      ·
        apply step_wp
        · rfl
        refine ow_call _ _ _ (by kernel_rfl) (CW _) ?_
        rintro e W3 ⟨rfl, hs3⟩
        refine ⟨_, rfl, ?_⟩
        have hk3 : Keep [] w2 W3 := hk0.trans0 hs3
        clear hs3
        apply hK
        clear hK K
        go_simp
        refine wpAny_ready (rs := [4]) (by kernel_rfl) (by simp) ?_
        refine AllReady.cons rfl (fun K hK => ?_) ?_
        ·
          apply step_wp
          · rfl
          refine ow_call _ _ _ (by kernel_rfl) (CP _) ?_
          rintro e W4 ⟨rfl, hs4⟩
          refine ⟨_, rfl, ?_⟩
          have hk4 : Keep [] w2 W4 := hk3.trans0 hs4
          clear hs4
          apply hK
          clear hK K
          go_simp
          refine wpAny_ready (rs := [5]) (by kernel_rfl) (by simp) ?_
          refine AllReady.cons rfl (fun K hK => ?_) ?_
          ·
            apply step_wp
            · rfl
            refine ow_store _ _ _ rfl G (ec (n ^^^ y)) rfl rfl _ _ (LG _ hk4) elSz rfl (elOne _ _) ?_
            intro WF hbF hsF
            have hkF : Keep [G] w2 WF := hk4.more0.trans hsF
            clear hsF
            apply hK
            clear hK K
            go_simp
            refine wpAny_done (by kernel_rfl) ?_ _
            exact hR.out _ _ ⟨rfl, rfl, by repeat (first | exact trivial | refine ⟨rfl, ?_⟩)⟩ hbF hkF
          exact AllReady.nil
        exact AllReady.nil
      exact AllReady.nil
    refine AllReady.cons rfl (fun K hK => ?_) ?_
    ·
      apply step_wp
      · rfl
      refine ow_call _ _ _ (by kernel_rfl) (CW _) ?_
      rintro e W3 ⟨rfl, hs3⟩
      refine ⟨_, rfl, ?_⟩
      have hk3 : Keep [] w2 W3 := hk0.trans0 hs3
      clear hs3
      apply hK
      clear hK K
      go_simp
      refine wpAny_ready (rs := [0]) (by kernel_rfl) (by simp) ?_
      refine AllReady.cons rfl (fun K hK => ?_) ?_
      ·
        apply step_wp
        · rfl
        refine ow_loadD _ _ rfl G rfl _ Try.underlying43 rfl _ _ (LG _ hk3) elSz ?_
        apply hK
        clear hK K
        go_simp
        refine wpAny_ready (rs := [4]) (by kernel_rfl) (by simp) ?_
        refine AllReady.cons rfl (fun K hK => ?_) ?_
        ·
          apply step_wp
          · rfl
          refine ow_call _ _ _ (by kernel_rfl) (CP _) ?_
          rintro e W4 ⟨rfl, hs4⟩
          refine ⟨_, rfl, ?_⟩
          have hk4 : Keep [] w2 W4 := hk3.trans0 hs4
          clear hs4
          apply hK
          clear hK K
          go_simp
          refine wpAny_ready (rs := [5]) (by kernel_rfl) (by simp) ?_
          refine AllReady.cons rfl (fun K hK => ?_) ?_
          ·
            apply step_wp
            · rfl
            refine ow_store _ _ _ rfl G (ec (n ^^^ y)) rfl rfl _ _ (LG _ hk4) elSz rfl (elOne _ _) ?_
            intro WF hbF hsF
            have hkF : Keep [G] w2 WF := hk4.more0.trans hsF
            clear hsF
            apply hK
            clear hK K
            go_simp
            refine wpAny_done (by kernel_rfl) ?_ _
            exact hR.out _ _ ⟨rfl, rfl, by repeat (first | exact trivial | refine ⟨rfl, ?_⟩)⟩ hbF hkF
          exact AllReady.nil
        exact AllReady.nil
      exact AllReady.nil
    exact AllReady.nil
  exact AllReady.nil

noncomputable def htimesL : Code := loopOf Try.f33 1
set_option maxRecDepth 100000 in
set_option maxHeartbeats 4000000 in
theorem times_inner (R : Act → World → Prop) (a : Act) (w2 : World) (F G k0 e f x0 : Nat) (v2 v4 v12 v13 : Value) (hf : f < 2 ^ 128) (hbit : ∀ i, i < 64 → x0 * 2 ^ i % 2 ^ 64 / 2 ^ 63 % 2 = e / 2 ^ (127 - (k0 + i)) % 2) (hx0 : x0 < 2 ^ 64)
    (hne : Hid (F ≠ G)) (hBF : Hid (Blk w2 F 43 (ec (Gcm.upi f k0)))) (hBG : Hid (Blk w2 G 43 (ec (Gcm.pr e f k0))))
    (hF : Fr 30 [(2, v2), (3, .pointer (some ⟨F, 0, none⟩)), (4, v4), (5, .pointer (some ⟨G, 0, none⟩)), (7, .int .u64 (x0 : Nat)), (12, v12), (13, v13), (16, .int .i64 0)] a)
    (hQ : ∀ a' w', Fr 30 [(2, v2), (3, .pointer (some ⟨F, 0, none⟩)), (4, v4), (5, .pointer (some ⟨G, 0, none⟩)), (12, v12), (13, v13)] a' → Blk w' F 43 (ec (Gcm.upi f (k0 + 64))) → Blk w' G 43 (ec (Gcm.pr e f (k0 + 64))) → Keep [F, G] w2 w' → R a' w') :
    Code.wp Try.prog (.loop htimesL) (OutX 2 R) a w2 := by
  refine wp_loop_ghost_k (fun m a wr => ∃ i : Nat, m + i = 64 ∧ Fr 30 [(2, v2), (3, .pointer (some ⟨F, 0, none⟩)), (4, v4), (5, .pointer (some ⟨G, 0, none⟩)), (7, .int .u64 (x0 * 2 ^ i % 2 ^ 64 : Nat)), (12, v12), (13, v13), (16, .int .i64 i)] a ∧ Blk wr F 43 (ec (Gcm.upi f (k0 + i))) ∧ Blk wr G 43 (ec (Gcm.pr e f (k0 + i))) ∧ Keep [F, G] w2 wr)
    64 ⟨0, rfl, by rw [Nat.pow_zero, Nat.mul_one, Nat.mod_eq_of_lt hx0]; exact hF, hBF.out, hBG.out, Keep.refl _ _⟩ ?_
  clear hF hBF hBG
  rintro m a wr ⟨i, hmi, hFr, h1, h2, hk⟩ J K hJ hK1
  have HJ := Lib.hid hJ
  have HM := Lib.hid hmi
  have HB1 := Lib.hid h1
  have HB2 := Lib.hid h2
  have HK := Lib.hid hk
  have HQ := Lib.hid hQ
  obtain ⟨fr, ⟨f2, f3, f4, f5, f7, f12, f13, f16, -⟩, rfl⟩ := hFr.open30
  simp only [f2, f3, f4, f5, f7, f12, f13, f16]
  clear f2 f3 f4 f5 f7 f12 f13 f16 hFr hJ h1 h2 hk hQ hmi
  conv => arg 2; whnf
  by_cases hi : i < 64
  · have HBIT := Lib.hid (hbit i hi)
    obtain ⟨x, hx⟩ : ∃ x, x = x0 * 2 ^ i % 2 ^ 64 := ⟨_, rfl⟩
    have HX := Lib.hid hx
    have HXL := Lib.hid (show x < 2 ^ 64 by rw [hx]; exact Nat.mod_lt _ (by decide))
    have HX2 := Lib.hid (show x * 2 % 2 ^ 64 = x0 * 2 ^ (i + 1) % 2 ^ 64 by
      have hp : x0 * 2 ^ (i + 1) = x0 * 2 ^ i * 2 := by rw [show 2 ^ (i + 1) = 2 ^ i * 2 from Nat.pow_succ .., Nat.mul_assoc]
      rw [hx, hp]
      generalize x0 * 2 ^ i = z
      omega)
    rw [← hx]
    rw [← hx] at HBIT
    clear hx
    have hwr : IntKind.u64.wrap ((x : Int) * 2) = ((x * 2 % 2 ^ 64 : Nat) : Int) := rfl
    have HWR := Lib.hid hwr
    clear hwr
    have HU := Lib.hid (Gcm.upi_lt f (k0 + i) hf)
    have HP := Lib.hid (Gcm.pr_lt e f (k0 + i) hf)
    go_upto_region 7 with fail
    refine OutN.use (times_reg7 (fun a' w' => Fr 30 [(2, v2), (3, .pointer (some ⟨F, 0, none⟩)), (4, v4), (5, .pointer (some ⟨G, 0, none⟩)), (7, .int .u64 (x : Nat)), (12, v12), (13, v13), (16, .int .i64 i)] a' ∧ Blk w' G 43 (ec (Gcm.pr e f (k0 + (i + 1)))) ∧ Keep [G] wr w') _ wr F G x _ _ v2 v4 v12 v13 _ HXL.out HU.out HP.out HB1 HB2
      ⟨rfl, rfl, by repeat (first | exact trivial | refine ⟨rfl, ?_⟩)⟩ (Lib.hid fun a' w' h1 h2 h3 => ⟨h1, by
        have e : Gcm.pr e f (k0 + (i + 1)) = Gcm.pr e f (k0 + i) ^^^ (if x / 2 ^ 63 % 2 = 1 then Gcm.upi f (k0 + i) else 0) := by
          rw [← Nat.add_assoc, Gcm.pr, HBIT.out]
          split
          · rfl
          · rw [Nat.xor_zero]
        rw [e]; exact h2, h3⟩)) ?_
    rintro a' w3 ⟨hF3, hb3, hk3⟩
    have HB3 := Lib.hid hb3
    have HK3 := Lib.hid (HK.out.trans' hk3 (by simp))
    have HB13 := Lib.hid (HB1.out.keep hk3 (by have := hne.out; simp; omega))
    obtain ⟨fr', ⟨f2, f3, f4, f5, f7, f12, f13, f16, -⟩, rfl⟩ := hF3.open30
    simp only [f2, f3, f4, f5, f7, f12, f13, f16]
    clear f2 f3 f4 f5 f7 f12 f13 f16 hF3 hb3 hk3 HB1 HB2 HK
    have UP := fun w => Lib.hid (el_up (Gcm.upi f (k0 + i)) HU.out w)
    unfold ev at UP
    obtain ⟨E1, hE1⟩ : ∃ E, E = ec (Gcm.upi f (k0 + i)) := ⟨_, rfl⟩
    obtain ⟨E2, hE2⟩ : ∃ E, E = ec (Gcm.up (Gcm.upi f (k0 + i))) := ⟨_, rfl⟩
    have HE2 := Lib.hid hE2
    have HES1 := Lib.hid (show (Try.prog.info? 43).map (·.size) = some E1.size by rw [hE1]; exact elSz)
    have HES2 := Lib.hid (show (Try.prog.info? 43).map (·.size) = some E2.size by rw [hE2]; exact elSz)
    have HEO := Lib.hid (show E1.size = E2.size ∧ E2.all (·.oneCell') = true by rw [hE1, hE2]; exact ⟨rfl, elOne _ _⟩)
    rw [← hE1] at HB13 UP
    rw [← hE2] at UP
    clear hE1 hE2
    go_wp2_with (first
      | (refine wl_load_rowD rfl _ _ rfl F rfl _ Try.underlying43 rfl _ E1 HB13.out HES1.out ?_)
      | (go_at_call 45; with_reducible refine (UP _).out.mono ?_; rintro e w4 ⟨rfl, hk4⟩; have HK4 := Lib.hid hk4; have HB4 := Lib.hid (HB13.out.keep hk4 (by simp)); have HG4 := Lib.hid (HB3.out.keep hk4 (by simp)); clear hk4)
      | (refine wl_store_row rfl _ _ _ rfl F rfl E2 rfl _ _ HB4.out HES2.out HEO.out.1 HEO.out.2 ?_; intro w5 hB5 hk5 hz5; have HB5 := Lib.hid hB5; have HK5 := Lib.hid hk5; clear hB5 hk5 hz5))
    refine Handed.intro (m - 1) (by have := HM.out; omega) (HJ.out _ _ _ ⟨i + 1, by have := HM.out; omega, ⟨rfl, rfl, by rw [← HX2.out]; repeat (first | exact trivial | refine ⟨rfl, ?_⟩)⟩, ?_, ?_, ?_⟩)
    · rw [← Nat.add_assoc, Gcm.upi, ← HE2.out]; exact HB5.out
    · exact HG4.out.keep HK5.out (by have := hne.out; simp; omega)
    · exact (HK3.out.trans0 HK4.out).trans' HK5.out (by simp)
  · obtain rfl : i = 64 := by have := HM.out; omega
    go_wp2_with fail
    exact ⟨rfl, HQ.out _ _ ⟨rfl, rfl, by repeat (first | exact trivial | refine ⟨rfl, ?_⟩)⟩ HB1.out HB2.out HK.out⟩

noncomputable def htimesO : Code := loopOf Try.f33 0
set_option maxRecDepth 100000 in
set_option maxHeartbeats 4000000 in
theorem times_outer (R : Act → World → Prop) (a : Act) (w2 : World) (F G e f : Nat) (v2 v4 : Value) (he : e < 2 ^ 128) (hf : f < 2 ^ 128)
    (hne : Hid (F ≠ G)) (hBF : Hid (Blk w2 F 43 (ec f))) (hBG : Hid (Blk w2 G 43 (ec 0)))
    (hF : Fr 30 [(2, v2), (3, .pointer (some ⟨F, 0, none⟩)), (4, v4), (5, .pointer (some ⟨G, 0, none⟩)), (12, ev e), (13, .int .i64 0)] a)
    (hQ : ∀ a' w', Fr 30 [(4, v4), (5, .pointer (some ⟨G, 0, none⟩))] a' → Blk w' G 43 (ec (Gcm.pr e f 128)) → Keep [F, G] w2 w' → R a' w') :
    Code.wp Try.prog (.loop htimesO) (OutX 0 R) a w2 := by
  refine wp_loop_ghost_k (fun m a wr => ∃ i : Nat, m + i = 2 ∧ Fr 30 [(2, v2), (3, .pointer (some ⟨F, 0, none⟩)), (4, v4), (5, .pointer (some ⟨G, 0, none⟩)), (12, ev e), (13, .int .i64 i)] a ∧ Blk wr F 43 (ec (Gcm.upi f (64 * i))) ∧ Blk wr G 43 (ec (Gcm.pr e f (64 * i))) ∧ Keep [F, G] w2 wr)
    2 ⟨0, rfl, hF, hBF.out, hBG.out, Keep.refl _ _⟩ ?_
  clear hF hBF hBG
  rintro m a wr ⟨i, hmi, hFr, h1, h2, hk⟩ J K hJ hK1
  have HJ := Lib.hid hJ
  have HM := Lib.hid hmi
  have HB1 := Lib.hid h1
  have HB2 := Lib.hid h2
  have HK := Lib.hid hk
  have HQ := Lib.hid hQ
  have hh : e / 2 ^ 64 < 2 ^ 64 ∧ e % 2 ^ 64 < 2 ^ 64 := ⟨by omega, by omega⟩
  have HHB := Lib.hid (hi_bit e)
  have HLB := Lib.hid (lo_bit e)
  obtain ⟨p, hp⟩ : ∃ p, p = e / 2 ^ 64 := ⟨_, rfl⟩
  obtain ⟨q, hq⟩ : ∃ q, q = e % 2 ^ 64 := ⟨_, rfl⟩
  have HEV := Lib.hid (show ev e = .agg #[.int .u64 (p : Int), .int .u64 (q : Int)] by rw [hp, hq]; rfl)
  have HHH := Lib.hid (show p < 2 ^ 64 ∧ q < 2 ^ 64 by rw [hp, hq]; exact hh)
  rw [← hp] at HHB
  rw [← hq] at HLB
  obtain ⟨fr, ⟨f2, f3, f4, f5, f12, f13, -⟩, rfl⟩ := hFr.open30
  rw [HEV.out] at f12
  simp only [f2, f3, f4, f5, f12, f13]
  clear f2 f3 f4 f5 f12 f13 hFr hJ h1 h2 hk hQ hmi hp hq hh
  conv => arg 2; whnf
  rcases (show i = 0 ∨ i = 1 ∨ i = 2 by have := HM.out; omega) with rfl | rfl | rfl
  · rw [show ((0 : Nat) : Int) = 0 from rfl]
    go_upto_block 2 with (refine wl_index_aggN rfl _ _ _ rfl 41 2 Try.underlying91 .u64 Try.underlying41 (by kernel_rfl) _ .i64 0 rfl rfl (by decide) _ rfl ?_)
    go_wp2_with fail
    refine OutX.use (times_inner (fun a' w' => Fr 30 [(2, v2), (3, .pointer (some ⟨F, 0, none⟩)), (4, v4), (5, .pointer (some ⟨G, 0, none⟩)), (12, ev e), (13, .int .i64 0)] a' ∧ Blk w' F 43 (ec (Gcm.upi f (64 * 1))) ∧ Blk w' G 43 (ec (Gcm.pr e f (64 * 1))) ∧ Keep [F, G] wr w') _ wr F G 0 e f p v2 v4 (ev e) (.int .i64 0) hf HHB.out HHH.out.1 hne HB1 HB2
      ⟨rfl, rfl, by rw [HEV.out]; repeat (first | exact trivial | refine ⟨rfl, ?_⟩)⟩ (fun a' w' h1 h2 h3 h4 => ⟨h1, h2, h3, h4⟩)) ?_
    rintro a' w3 ⟨hF3, hb1, hb2, hk3⟩
    have HB13 := Lib.hid hb1
    have HB23 := Lib.hid hb2
    have HK3 := Lib.hid (HK.out.trans hk3)
    obtain ⟨fr', ⟨f2, f3, f4, f5, f12, f13, -⟩, rfl⟩ := hF3.open30
    simp only [f2, f3, f4, f5, f12, f13]
    clear f2 f3 f4 f5 f12 f13 hF3 hb1 hb2 hk3
    go_wp2_with fail
    exact Handed.intro (m - 1) (by have := HM.out; omega) (HJ.out _ _ _ ⟨1, by have := HM.out; omega, ⟨rfl, rfl, by repeat (first | exact trivial | refine ⟨rfl, ?_⟩)⟩, HB13.out, HB23.out, HK3.out⟩)
  · rw [show ((1 : Nat) : Int) = 1 from rfl]
    go_upto_block 2 with (refine wl_index_aggN rfl _ _ _ rfl 41 2 Try.underlying91 .u64 Try.underlying41 (by kernel_rfl) _ .i64 1 rfl rfl (by decide) _ rfl ?_)
    go_wp2_with fail
    refine OutX.use (times_inner (fun a' w' => Fr 30 [(2, v2), (3, .pointer (some ⟨F, 0, none⟩)), (4, v4), (5, .pointer (some ⟨G, 0, none⟩)), (12, ev e), (13, .int .i64 1)] a' ∧ Blk w' F 43 (ec (Gcm.upi f (64 * 2))) ∧ Blk w' G 43 (ec (Gcm.pr e f (64 * 2))) ∧ Keep [F, G] wr w') _ wr F G 64 e f q v2 v4 (ev e) (.int .i64 1) hf HLB.out HHH.out.2 hne HB1 HB2
      ⟨rfl, rfl, by rw [HEV.out]; repeat (first | exact trivial | refine ⟨rfl, ?_⟩)⟩ (fun a' w' h1 h2 h3 h4 => ⟨h1, h2, h3, h4⟩)) ?_
    rintro a' w3 ⟨hF3, hb1, hb2, hk3⟩
    have HB13 := Lib.hid hb1
    have HB23 := Lib.hid hb2
    have HK3 := Lib.hid (HK.out.trans hk3)
    obtain ⟨fr', ⟨f2, f3, f4, f5, f12, f13, -⟩, rfl⟩ := hF3.open30
    simp only [f2, f3, f4, f5, f12, f13]
    clear f2 f3 f4 f5 f12 f13 hF3 hb1 hb2 hk3
    go_wp2_with fail
    exact Handed.intro (m - 1) (by have := HM.out; omega) (HJ.out _ _ _ ⟨2, by have := HM.out; omega, ⟨rfl, rfl, by repeat (first | exact trivial | refine ⟨rfl, ?_⟩)⟩, HB13.out, HB23.out, HK3.out⟩)
  · rw [show ((2 : Nat) : Int) = 2 from rfl]
    go_wp2_with fail
    exact ⟨rfl, HQ.out _ _ ⟨rfl, rfl, by repeat (first | exact trivial | refine ⟨rfl, ?_⟩)⟩ HB2.out HK.out⟩

set_option maxRecDepth 100000 in
set_option maxHeartbeats 4000000 in
theorem el_times (e f : Nat) (he : e < 2 ^ 128) (hf : f < 2 ^ 128) (w : World) :
    Calls Try.prog 33 #[ev e, ev f] w fun r w' => r = .returned (ev (Gcm.pr e f 128)) ∧ Keep [] w w' := by
  obtain ⟨p, hp⟩ : ∃ p, p = e / 2 ^ 64 := ⟨_, rfl⟩
  obtain ⟨q, hq⟩ : ∃ q, q = e % 2 ^ 64 := ⟨_, rfl⟩
  have HEV := Lib.hid (show ev e = .agg #[.int .u64 (p : Int), .int .u64 (q : Int)] by rw [hp, hq]; rfl)
  obtain ⟨D, hD⟩ : ∃ D, D = ec f := ⟨_, rfl⟩
  have HD := Lib.hid hD
  rw [HEV.out, show ev f = .agg D by rw [hD]; rfl]
  clear hp hq hD
  go_enter Try.func33, Try.ntmps33
  go_upto_region 2 with (first
    | (have _q := HB3; refine wl_alloc_rowZ rfl _ rfl #[.int .u64 0, .int .u64 0] 2 elZ ?_; intro w4 hB4 hk4 hz4; have HB4 := Lib.hid hB4; have HK4 := Lib.hid hk4; clear hB4 hk4 hz4)
    | (have _q := HB2; refine wl_alloc_rowZ rfl _ rfl #[.int .u64 0, .int .u64 0] 2 elZ ?_; intro w3 hB3 hk3 hz3; have HB3 := Lib.hid hB3; have HK3 := Lib.hid hk3; clear hB3 hk3 hz3)
    | (have _q := HB1; refine wl_box rfl _ _ rfl D rfl ?_; intro w2 hB2 hk2 hz2; have HB2 := Lib.hid hB2; have HK2 := Lib.hid hk2; clear hB2 hk2 hz2)
    | (refine wl_box rfl _ _ rfl #[.int .u64 (p : Int), .int .u64 (q : Int)] rfl ?_; intro w1 hB1 hk1 hz1; have HB1 := Lib.hid hB1; have HK1 := Lib.hid hk1; clear hB1 hk1 hz1))
  obtain ⟨B, hB⟩ : ∃ B, B = w.heap.size := ⟨_, rfl⟩
  obtain ⟨F, hF⟩ : ∃ F, F = w1.heap.size := ⟨_, rfl⟩
  obtain ⟨C, hC⟩ : ∃ C, C = w2.heap.size := ⟨_, rfl⟩
  obtain ⟨G, hG⟩ : ∃ G, G = w3.heap.size := ⟨_, rfl⟩
  have HN := Lib.hid (show F ≠ G ∧ C ≠ F ∧ C ≠ G ∧ w.heap.size ≤ F ∧ w.heap.size ≤ C ∧ w.heap.size ≤ G by
    have h1 := HB1.out.lt
    have h2 := HB2.out.lt
    have h3 := HK2.out.size
    have h4 := HK1.out.size
    have h5 := HB3.out.lt
    have h6 := HK3.out.size
    omega)
  have HBB := (show Blk w4 B 43 #[.int .u64 (p : Int), .int .u64 (q : Int)] by rw [hB]; exact ((HB1.out.keep HK2.out (by simp)).keep HK3.out (by simp)).keep HK4.out (by simp))
  have HBF := Lib.hid (show Blk w4 F 43 (ec f) by rw [hF, ← HD.out]; exact (HB2.out.keep HK3.out (by simp)).keep HK4.out (by simp))
  have HBC := Lib.hid (show Blk w4 C 43 #[.int .u64 0, .int .u64 0] by rw [hC]; exact HB3.out.keep HK4.out (by simp))
  have HBG := Lib.hid (show Blk w4 G 43 (ec 0) by rw [hG]; exact HB4.out)
  have HK := Lib.hid (((HK1.out.trans HK2.out).trans HK3.out).trans HK4.out)
  have c1 := HBB.cell 0
  have c2 := HBB.cell 1
  simp at c1 c2
  rw [← hG, ← hB, ← hC, ← hF]
  clear hG hB hC hF HB1 HB2 HB3 HB4 HK1 HK2 HK3 HK4 _q HBB
  go_upto_block 0 with fail
  go_wp2_with fail
  refine OutX.use (times_outer (fun a' w' => Fr 30 [(4, .pointer (some ⟨C, 0, none⟩)), (5, .pointer (some ⟨G, 0, none⟩))] a' ∧ Blk w' G 43 (ec (Gcm.pr e f 128)) ∧ Keep [F, G] w4 w') _ w4 F G e f _ (.pointer (some ⟨C, 0, none⟩)) he hf (Lib.hid HN.out.1) HBF HBG
    ⟨rfl, rfl, by rw [HEV.out]; repeat (first | exact trivial | refine ⟨rfl, ?_⟩)⟩ (fun a' w' h1 h2 h3 => ⟨h1, h2, h3⟩)) ?_
  rintro a' w5 ⟨hF5, hb5, hk5⟩
  have HB5 := Lib.hid hb5
  have HC5 := Lib.hid (HBC.out.keep hk5 (by have := HN.out; simp; omega))
  have HK5 := Lib.hid (HK.out.trans' hk5 (fun q hq => by right; have := HN.out; simp at hq; omega))
  obtain ⟨fr', ⟨f4, f5, -⟩, rfl⟩ := hF5.open30
  simp only [f4, f5]
  clear f4 f5 hF5 hb5 hk5 c1 c2
  obtain ⟨E, hE⟩ : ∃ E, E = ec (Gcm.pr e f 128) := ⟨_, rfl⟩
  have HES := Lib.hid (show (Try.prog.info? 43).map (·.size) = some E.size by rw [hE]; exact elSz)
  have HEO := Lib.hid (show #[Value.int .u64 0, .int .u64 0].size = E.size ∧ E.all (·.oneCell') = true by rw [hE]; exact ⟨rfl, elOne _ _⟩)
  have hR : ev (Gcm.pr e f 128) = .agg E := by rw [hE]; rfl
  have HR := Lib.hid hR
  rw [← hE] at HB5
  clear hE hR
  go_wp2_with (first
    | (refine wl_load_rowD rfl _ _ rfl G rfl _ Try.underlying43 rfl _ E HB5.out HES.out ?_)
    | (refine wl_store_row rfl _ _ _ rfl C rfl E rfl _ _ HC5.out HES.out HEO.out.1 HEO.out.2 ?_; intro w6 hB6 hk6 hz6))
  (try simp only [Exit.inBlock, Exit.then])
  refine bodyPost_ret (v := .agg E) ?_ rfl ?_
  · exact results_cell_row Try.results33 _ w6 C 43 _ (0, 0) _ rfl hB6 Try.underlying43 rfl HES.out
  · exact ⟨by rw [HR.out], HK5.out.trans' hk6 (fun q hq => by right; have := HN.out; simp at hq; omega)⟩
end Go.Proofs.Ytlkjngbelckgkaa
