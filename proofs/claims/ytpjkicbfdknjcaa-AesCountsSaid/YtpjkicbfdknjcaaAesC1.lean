/-
  AesCounts: its drawn regions.
-/
import Derived.Test.YtpjkicbfdknjcaaAesTurns
namespace Go.Proofs.Ytpjkicbfdknjcaa
open Go.RowKit

/-- Two blocks, held against each other. -/
theorem blkEq (d : Nat) (l k : List Int) (hl : B16 l) (hk : B16 k) (W : World) :
    (Op.equalIn (d + 2) 29 (.agg (l.map (Value.int .u8)).toArray) (.agg (k.map (Value.int .u8)).toArray)).run Try.prog W = .ok (decide (l = k)) W :=
  run_eq_arr 2 Try.underlying29 Try.underlying5 (by kernel_rfl) (by kernel_rfl) (by kernel_rfl) d l k hl.1 hk.1 hl.2 hk.2 W
theorem blkEqD (l k : List Int) (hl : B16 l) (hk : B16 k) (D E : Array Value) (hD : D = (l.map (Value.int .u8)).toArray) (hE : E = (k.map (Value.int .u8)).toArray) (e : Bool) (he : e = decide (l = k)) (W : World) :
    (Op.equalIn 10000 29 (.agg D) (.agg E)).run Try.prog W = .ok e W := by
  subst hD hE he
  exact blkEq 9998 l k hl hk W
theorem blkEq0 (W : World) : (Op.equalIn 10000 29 (.agg #[.int .u8 0, .int .u8 0, .int .u8 0, .int .u8 0, .int .u8 0, .int .u8 0, .int .u8 0, .int .u8 0, .int .u8 0, .int .u8 0, .int .u8 0, .int .u8 0, .int .u8 0, .int .u8 0, .int .u8 0, .int .u8 0]) (.agg #[.int .u8 0, .int .u8 0, .int .u8 0, .int .u8 0, .int .u8 0, .int .u8 0, .int .u8 0, .int .u8 0, .int .u8 0, .int .u8 0, .int .u8 0, .int .u8 0, .int .u8 0, .int .u8 0, .int .u8 0, .int .u8 0])).run Try.prog W = .ok true W := by
  have := blkEq 9998 (List.replicate 16 0) (List.replicate 16 0) ⟨by simp, by simp [Lit.wf, IntKind.min, IntKind.max, IntKind.signed, IntKind.bits]⟩ ⟨by simp, by simp [Lit.wf, IntKind.min, IntKind.max, IntKind.signed, IntKind.bits]⟩ W
  simpa using this

noncomputable def hcnt4 : Code := regionOf Try.f6 4
set_option maxRecDepth 100000 in
set_option maxHeartbeats 8000000 in
theorem cnt_reg4 (hK : AKeyC) (R : Act → World → Prop) (a : Act) (w2 : World) (g gk ga gb : Nat) (many : Int) (kl al bl : List Int) (DK DA DB : Array Value) (hkl : B16 kl) (hal : B16 al) (hbl : B16 bl) (hDK : Hid (DK = (kl.map (Value.int .u8)).toArray)) (hDA : Hid (DA = (al.map (Value.int .u8)).toArray)) (hDB : Hid (DB = (bl.map (Value.int .u8)).toArray))
    (hBK : Hid (Blk w2 gk 29 DK)) (hBA : Hid (Blk w2 ga 29 DA)) (hBB : Hid (Blk w2 gb 29 DB)) (hne : Hid (gk ≠ g ∧ ga ≠ g ∧ gb ≠ g)) (n : Nat) (hAT : Hid (AF w2 g n))
    (hF : Fr 92 [(3, .int .u8 many), (4, .pointer (some ⟨gk, 0, none⟩)), (5, .pointer (some ⟨ga, 0, none⟩)), (6, .pointer (some ⟨gb, 0, none⟩)), (9, .pointer (some ⟨g, 0, none⟩))] a)
    (hR : Hid (∀ a' w' p1 p2, Fr 92 [(3, .int .u8 many), (4, .pointer (some ⟨gk, 0, none⟩)), (5, .pointer (some ⟨ga, 0, none⟩)), (6, .pointer (some ⟨gb, 0, none⟩)), (9, .pointer (some ⟨g, 0, none⟩)), (10, .pointer (some ⟨p1, 0, none⟩)), (11, .pointer (some ⟨p2, 0, none⟩))] a' → AK w' p1 g kl → AK w' p2 g al → AT w' g n → Keep [g] w2 w' → R a' w')) :
    Code.wp Try.prog hcnt4 (OutN R) a w2 := by
  have HDK := Lib.hid (show DK.size = 16 by rw [hDK.out]; simp [hkl.1])
  have HDA := Lib.hid (show DA.size = 16 by rw [hDA.out]; simp [hal.1])
  have HDB := Lib.hid (show DB.size = 16 by rw [hDB.out]; simp [hbl.1])
  have LK : ∀ W, Keep [g] w2 W → Blk W gk 29 DK := fun W h => hBK.out.keep h (by simpa using hne.out.1)
  have LA : ∀ W, Keep [g] w2 W → Blk W ga 29 DA := fun W h => hBA.out.keep h (by simpa using hne.out.2.1)
  have LB : ∀ W, Keep [g] w2 W → Blk W gb 29 DB := fun W h => hBB.out.keep h (by simpa using hne.out.2.2)
  have KK : ∀ W n, AF W g n → Calls Try.prog 14 #[.pointer (some ⟨g, 0, none⟩), .agg DK] W fun e w' => ∃ p, e = .returned (.pointer (some ⟨p, 0, none⟩)) ∧ AK w' p g kl ∧ AT w' g n ∧ Keep [g] W w' := by
    intro W n h
    have := hK W g n kl h hkl
    rw [arr_agg, ← hDK.out] at this
    refine this.mono ?_
    rintro e w' ⟨p, rfl, _, h1, h2, h3⟩
    exact ⟨p, rfl, h1, h2, h3⟩
  have KA : ∀ W n, AF W g n → Calls Try.prog 14 #[.pointer (some ⟨g, 0, none⟩), .agg DA] W fun e w' => ∃ p, e = .returned (.pointer (some ⟨p, 0, none⟩)) ∧ AK w' p g al ∧ AT w' g n ∧ Keep [g] W w' := by
    intro W n h
    have := hK W g n al h hal
    rw [arr_agg, ← hDA.out] at this
    refine this.mono ?_
    rintro e w' ⟨p, rfl, _, h1, h2, h3⟩
    exact ⟨p, rfl, h1, h2, h3⟩
  obtain ⟨f, ⟨f3, f4, f5, f6, f9, -⟩, rfl⟩ := hF.open92
  simp only [f3, f4, f5, f6, f9]
  clear f3 f4 f5 f6 f9 hF
  conv => arg 2; whnf
  refine wp_region_any (by kernel_rfl) ?_
  change wpAny _ _ _ _ _ _ _ (World.drew _)
  obtain ⟨W0, hW0⟩ : ∃ W0, W0 = w2.drew := ⟨_, rfl⟩
  rw [← hW0]
  have hk0 : Keep [g] w2 W0 := by rw [hW0]; exact (Keep.refl [g] w2).drew
  have hAT0 : AF W0 g n := by rw [hW0]; exact hAT.out.keep (Keep.refl [] w2).drew (by simp)
  clear hW0
  go_simp
  refine wpAny_take (i := 0) (v := ?_) rfl (by kernel_rfl) (by kernel_rfl) (by kernel_rfl) (fun _ _ _ h => h) (Or.inl ⟨by rfl, ?_⟩) ?_
  rotate_left
  · intro y; go_simp; try (with_reducible rfl)
  rotate_left
  go_simp
  refine wpAny_take (i := 3) (v := ?_) rfl (by kernel_rfl) (by kernel_rfl) (by kernel_rfl) (fun _ _ _ h => h) (Or.inl ⟨by rfl, ?_⟩) ?_
  rotate_left
  · intro y; go_simp; try (with_reducible rfl)
  rotate_left
  go_simp
  refine wpAny_ready (rs := [1, 4]) (by kernel_rfl) (by simp) ?_
  refine AllReady.cons rfl (fun K hK => ?_) ?_
  ·
    apply step_wp
    · rfl
    refine ow_load _ _ rfl _ rfl 16 5 Try.underlying29 _ DK (LK _ hk0) (by rw [HDK.out]; exact blkCells) ?_
    apply hK
    clear hK K
    go_simp
    refine wpAny_ready (rs := [2, 4]) (by kernel_rfl) (by simp) ?_
    refine AllReady.cons rfl (fun K hK => ?_) ?_
    ·
      apply step_wp
      · rfl
      refine ow_call _ _ _ (by kernel_rfl) (KK _ _ hAT0) ?_
      rintro e W2 ⟨p1, rfl, hp1, hAT2, hs2⟩
      refine ⟨_, rfl, ?_⟩
      have hk2 : Keep [g] w2 W2 := hk0.trans hs2
      clear hs2
      apply hK
      clear hK K
      go_simp
      refine wpAny_ready (rs := [4]) (by kernel_rfl) (by simp) ?_
      refine AllReady.cons rfl (fun K hK => ?_) ?_
      ·
        apply step_wp
        · rfl
        refine ow_load _ _ rfl _ rfl 16 5 Try.underlying29 _ DA (LA _ hk2) (by rw [HDA.out]; exact blkCells) ?_
        apply hK
        clear hK K
        go_simp
        refine wpAny_ready (rs := [5]) (by kernel_rfl) (by simp) ?_
        refine AllReady.cons rfl (fun K hK => ?_) ?_
        ·
          apply step_wp
          · rfl
          refine ow_call _ _ _ (by kernel_rfl) (KA _ _ hAT2.af) ?_
          rintro e W5 ⟨p2, rfl, hp2, hAT5, hs5⟩
          refine ⟨_, rfl, ?_⟩
          replace hp1 := hp1.keep hs5 (by simpa using hp1.ne)
          have hk5 : Keep [g] w2 W5 := hk2.trans hs5
          clear hs5
          apply hK
          clear hK K
          go_simp
          refine wpAny_take (i := 6) (v := ?_) rfl (by kernel_rfl) (by kernel_rfl) (by kernel_rfl) (fun _ _ _ h => h) (Or.inl ⟨by rfl, ?_⟩) ?_
          rotate_left
          · intro y; go_simp; try (with_reducible rfl)
          rotate_left
          go_simp
          refine wpAny_take (i := 7) (v := ?_) rfl (by kernel_rfl) (by kernel_rfl) (by kernel_rfl) (fun _ _ _ h => h) (Or.inl ⟨by rfl, ?_⟩) ?_
          rotate_left
          · intro y; go_simp; try (with_reducible rfl)
          rotate_left
          go_simp
          refine wpAny_done (by kernel_rfl) ?_ _
          exact hR.out _ _ _ _ ⟨rfl, rfl, by repeat (first | exact trivial | refine ⟨rfl, ?_⟩)⟩ hp1 hp2 hAT5 hk5
        exact AllReady.nil
      exact AllReady.nil
    refine AllReady.cons rfl (fun K hK => ?_) ?_
    ·
      apply step_wp
      · rfl
      refine ow_load _ _ rfl _ rfl 16 5 Try.underlying29 _ DA (LA _ hk0) (by rw [HDA.out]; exact blkCells) ?_
      apply hK
      clear hK K
      go_simp
      refine wpAny_ready (rs := [2]) (by kernel_rfl) (by simp) ?_
      refine AllReady.cons rfl (fun K hK => ?_) ?_
      ·
        apply step_wp
        · rfl
        refine ow_call _ _ _ (by kernel_rfl) (KK _ _ hAT0) ?_
        rintro e W2 ⟨p1, rfl, hp1, hAT2, hs2⟩
        refine ⟨_, rfl, ?_⟩
        have hk2 : Keep [g] w2 W2 := hk0.trans hs2
        clear hs2
        apply hK
        clear hK K
        go_simp
        refine wpAny_ready (rs := [5]) (by kernel_rfl) (by simp) ?_
        refine AllReady.cons rfl (fun K hK => ?_) ?_
        ·
          apply step_wp
          · rfl
          refine ow_call _ _ _ (by kernel_rfl) (KA _ _ hAT2.af) ?_
          rintro e W5 ⟨p2, rfl, hp2, hAT5, hs5⟩
          refine ⟨_, rfl, ?_⟩
          replace hp1 := hp1.keep hs5 (by simpa using hp1.ne)
          have hk5 : Keep [g] w2 W5 := hk2.trans hs5
          clear hs5
          apply hK
          clear hK K
          go_simp
          refine wpAny_take (i := 6) (v := ?_) rfl (by kernel_rfl) (by kernel_rfl) (by kernel_rfl) (fun _ _ _ h => h) (Or.inl ⟨by rfl, ?_⟩) ?_
          rotate_left
          · intro y; go_simp; try (with_reducible rfl)
          rotate_left
          go_simp
          refine wpAny_take (i := 7) (v := ?_) rfl (by kernel_rfl) (by kernel_rfl) (by kernel_rfl) (fun _ _ _ h => h) (Or.inl ⟨by rfl, ?_⟩) ?_
          rotate_left
          · intro y; go_simp; try (with_reducible rfl)
          rotate_left
          go_simp
          refine wpAny_done (by kernel_rfl) ?_ _
          exact hR.out _ _ _ _ ⟨rfl, rfl, by repeat (first | exact trivial | refine ⟨rfl, ?_⟩)⟩ hp1 hp2 hAT5 hk5
        exact AllReady.nil
      exact AllReady.nil
    exact AllReady.nil
  refine AllReady.cons rfl (fun K hK => ?_) ?_
  ·
    apply step_wp
    · rfl
    refine ow_load _ _ rfl _ rfl 16 5 Try.underlying29 _ DA (LA _ hk0) (by rw [HDA.out]; exact blkCells) ?_
    apply hK
    clear hK K
    go_simp
    refine wpAny_ready (rs := [1]) (by kernel_rfl) (by simp) ?_
    refine AllReady.cons rfl (fun K hK => ?_) ?_
    ·
      apply step_wp
      · rfl
      refine ow_load _ _ rfl _ rfl 16 5 Try.underlying29 _ DK (LK _ hk0) (by rw [HDK.out]; exact blkCells) ?_
      apply hK
      clear hK K
      go_simp
      refine wpAny_ready (rs := [2]) (by kernel_rfl) (by simp) ?_
      refine AllReady.cons rfl (fun K hK => ?_) ?_
      ·
        apply step_wp
        · rfl
        refine ow_call _ _ _ (by kernel_rfl) (KK _ _ hAT0) ?_
        rintro e W2 ⟨p1, rfl, hp1, hAT2, hs2⟩
        refine ⟨_, rfl, ?_⟩
        have hk2 : Keep [g] w2 W2 := hk0.trans hs2
        clear hs2
        apply hK
        clear hK K
        go_simp
        refine wpAny_ready (rs := [5]) (by kernel_rfl) (by simp) ?_
        refine AllReady.cons rfl (fun K hK => ?_) ?_
        ·
          apply step_wp
          · rfl
          refine ow_call _ _ _ (by kernel_rfl) (KA _ _ hAT2.af) ?_
          rintro e W5 ⟨p2, rfl, hp2, hAT5, hs5⟩
          refine ⟨_, rfl, ?_⟩
          replace hp1 := hp1.keep hs5 (by simpa using hp1.ne)
          have hk5 : Keep [g] w2 W5 := hk2.trans hs5
          clear hs5
          apply hK
          clear hK K
          go_simp
          refine wpAny_take (i := 6) (v := ?_) rfl (by kernel_rfl) (by kernel_rfl) (by kernel_rfl) (fun _ _ _ h => h) (Or.inl ⟨by rfl, ?_⟩) ?_
          rotate_left
          · intro y; go_simp; try (with_reducible rfl)
          rotate_left
          go_simp
          refine wpAny_take (i := 7) (v := ?_) rfl (by kernel_rfl) (by kernel_rfl) (by kernel_rfl) (fun _ _ _ h => h) (Or.inl ⟨by rfl, ?_⟩) ?_
          rotate_left
          · intro y; go_simp; try (with_reducible rfl)
          rotate_left
          go_simp
          refine wpAny_done (by kernel_rfl) ?_ _
          exact hR.out _ _ _ _ ⟨rfl, rfl, by repeat (first | exact trivial | refine ⟨rfl, ?_⟩)⟩ hp1 hp2 hAT5 hk5
        exact AllReady.nil
      exact AllReady.nil
    exact AllReady.nil
  exact AllReady.nil

noncomputable def hcnt7 : Code := regionOf Try.f6 7
set_option maxRecDepth 100000 in
set_option maxHeartbeats 8000000 in
theorem cnt_reg7 (hK : AKeyC) (hT : ATurnC) (R : Act → World → Prop) (a : Act) (w2 : World) (g gk ga gb : Nat) (many : Int) (kl al bl : List Int) (DK DA DB : Array Value) (hkl : B16 kl) (hal : B16 al) (hbl : B16 bl) (hDK : Hid (DK = (kl.map (Value.int .u8)).toArray)) (hDA : Hid (DA = (al.map (Value.int .u8)).toArray)) (hDB : Hid (DB = (bl.map (Value.int .u8)).toArray))
    (hBK : Hid (Blk w2 gk 29 DK)) (hBA : Hid (Blk w2 ga 29 DA)) (hBB : Hid (Blk w2 gb 29 DB)) (hne : Hid (gk ≠ g ∧ ga ≠ g ∧ gb ≠ g)) (n p1 p2 : Nat) (c i : Int) (hn : n ≤ 1000) (hAT : Hid (AT w2 g n)) (hA1 : Hid (AK w2 p1 g kl)) (hA2 : Hid (AK w2 p2 g al))
    (hF : Fr 92 [(3, .int .u8 many), (4, .pointer (some ⟨gk, 0, none⟩)), (5, .pointer (some ⟨ga, 0, none⟩)), (6, .pointer (some ⟨gb, 0, none⟩)), (9, .pointer (some ⟨g, 0, none⟩)), (10, .pointer (some ⟨p1, 0, none⟩)), (11, .pointer (some ⟨p2, 0, none⟩)), (25, .int .i64 c), (26, .int .i64 i)] a)
    (hR : Hid (∀ a' w', Fr 92 [(3, .int .u8 many), (4, .pointer (some ⟨gk, 0, none⟩)), (5, .pointer (some ⟨ga, 0, none⟩)), (6, .pointer (some ⟨gb, 0, none⟩)), (9, .pointer (some ⟨g, 0, none⟩)), (10, .pointer (some ⟨p1, 0, none⟩)), (11, .pointer (some ⟨p2, 0, none⟩)), (25, .int .i64 c), (26, .int .i64 i), (36, .bool false)] a' → AK w' p1 g kl → AK w' p2 g al → AT w' g (n + 2) → Keep [g] w2 w' → R a' w')) :
    Code.wp Try.prog hcnt7 (OutN R) a w2 := by
  obtain ⟨TB, hTB'⟩ : ∃ TB, TB = ((Aes.turn kl bl).map (Value.int .u8)).toArray := ⟨_, rfl⟩
  have hTB := Lib.hid hTB'
  have eq1 := fun W => blkEqD _ _ (turn_b16 hkl hbl) (turn_b16 hkl hbl) TB TB hTB' hTB' true (by simp) W
  clear hTB'
  have HDK := Lib.hid (show DK.size = 16 by rw [hDK.out]; simp [hkl.1])
  have HDA := Lib.hid (show DA.size = 16 by rw [hDA.out]; simp [hal.1])
  have HDB := Lib.hid (show DB.size = 16 by rw [hDB.out]; simp [hbl.1])
  have LK : ∀ W, Keep [g] w2 W → Blk W gk 29 DK := fun W h => hBK.out.keep h (by simpa using hne.out.1)
  have LA : ∀ W, Keep [g] w2 W → Blk W ga 29 DA := fun W h => hBA.out.keep h (by simpa using hne.out.2.1)
  have LB : ∀ W, Keep [g] w2 W → Blk W gb 29 DB := fun W h => hBB.out.keep h (by simpa using hne.out.2.2)
  have KK : ∀ W n, AT W g n → Calls Try.prog 14 #[.pointer (some ⟨g, 0, none⟩), .agg DK] W fun e w' => ∃ p, e = .returned (.pointer (some ⟨p, 0, none⟩)) ∧ AK w' p g kl ∧ AT w' g n ∧ Keep [g] W w' := by
    intro W n h
    have := hK W g n kl h.af hkl
    rw [arr_agg, ← hDK.out] at this
    refine this.mono ?_
    rintro e w' ⟨p, rfl, _, h1, h2, h3⟩
    exact ⟨p, rfl, h1, h2, h3⟩
  have TT : ∀ W p n, AK W p g kl → AT W g n → n ≤ 1000000 → Calls Try.prog 15 #[.pointer (some ⟨p, 0, none⟩), .agg DB] W fun e w' => e = .returned (.agg TB) ∧ AT w' g (n + 1) ∧ Keep [g] W w' := by
    intro W p n h1 h2 h3
    have := hT W p g n kl bl h1 h2 h3 hkl hbl
    rw [arr_agg, arr_agg, ← hDB.out, ← hTB.out] at this
    exact this
  obtain ⟨f, ⟨f3, f4, f5, f6, f9, f10, f11, f25, f26, -⟩, rfl⟩ := hF.open92
  simp only [f3, f4, f5, f6, f9, f10, f11, f25, f26]
  clear f3 f4 f5 f6 f9 f10 f11 f25 f26 hF
  conv => arg 2; whnf
  refine wp_region_any (by kernel_rfl) ?_
  change wpAny _ _ _ _ _ _ _ (World.drew _)
  obtain ⟨W0, hW0⟩ : ∃ W0, W0 = w2.drew := ⟨_, rfl⟩
  rw [← hW0]
  have hk0 : Keep [g] w2 W0 := by rw [hW0]; exact (Keep.refl [g] w2).drew
  have hAT0 : AT W0 g n := by rw [hW0]; exact hAT.out.keep (Keep.refl [] w2).drew (by simp)
  clear hW0
  have hp1 : AK W0 p1 g kl := hA1.out.keep hk0 (by simpa using hA1.out.ne)
  have hp2 : AK W0 p2 g al := hA2.out.keep hk0 (by simpa using hA2.out.ne)
  go_simp
  refine wpAny_take (i := 0) (v := ?_) rfl (by kernel_rfl) (by kernel_rfl) (by kernel_rfl) (fun _ _ _ h => h) (Or.inl ⟨by rfl, ?_⟩) ?_
  rotate_left
  · intro y; go_simp; try (with_reducible rfl)
  rotate_left
  go_simp
  refine wpAny_take (i := 3) (v := ?_) rfl (by kernel_rfl) (by kernel_rfl) (by kernel_rfl) (fun _ _ _ h => h) (Or.inl ⟨by rfl, ?_⟩) ?_
  rotate_left
  · intro y; go_simp; try (with_reducible rfl)
  rotate_left
  go_simp
  refine wpAny_ready (rs := [1, 4, 6]) (by kernel_rfl) (by simp) ?_
  refine AllReady.cons rfl (fun K hK => ?_) ?_
  ·
    apply step_wp
    · rfl
    refine ow_load _ _ rfl _ rfl 16 5 Try.underlying29 _ DB (LB _ hk0) (by rw [HDB.out]; exact blkCells) ?_
    apply hK
    clear hK K
    go_simp
    refine wpAny_ready (rs := [2, 4, 6]) (by kernel_rfl) (by simp) ?_
    refine AllReady.cons rfl (fun K hK => ?_) ?_
    ·
      apply step_wp
      · rfl
      refine ow_call _ _ _ (by kernel_rfl) (TT _ _ _ hp1 hAT0 (by omega)) ?_
      rintro e W2 ⟨rfl, hAT2, hs2⟩
      refine ⟨_, rfl, ?_⟩
      replace hp1 := hp1.keep hs2 (by simpa using hp1.ne)
      replace hp2 := hp2.keep hs2 (by simpa using hp2.ne)
      have hk2 : Keep [g] w2 W2 := hk0.trans hs2
      clear hs2
      apply hK
      clear hK K
      go_simp
      refine wpAny_ready (rs := [4, 6]) (by kernel_rfl) (by simp) ?_
      refine AllReady.cons rfl (fun K hK => ?_) ?_
      ·
        apply step_wp
        · rfl
        refine ow_load _ _ rfl _ rfl 16 5 Try.underlying29 _ DK (LK _ hk2) (by rw [HDK.out]; exact blkCells) ?_
        apply hK
        clear hK K
        go_simp
        refine wpAny_ready (rs := [5, 6]) (by kernel_rfl) (by simp) ?_
        refine AllReady.cons rfl (fun K hK => ?_) ?_
        ·
          apply step_wp
          · rfl
          refine ow_call _ _ _ (by kernel_rfl) (KK _ _ hAT2) ?_
          rintro e W5 ⟨p3, rfl, hp3, hAT5, hs5⟩
          refine ⟨_, rfl, ?_⟩
          replace hp1 := hp1.keep hs5 (by simpa using hp1.ne)
          replace hp2 := hp2.keep hs5 (by simpa using hp2.ne)
          have hk5 : Keep [g] w2 W5 := hk2.trans hs5
          clear hs5
          apply hK
          clear hK K
          go_simp
          refine wpAny_ready (rs := [6]) (by kernel_rfl) (by simp) ?_
          refine AllReady.cons rfl (fun K hK => ?_) ?_
          ·
            apply step_wp
            · rfl
            refine ow_load _ _ rfl _ rfl 16 5 Try.underlying29 _ DB (LB _ hk5) (by rw [HDB.out]; exact blkCells) ?_
            apply hK
            clear hK K
            go_simp
            refine wpAny_ready (rs := [7]) (by kernel_rfl) (by simp) ?_
            refine AllReady.cons rfl (fun K hK => ?_) ?_
            ·
              apply step_wp
              · rfl
              refine ow_call _ _ _ (by kernel_rfl) (TT _ _ _ hp3 hAT5 (by omega)) ?_
              rintro e W7 ⟨rfl, hAT7, hs7⟩
              refine ⟨_, rfl, ?_⟩
              replace hp1 := hp1.keep hs7 (by simpa using hp1.ne)
              replace hp2 := hp2.keep hs7 (by simpa using hp2.ne)
              replace hp3 := hp3.keep hs7 (by simpa using hp3.ne)
              have hk7 : Keep [g] w2 W7 := hk5.trans hs7
              clear hs7
              apply hK
              clear hK K
              go_simp
              refine wpAny_take (i := 8) (v := ?_) rfl (by kernel_rfl) (by kernel_rfl) (by kernel_rfl) (fun _ _ _ h => h) (Or.inl ⟨by rfl, ?_⟩) ?_
              rotate_left
              · intro y; go_simp; try (with_reducible rfl)
              rotate_left
              go_simp
              refine wpAny_done (by kernel_rfl) ?_ _
              exact hR.out _ _ ⟨rfl, rfl, by repeat (first | exact trivial | refine ⟨rfl, ?_⟩)⟩ hp1 hp2 hAT7 hk7
            exact AllReady.nil
          exact AllReady.nil
        refine AllReady.cons rfl (fun K hK => ?_) ?_
        ·
          apply step_wp
          · rfl
          refine ow_load _ _ rfl _ rfl 16 5 Try.underlying29 _ DB (LB _ hk2) (by rw [HDB.out]; exact blkCells) ?_
          apply hK
          clear hK K
          go_simp
          refine wpAny_ready (rs := [5]) (by kernel_rfl) (by simp) ?_
          refine AllReady.cons rfl (fun K hK => ?_) ?_
          ·
            apply step_wp
            · rfl
            refine ow_call _ _ _ (by kernel_rfl) (KK _ _ hAT2) ?_
            rintro e W5 ⟨p3, rfl, hp3, hAT5, hs5⟩
            refine ⟨_, rfl, ?_⟩
            replace hp1 := hp1.keep hs5 (by simpa using hp1.ne)
            replace hp2 := hp2.keep hs5 (by simpa using hp2.ne)
            have hk5 : Keep [g] w2 W5 := hk2.trans hs5
            clear hs5
            apply hK
            clear hK K
            go_simp
            refine wpAny_ready (rs := [7]) (by kernel_rfl) (by simp) ?_
            refine AllReady.cons rfl (fun K hK => ?_) ?_
            ·
              apply step_wp
              · rfl
              refine ow_call _ _ _ (by kernel_rfl) (TT _ _ _ hp3 hAT5 (by omega)) ?_
              rintro e W7 ⟨rfl, hAT7, hs7⟩
              refine ⟨_, rfl, ?_⟩
              replace hp1 := hp1.keep hs7 (by simpa using hp1.ne)
              replace hp2 := hp2.keep hs7 (by simpa using hp2.ne)
              replace hp3 := hp3.keep hs7 (by simpa using hp3.ne)
              have hk7 : Keep [g] w2 W7 := hk5.trans hs7
              clear hs7
              apply hK
              clear hK K
              go_simp
              refine wpAny_take (i := 8) (v := ?_) rfl (by kernel_rfl) (by kernel_rfl) (by kernel_rfl) (fun _ _ _ h => h) (Or.inl ⟨by rfl, ?_⟩) ?_
              rotate_left
              · intro y; go_simp; try (with_reducible rfl)
              rotate_left
              go_simp
              refine wpAny_done (by kernel_rfl) ?_ _
              exact hR.out _ _ ⟨rfl, rfl, by repeat (first | exact trivial | refine ⟨rfl, ?_⟩)⟩ hp1 hp2 hAT7 hk7
            exact AllReady.nil
          exact AllReady.nil
        exact AllReady.nil
      refine AllReady.cons rfl (fun K hK => ?_) ?_
      ·
        apply step_wp
        · rfl
        refine ow_load _ _ rfl _ rfl 16 5 Try.underlying29 _ DB (LB _ hk2) (by rw [HDB.out]; exact blkCells) ?_
        apply hK
        clear hK K
        go_simp
        refine wpAny_ready (rs := [4]) (by kernel_rfl) (by simp) ?_
        refine AllReady.cons rfl (fun K hK => ?_) ?_
        ·
          apply step_wp
          · rfl
          refine ow_load _ _ rfl _ rfl 16 5 Try.underlying29 _ DK (LK _ hk2) (by rw [HDK.out]; exact blkCells) ?_
          apply hK
          clear hK K
          go_simp
          refine wpAny_ready (rs := [5]) (by kernel_rfl) (by simp) ?_
          refine AllReady.cons rfl (fun K hK => ?_) ?_
          ·
            apply step_wp
            · rfl
            refine ow_call _ _ _ (by kernel_rfl) (KK _ _ hAT2) ?_
            rintro e W5 ⟨p3, rfl, hp3, hAT5, hs5⟩
            refine ⟨_, rfl, ?_⟩
            replace hp1 := hp1.keep hs5 (by simpa using hp1.ne)
            replace hp2 := hp2.keep hs5 (by simpa using hp2.ne)
            have hk5 : Keep [g] w2 W5 := hk2.trans hs5
            clear hs5
            apply hK
            clear hK K
            go_simp
            refine wpAny_ready (rs := [7]) (by kernel_rfl) (by simp) ?_
            refine AllReady.cons rfl (fun K hK => ?_) ?_
            ·
              apply step_wp
              · rfl
              refine ow_call _ _ _ (by kernel_rfl) (TT _ _ _ hp3 hAT5 (by omega)) ?_
              rintro e W7 ⟨rfl, hAT7, hs7⟩
              refine ⟨_, rfl, ?_⟩
              replace hp1 := hp1.keep hs7 (by simpa using hp1.ne)
              replace hp2 := hp2.keep hs7 (by simpa using hp2.ne)
              replace hp3 := hp3.keep hs7 (by simpa using hp3.ne)
              have hk7 : Keep [g] w2 W7 := hk5.trans hs7
              clear hs7
              apply hK
              clear hK K
              go_simp
              refine wpAny_take (i := 8) (v := ?_) rfl (by kernel_rfl) (by kernel_rfl) (by kernel_rfl) (fun _ _ _ h => h) (Or.inl ⟨by rfl, ?_⟩) ?_
              rotate_left
              · intro y; go_simp; try (with_reducible rfl)
              rotate_left
              go_simp
              refine wpAny_done (by kernel_rfl) ?_ _
              exact hR.out _ _ ⟨rfl, rfl, by repeat (first | exact trivial | refine ⟨rfl, ?_⟩)⟩ hp1 hp2 hAT7 hk7
            exact AllReady.nil
          exact AllReady.nil
        exact AllReady.nil
      exact AllReady.nil
    refine AllReady.cons rfl (fun K hK => ?_) ?_
    ·
      apply step_wp
      · rfl
      refine ow_load _ _ rfl _ rfl 16 5 Try.underlying29 _ DK (LK _ hk0) (by rw [HDK.out]; exact blkCells) ?_
      apply hK
      clear hK K
      go_simp
      refine wpAny_ready (rs := [2, 6]) (by kernel_rfl) (by simp) ?_
      refine AllReady.cons rfl (fun K hK => ?_) ?_
      ·
        apply step_wp
        · rfl
        refine ow_call _ _ _ (by kernel_rfl) (TT _ _ _ hp1 hAT0 (by omega)) ?_
        rintro e W2 ⟨rfl, hAT2, hs2⟩
        refine ⟨_, rfl, ?_⟩
        replace hp1 := hp1.keep hs2 (by simpa using hp1.ne)
        replace hp2 := hp2.keep hs2 (by simpa using hp2.ne)
        have hk2 : Keep [g] w2 W2 := hk0.trans hs2
        clear hs2
        apply hK
        clear hK K
        go_simp
        refine wpAny_ready (rs := [5, 6]) (by kernel_rfl) (by simp) ?_
        refine AllReady.cons rfl (fun K hK => ?_) ?_
        ·
          apply step_wp
          · rfl
          refine ow_call _ _ _ (by kernel_rfl) (KK _ _ hAT2) ?_
          rintro e W5 ⟨p3, rfl, hp3, hAT5, hs5⟩
          refine ⟨_, rfl, ?_⟩
          replace hp1 := hp1.keep hs5 (by simpa using hp1.ne)
          replace hp2 := hp2.keep hs5 (by simpa using hp2.ne)
          have hk5 : Keep [g] w2 W5 := hk2.trans hs5
          clear hs5
          apply hK
          clear hK K
          go_simp
          refine wpAny_ready (rs := [6]) (by kernel_rfl) (by simp) ?_
          refine AllReady.cons rfl (fun K hK => ?_) ?_
          ·
            apply step_wp
            · rfl
            refine ow_load _ _ rfl _ rfl 16 5 Try.underlying29 _ DB (LB _ hk5) (by rw [HDB.out]; exact blkCells) ?_
            apply hK
            clear hK K
            go_simp
            refine wpAny_ready (rs := [7]) (by kernel_rfl) (by simp) ?_
            refine AllReady.cons rfl (fun K hK => ?_) ?_
            ·
              apply step_wp
              · rfl
              refine ow_call _ _ _ (by kernel_rfl) (TT _ _ _ hp3 hAT5 (by omega)) ?_
              rintro e W7 ⟨rfl, hAT7, hs7⟩
              refine ⟨_, rfl, ?_⟩
              replace hp1 := hp1.keep hs7 (by simpa using hp1.ne)
              replace hp2 := hp2.keep hs7 (by simpa using hp2.ne)
              replace hp3 := hp3.keep hs7 (by simpa using hp3.ne)
              have hk7 : Keep [g] w2 W7 := hk5.trans hs7
              clear hs7
              apply hK
              clear hK K
              go_simp
              refine wpAny_take (i := 8) (v := ?_) rfl (by kernel_rfl) (by kernel_rfl) (by kernel_rfl) (fun _ _ _ h => h) (Or.inl ⟨by rfl, ?_⟩) ?_
              rotate_left
              · intro y; go_simp; try (with_reducible rfl)
              rotate_left
              go_simp
              refine wpAny_done (by kernel_rfl) ?_ _
              exact hR.out _ _ ⟨rfl, rfl, by repeat (first | exact trivial | refine ⟨rfl, ?_⟩)⟩ hp1 hp2 hAT7 hk7
            exact AllReady.nil
          exact AllReady.nil
        refine AllReady.cons rfl (fun K hK => ?_) ?_
        ·
          apply step_wp
          · rfl
          refine ow_load _ _ rfl _ rfl 16 5 Try.underlying29 _ DB (LB _ hk2) (by rw [HDB.out]; exact blkCells) ?_
          apply hK
          clear hK K
          go_simp
          refine wpAny_ready (rs := [5]) (by kernel_rfl) (by simp) ?_
          refine AllReady.cons rfl (fun K hK => ?_) ?_
          ·
            apply step_wp
            · rfl
            refine ow_call _ _ _ (by kernel_rfl) (KK _ _ hAT2) ?_
            rintro e W5 ⟨p3, rfl, hp3, hAT5, hs5⟩
            refine ⟨_, rfl, ?_⟩
            replace hp1 := hp1.keep hs5 (by simpa using hp1.ne)
            replace hp2 := hp2.keep hs5 (by simpa using hp2.ne)
            have hk5 : Keep [g] w2 W5 := hk2.trans hs5
            clear hs5
            apply hK
            clear hK K
            go_simp
            refine wpAny_ready (rs := [7]) (by kernel_rfl) (by simp) ?_
            refine AllReady.cons rfl (fun K hK => ?_) ?_
            ·
              apply step_wp
              · rfl
              refine ow_call _ _ _ (by kernel_rfl) (TT _ _ _ hp3 hAT5 (by omega)) ?_
              rintro e W7 ⟨rfl, hAT7, hs7⟩
              refine ⟨_, rfl, ?_⟩
              replace hp1 := hp1.keep hs7 (by simpa using hp1.ne)
              replace hp2 := hp2.keep hs7 (by simpa using hp2.ne)
              replace hp3 := hp3.keep hs7 (by simpa using hp3.ne)
              have hk7 : Keep [g] w2 W7 := hk5.trans hs7
              clear hs7
              apply hK
              clear hK K
              go_simp
              refine wpAny_take (i := 8) (v := ?_) rfl (by kernel_rfl) (by kernel_rfl) (by kernel_rfl) (fun _ _ _ h => h) (Or.inl ⟨by rfl, ?_⟩) ?_
              rotate_left
              · intro y; go_simp; try (with_reducible rfl)
              rotate_left
              go_simp
              refine wpAny_done (by kernel_rfl) ?_ _
              exact hR.out _ _ ⟨rfl, rfl, by repeat (first | exact trivial | refine ⟨rfl, ?_⟩)⟩ hp1 hp2 hAT7 hk7
            exact AllReady.nil
          exact AllReady.nil
        exact AllReady.nil
      refine AllReady.cons rfl (fun K hK => ?_) ?_
      ·
        apply step_wp
        · rfl
        refine ow_load _ _ rfl _ rfl 16 5 Try.underlying29 _ DB (LB _ hk0) (by rw [HDB.out]; exact blkCells) ?_
        apply hK
        clear hK K
        go_simp
        refine wpAny_ready (rs := [2]) (by kernel_rfl) (by simp) ?_
        refine AllReady.cons rfl (fun K hK => ?_) ?_
        ·
          apply step_wp
          · rfl
          refine ow_call _ _ _ (by kernel_rfl) (TT _ _ _ hp1 hAT0 (by omega)) ?_
          rintro e W2 ⟨rfl, hAT2, hs2⟩
          refine ⟨_, rfl, ?_⟩
          replace hp1 := hp1.keep hs2 (by simpa using hp1.ne)
          replace hp2 := hp2.keep hs2 (by simpa using hp2.ne)
          have hk2 : Keep [g] w2 W2 := hk0.trans hs2
          clear hs2
          apply hK
          clear hK K
          go_simp
          refine wpAny_ready (rs := [5]) (by kernel_rfl) (by simp) ?_
          refine AllReady.cons rfl (fun K hK => ?_) ?_
          ·
            apply step_wp
            · rfl
            refine ow_call _ _ _ (by kernel_rfl) (KK _ _ hAT2) ?_
            rintro e W5 ⟨p3, rfl, hp3, hAT5, hs5⟩
            refine ⟨_, rfl, ?_⟩
            replace hp1 := hp1.keep hs5 (by simpa using hp1.ne)
            replace hp2 := hp2.keep hs5 (by simpa using hp2.ne)
            have hk5 : Keep [g] w2 W5 := hk2.trans hs5
            clear hs5
            apply hK
            clear hK K
            go_simp
            refine wpAny_ready (rs := [7]) (by kernel_rfl) (by simp) ?_
            refine AllReady.cons rfl (fun K hK => ?_) ?_
            ·
              apply step_wp
              · rfl
              refine ow_call _ _ _ (by kernel_rfl) (TT _ _ _ hp3 hAT5 (by omega)) ?_
              rintro e W7 ⟨rfl, hAT7, hs7⟩
              refine ⟨_, rfl, ?_⟩
              replace hp1 := hp1.keep hs7 (by simpa using hp1.ne)
              replace hp2 := hp2.keep hs7 (by simpa using hp2.ne)
              replace hp3 := hp3.keep hs7 (by simpa using hp3.ne)
              have hk7 : Keep [g] w2 W7 := hk5.trans hs7
              clear hs7
              apply hK
              clear hK K
              go_simp
              refine wpAny_take (i := 8) (v := ?_) rfl (by kernel_rfl) (by kernel_rfl) (by kernel_rfl) (fun _ _ _ h => h) (Or.inl ⟨by rfl, ?_⟩) ?_
              rotate_left
              · intro y; go_simp; try (with_reducible rfl)
              rotate_left
              go_simp
              refine wpAny_done (by kernel_rfl) ?_ _
              exact hR.out _ _ ⟨rfl, rfl, by repeat (first | exact trivial | refine ⟨rfl, ?_⟩)⟩ hp1 hp2 hAT7 hk7
            exact AllReady.nil
          exact AllReady.nil
        exact AllReady.nil
      exact AllReady.nil
    refine AllReady.cons rfl (fun K hK => ?_) ?_
    ·
      apply step_wp
      · rfl
      refine ow_load _ _ rfl _ rfl 16 5 Try.underlying29 _ DB (LB _ hk0) (by rw [HDB.out]; exact blkCells) ?_
      apply hK
      clear hK K
      go_simp
      refine wpAny_ready (rs := [2, 4]) (by kernel_rfl) (by simp) ?_
      refine AllReady.cons rfl (fun K hK => ?_) ?_
      ·
        apply step_wp
        · rfl
        refine ow_call _ _ _ (by kernel_rfl) (TT _ _ _ hp1 hAT0 (by omega)) ?_
        rintro e W2 ⟨rfl, hAT2, hs2⟩
        refine ⟨_, rfl, ?_⟩
        replace hp1 := hp1.keep hs2 (by simpa using hp1.ne)
        replace hp2 := hp2.keep hs2 (by simpa using hp2.ne)
        have hk2 : Keep [g] w2 W2 := hk0.trans hs2
        clear hs2
        apply hK
        clear hK K
        go_simp
        refine wpAny_ready (rs := [4]) (by kernel_rfl) (by simp) ?_
        refine AllReady.cons rfl (fun K hK => ?_) ?_
        ·
          apply step_wp
          · rfl
          refine ow_load _ _ rfl _ rfl 16 5 Try.underlying29 _ DK (LK _ hk2) (by rw [HDK.out]; exact blkCells) ?_
          apply hK
          clear hK K
          go_simp
          refine wpAny_ready (rs := [5]) (by kernel_rfl) (by simp) ?_
          refine AllReady.cons rfl (fun K hK => ?_) ?_
          ·
            apply step_wp
            · rfl
            refine ow_call _ _ _ (by kernel_rfl) (KK _ _ hAT2) ?_
            rintro e W5 ⟨p3, rfl, hp3, hAT5, hs5⟩
            refine ⟨_, rfl, ?_⟩
            replace hp1 := hp1.keep hs5 (by simpa using hp1.ne)
            replace hp2 := hp2.keep hs5 (by simpa using hp2.ne)
            have hk5 : Keep [g] w2 W5 := hk2.trans hs5
            clear hs5
            apply hK
            clear hK K
            go_simp
            refine wpAny_ready (rs := [7]) (by kernel_rfl) (by simp) ?_
            refine AllReady.cons rfl (fun K hK => ?_) ?_
            ·
              apply step_wp
              · rfl
              refine ow_call _ _ _ (by kernel_rfl) (TT _ _ _ hp3 hAT5 (by omega)) ?_
              rintro e W7 ⟨rfl, hAT7, hs7⟩
              refine ⟨_, rfl, ?_⟩
              replace hp1 := hp1.keep hs7 (by simpa using hp1.ne)
              replace hp2 := hp2.keep hs7 (by simpa using hp2.ne)
              replace hp3 := hp3.keep hs7 (by simpa using hp3.ne)
              have hk7 : Keep [g] w2 W7 := hk5.trans hs7
              clear hs7
              apply hK
              clear hK K
              go_simp
              refine wpAny_take (i := 8) (v := ?_) rfl (by kernel_rfl) (by kernel_rfl) (by kernel_rfl) (fun _ _ _ h => h) (Or.inl ⟨by rfl, ?_⟩) ?_
              rotate_left
              · intro y; go_simp; try (with_reducible rfl)
              rotate_left
              go_simp
              refine wpAny_done (by kernel_rfl) ?_ _
              exact hR.out _ _ ⟨rfl, rfl, by repeat (first | exact trivial | refine ⟨rfl, ?_⟩)⟩ hp1 hp2 hAT7 hk7
            exact AllReady.nil
          exact AllReady.nil
        exact AllReady.nil
      refine AllReady.cons rfl (fun K hK => ?_) ?_
      ·
        apply step_wp
        · rfl
        refine ow_load _ _ rfl _ rfl 16 5 Try.underlying29 _ DK (LK _ hk0) (by rw [HDK.out]; exact blkCells) ?_
        apply hK
        clear hK K
        go_simp
        refine wpAny_ready (rs := [2]) (by kernel_rfl) (by simp) ?_
        refine AllReady.cons rfl (fun K hK => ?_) ?_
        ·
          apply step_wp
          · rfl
          refine ow_call _ _ _ (by kernel_rfl) (TT _ _ _ hp1 hAT0 (by omega)) ?_
          rintro e W2 ⟨rfl, hAT2, hs2⟩
          refine ⟨_, rfl, ?_⟩
          replace hp1 := hp1.keep hs2 (by simpa using hp1.ne)
          replace hp2 := hp2.keep hs2 (by simpa using hp2.ne)
          have hk2 : Keep [g] w2 W2 := hk0.trans hs2
          clear hs2
          apply hK
          clear hK K
          go_simp
          refine wpAny_ready (rs := [5]) (by kernel_rfl) (by simp) ?_
          refine AllReady.cons rfl (fun K hK => ?_) ?_
          ·
            apply step_wp
            · rfl
            refine ow_call _ _ _ (by kernel_rfl) (KK _ _ hAT2) ?_
            rintro e W5 ⟨p3, rfl, hp3, hAT5, hs5⟩
            refine ⟨_, rfl, ?_⟩
            replace hp1 := hp1.keep hs5 (by simpa using hp1.ne)
            replace hp2 := hp2.keep hs5 (by simpa using hp2.ne)
            have hk5 : Keep [g] w2 W5 := hk2.trans hs5
            clear hs5
            apply hK
            clear hK K
            go_simp
            refine wpAny_ready (rs := [7]) (by kernel_rfl) (by simp) ?_
            refine AllReady.cons rfl (fun K hK => ?_) ?_
            ·
              apply step_wp
              · rfl
              refine ow_call _ _ _ (by kernel_rfl) (TT _ _ _ hp3 hAT5 (by omega)) ?_
              rintro e W7 ⟨rfl, hAT7, hs7⟩
              refine ⟨_, rfl, ?_⟩
              replace hp1 := hp1.keep hs7 (by simpa using hp1.ne)
              replace hp2 := hp2.keep hs7 (by simpa using hp2.ne)
              replace hp3 := hp3.keep hs7 (by simpa using hp3.ne)
              have hk7 : Keep [g] w2 W7 := hk5.trans hs7
              clear hs7
              apply hK
              clear hK K
              go_simp
              refine wpAny_take (i := 8) (v := ?_) rfl (by kernel_rfl) (by kernel_rfl) (by kernel_rfl) (fun _ _ _ h => h) (Or.inl ⟨by rfl, ?_⟩) ?_
              rotate_left
              · intro y; go_simp; try (with_reducible rfl)
              rotate_left
              go_simp
              refine wpAny_done (by kernel_rfl) ?_ _
              exact hR.out _ _ ⟨rfl, rfl, by repeat (first | exact trivial | refine ⟨rfl, ?_⟩)⟩ hp1 hp2 hAT7 hk7
            exact AllReady.nil
          exact AllReady.nil
        exact AllReady.nil
      exact AllReady.nil
    exact AllReady.nil
  refine AllReady.cons rfl (fun K hK => ?_) ?_
  ·
    apply step_wp
    · rfl
    refine ow_load _ _ rfl _ rfl 16 5 Try.underlying29 _ DK (LK _ hk0) (by rw [HDK.out]; exact blkCells) ?_
    apply hK
    clear hK K
    go_simp
    refine wpAny_ready (rs := [1, 6]) (by kernel_rfl) (by simp) ?_
    refine AllReady.cons rfl (fun K hK => ?_) ?_
    ·
      apply step_wp
      · rfl
      refine ow_load _ _ rfl _ rfl 16 5 Try.underlying29 _ DB (LB _ hk0) (by rw [HDB.out]; exact blkCells) ?_
      apply hK
      clear hK K
      go_simp
      refine wpAny_ready (rs := [2, 6]) (by kernel_rfl) (by simp) ?_
      refine AllReady.cons rfl (fun K hK => ?_) ?_
      ·
        apply step_wp
        · rfl
        refine ow_call _ _ _ (by kernel_rfl) (TT _ _ _ hp1 hAT0 (by omega)) ?_
        rintro e W2 ⟨rfl, hAT2, hs2⟩
        refine ⟨_, rfl, ?_⟩
        replace hp1 := hp1.keep hs2 (by simpa using hp1.ne)
        replace hp2 := hp2.keep hs2 (by simpa using hp2.ne)
        have hk2 : Keep [g] w2 W2 := hk0.trans hs2
        clear hs2
        apply hK
        clear hK K
        go_simp
        refine wpAny_ready (rs := [5, 6]) (by kernel_rfl) (by simp) ?_
        refine AllReady.cons rfl (fun K hK => ?_) ?_
        ·
          apply step_wp
          · rfl
          refine ow_call _ _ _ (by kernel_rfl) (KK _ _ hAT2) ?_
          rintro e W5 ⟨p3, rfl, hp3, hAT5, hs5⟩
          refine ⟨_, rfl, ?_⟩
          replace hp1 := hp1.keep hs5 (by simpa using hp1.ne)
          replace hp2 := hp2.keep hs5 (by simpa using hp2.ne)
          have hk5 : Keep [g] w2 W5 := hk2.trans hs5
          clear hs5
          apply hK
          clear hK K
          go_simp
          refine wpAny_ready (rs := [6]) (by kernel_rfl) (by simp) ?_
          refine AllReady.cons rfl (fun K hK => ?_) ?_
          ·
            apply step_wp
            · rfl
            refine ow_load _ _ rfl _ rfl 16 5 Try.underlying29 _ DB (LB _ hk5) (by rw [HDB.out]; exact blkCells) ?_
            apply hK
            clear hK K
            go_simp
            refine wpAny_ready (rs := [7]) (by kernel_rfl) (by simp) ?_
            refine AllReady.cons rfl (fun K hK => ?_) ?_
            ·
              apply step_wp
              · rfl
              refine ow_call _ _ _ (by kernel_rfl) (TT _ _ _ hp3 hAT5 (by omega)) ?_
              rintro e W7 ⟨rfl, hAT7, hs7⟩
              refine ⟨_, rfl, ?_⟩
              replace hp1 := hp1.keep hs7 (by simpa using hp1.ne)
              replace hp2 := hp2.keep hs7 (by simpa using hp2.ne)
              replace hp3 := hp3.keep hs7 (by simpa using hp3.ne)
              have hk7 : Keep [g] w2 W7 := hk5.trans hs7
              clear hs7
              apply hK
              clear hK K
              go_simp
              refine wpAny_take (i := 8) (v := ?_) rfl (by kernel_rfl) (by kernel_rfl) (by kernel_rfl) (fun _ _ _ h => h) (Or.inl ⟨by rfl, ?_⟩) ?_
              rotate_left
              · intro y; go_simp; try (with_reducible rfl)
              rotate_left
              go_simp
              refine wpAny_done (by kernel_rfl) ?_ _
              exact hR.out _ _ ⟨rfl, rfl, by repeat (first | exact trivial | refine ⟨rfl, ?_⟩)⟩ hp1 hp2 hAT7 hk7
            exact AllReady.nil
          exact AllReady.nil
        refine AllReady.cons rfl (fun K hK => ?_) ?_
        ·
          apply step_wp
          · rfl
          refine ow_load _ _ rfl _ rfl 16 5 Try.underlying29 _ DB (LB _ hk2) (by rw [HDB.out]; exact blkCells) ?_
          apply hK
          clear hK K
          go_simp
          refine wpAny_ready (rs := [5]) (by kernel_rfl) (by simp) ?_
          refine AllReady.cons rfl (fun K hK => ?_) ?_
          ·
            apply step_wp
            · rfl
            refine ow_call _ _ _ (by kernel_rfl) (KK _ _ hAT2) ?_
            rintro e W5 ⟨p3, rfl, hp3, hAT5, hs5⟩
            refine ⟨_, rfl, ?_⟩
            replace hp1 := hp1.keep hs5 (by simpa using hp1.ne)
            replace hp2 := hp2.keep hs5 (by simpa using hp2.ne)
            have hk5 : Keep [g] w2 W5 := hk2.trans hs5
            clear hs5
            apply hK
            clear hK K
            go_simp
            refine wpAny_ready (rs := [7]) (by kernel_rfl) (by simp) ?_
            refine AllReady.cons rfl (fun K hK => ?_) ?_
            ·
              apply step_wp
              · rfl
              refine ow_call _ _ _ (by kernel_rfl) (TT _ _ _ hp3 hAT5 (by omega)) ?_
              rintro e W7 ⟨rfl, hAT7, hs7⟩
              refine ⟨_, rfl, ?_⟩
              replace hp1 := hp1.keep hs7 (by simpa using hp1.ne)
              replace hp2 := hp2.keep hs7 (by simpa using hp2.ne)
              replace hp3 := hp3.keep hs7 (by simpa using hp3.ne)
              have hk7 : Keep [g] w2 W7 := hk5.trans hs7
              clear hs7
              apply hK
              clear hK K
              go_simp
              refine wpAny_take (i := 8) (v := ?_) rfl (by kernel_rfl) (by kernel_rfl) (by kernel_rfl) (fun _ _ _ h => h) (Or.inl ⟨by rfl, ?_⟩) ?_
              rotate_left
              · intro y; go_simp; try (with_reducible rfl)
              rotate_left
              go_simp
              refine wpAny_done (by kernel_rfl) ?_ _
              exact hR.out _ _ ⟨rfl, rfl, by repeat (first | exact trivial | refine ⟨rfl, ?_⟩)⟩ hp1 hp2 hAT7 hk7
            exact AllReady.nil
          exact AllReady.nil
        exact AllReady.nil
      refine AllReady.cons rfl (fun K hK => ?_) ?_
      ·
        apply step_wp
        · rfl
        refine ow_load _ _ rfl _ rfl 16 5 Try.underlying29 _ DB (LB _ hk0) (by rw [HDB.out]; exact blkCells) ?_
        apply hK
        clear hK K
        go_simp
        refine wpAny_ready (rs := [2]) (by kernel_rfl) (by simp) ?_
        refine AllReady.cons rfl (fun K hK => ?_) ?_
        ·
          apply step_wp
          · rfl
          refine ow_call _ _ _ (by kernel_rfl) (TT _ _ _ hp1 hAT0 (by omega)) ?_
          rintro e W2 ⟨rfl, hAT2, hs2⟩
          refine ⟨_, rfl, ?_⟩
          replace hp1 := hp1.keep hs2 (by simpa using hp1.ne)
          replace hp2 := hp2.keep hs2 (by simpa using hp2.ne)
          have hk2 : Keep [g] w2 W2 := hk0.trans hs2
          clear hs2
          apply hK
          clear hK K
          go_simp
          refine wpAny_ready (rs := [5]) (by kernel_rfl) (by simp) ?_
          refine AllReady.cons rfl (fun K hK => ?_) ?_
          ·
            apply step_wp
            · rfl
            refine ow_call _ _ _ (by kernel_rfl) (KK _ _ hAT2) ?_
            rintro e W5 ⟨p3, rfl, hp3, hAT5, hs5⟩
            refine ⟨_, rfl, ?_⟩
            replace hp1 := hp1.keep hs5 (by simpa using hp1.ne)
            replace hp2 := hp2.keep hs5 (by simpa using hp2.ne)
            have hk5 : Keep [g] w2 W5 := hk2.trans hs5
            clear hs5
            apply hK
            clear hK K
            go_simp
            refine wpAny_ready (rs := [7]) (by kernel_rfl) (by simp) ?_
            refine AllReady.cons rfl (fun K hK => ?_) ?_
            ·
              apply step_wp
              · rfl
              refine ow_call _ _ _ (by kernel_rfl) (TT _ _ _ hp3 hAT5 (by omega)) ?_
              rintro e W7 ⟨rfl, hAT7, hs7⟩
              refine ⟨_, rfl, ?_⟩
              replace hp1 := hp1.keep hs7 (by simpa using hp1.ne)
              replace hp2 := hp2.keep hs7 (by simpa using hp2.ne)
              replace hp3 := hp3.keep hs7 (by simpa using hp3.ne)
              have hk7 : Keep [g] w2 W7 := hk5.trans hs7
              clear hs7
              apply hK
              clear hK K
              go_simp
              refine wpAny_take (i := 8) (v := ?_) rfl (by kernel_rfl) (by kernel_rfl) (by kernel_rfl) (fun _ _ _ h => h) (Or.inl ⟨by rfl, ?_⟩) ?_
              rotate_left
              · intro y; go_simp; try (with_reducible rfl)
              rotate_left
              go_simp
              refine wpAny_done (by kernel_rfl) ?_ _
              exact hR.out _ _ ⟨rfl, rfl, by repeat (first | exact trivial | refine ⟨rfl, ?_⟩)⟩ hp1 hp2 hAT7 hk7
            exact AllReady.nil
          exact AllReady.nil
        exact AllReady.nil
      exact AllReady.nil
    refine AllReady.cons rfl (fun K hK => ?_) ?_
    ·
      apply step_wp
      · rfl
      refine ow_load _ _ rfl _ rfl 16 5 Try.underlying29 _ DB (LB _ hk0) (by rw [HDB.out]; exact blkCells) ?_
      apply hK
      clear hK K
      go_simp
      refine wpAny_ready (rs := [1]) (by kernel_rfl) (by simp) ?_
      refine AllReady.cons rfl (fun K hK => ?_) ?_
      ·
        apply step_wp
        · rfl
        refine ow_load _ _ rfl _ rfl 16 5 Try.underlying29 _ DB (LB _ hk0) (by rw [HDB.out]; exact blkCells) ?_
        apply hK
        clear hK K
        go_simp
        refine wpAny_ready (rs := [2]) (by kernel_rfl) (by simp) ?_
        refine AllReady.cons rfl (fun K hK => ?_) ?_
        ·
          apply step_wp
          · rfl
          refine ow_call _ _ _ (by kernel_rfl) (TT _ _ _ hp1 hAT0 (by omega)) ?_
          rintro e W2 ⟨rfl, hAT2, hs2⟩
          refine ⟨_, rfl, ?_⟩
          replace hp1 := hp1.keep hs2 (by simpa using hp1.ne)
          replace hp2 := hp2.keep hs2 (by simpa using hp2.ne)
          have hk2 : Keep [g] w2 W2 := hk0.trans hs2
          clear hs2
          apply hK
          clear hK K
          go_simp
          refine wpAny_ready (rs := [5]) (by kernel_rfl) (by simp) ?_
          refine AllReady.cons rfl (fun K hK => ?_) ?_
          ·
            apply step_wp
            · rfl
            refine ow_call _ _ _ (by kernel_rfl) (KK _ _ hAT2) ?_
            rintro e W5 ⟨p3, rfl, hp3, hAT5, hs5⟩
            refine ⟨_, rfl, ?_⟩
            replace hp1 := hp1.keep hs5 (by simpa using hp1.ne)
            replace hp2 := hp2.keep hs5 (by simpa using hp2.ne)
            have hk5 : Keep [g] w2 W5 := hk2.trans hs5
            clear hs5
            apply hK
            clear hK K
            go_simp
            refine wpAny_ready (rs := [7]) (by kernel_rfl) (by simp) ?_
            refine AllReady.cons rfl (fun K hK => ?_) ?_
            ·
              apply step_wp
              · rfl
              refine ow_call _ _ _ (by kernel_rfl) (TT _ _ _ hp3 hAT5 (by omega)) ?_
              rintro e W7 ⟨rfl, hAT7, hs7⟩
              refine ⟨_, rfl, ?_⟩
              replace hp1 := hp1.keep hs7 (by simpa using hp1.ne)
              replace hp2 := hp2.keep hs7 (by simpa using hp2.ne)
              replace hp3 := hp3.keep hs7 (by simpa using hp3.ne)
              have hk7 : Keep [g] w2 W7 := hk5.trans hs7
              clear hs7
              apply hK
              clear hK K
              go_simp
              refine wpAny_take (i := 8) (v := ?_) rfl (by kernel_rfl) (by kernel_rfl) (by kernel_rfl) (fun _ _ _ h => h) (Or.inl ⟨by rfl, ?_⟩) ?_
              rotate_left
              · intro y; go_simp; try (with_reducible rfl)
              rotate_left
              go_simp
              refine wpAny_done (by kernel_rfl) ?_ _
              exact hR.out _ _ ⟨rfl, rfl, by repeat (first | exact trivial | refine ⟨rfl, ?_⟩)⟩ hp1 hp2 hAT7 hk7
            exact AllReady.nil
          exact AllReady.nil
        exact AllReady.nil
      exact AllReady.nil
    exact AllReady.nil
  refine AllReady.cons rfl (fun K hK => ?_) ?_
  ·
    apply step_wp
    · rfl
    refine ow_load _ _ rfl _ rfl 16 5 Try.underlying29 _ DB (LB _ hk0) (by rw [HDB.out]; exact blkCells) ?_
    apply hK
    clear hK K
    go_simp
    refine wpAny_ready (rs := [1, 4]) (by kernel_rfl) (by simp) ?_
    refine AllReady.cons rfl (fun K hK => ?_) ?_
    ·
      apply step_wp
      · rfl
      refine ow_load _ _ rfl _ rfl 16 5 Try.underlying29 _ DB (LB _ hk0) (by rw [HDB.out]; exact blkCells) ?_
      apply hK
      clear hK K
      go_simp
      refine wpAny_ready (rs := [2, 4]) (by kernel_rfl) (by simp) ?_
      refine AllReady.cons rfl (fun K hK => ?_) ?_
      ·
        apply step_wp
        · rfl
        refine ow_call _ _ _ (by kernel_rfl) (TT _ _ _ hp1 hAT0 (by omega)) ?_
        rintro e W2 ⟨rfl, hAT2, hs2⟩
        refine ⟨_, rfl, ?_⟩
        replace hp1 := hp1.keep hs2 (by simpa using hp1.ne)
        replace hp2 := hp2.keep hs2 (by simpa using hp2.ne)
        have hk2 : Keep [g] w2 W2 := hk0.trans hs2
        clear hs2
        apply hK
        clear hK K
        go_simp
        refine wpAny_ready (rs := [4]) (by kernel_rfl) (by simp) ?_
        refine AllReady.cons rfl (fun K hK => ?_) ?_
        ·
          apply step_wp
          · rfl
          refine ow_load _ _ rfl _ rfl 16 5 Try.underlying29 _ DK (LK _ hk2) (by rw [HDK.out]; exact blkCells) ?_
          apply hK
          clear hK K
          go_simp
          refine wpAny_ready (rs := [5]) (by kernel_rfl) (by simp) ?_
          refine AllReady.cons rfl (fun K hK => ?_) ?_
          ·
            apply step_wp
            · rfl
            refine ow_call _ _ _ (by kernel_rfl) (KK _ _ hAT2) ?_
            rintro e W5 ⟨p3, rfl, hp3, hAT5, hs5⟩
            refine ⟨_, rfl, ?_⟩
            replace hp1 := hp1.keep hs5 (by simpa using hp1.ne)
            replace hp2 := hp2.keep hs5 (by simpa using hp2.ne)
            have hk5 : Keep [g] w2 W5 := hk2.trans hs5
            clear hs5
            apply hK
            clear hK K
            go_simp
            refine wpAny_ready (rs := [7]) (by kernel_rfl) (by simp) ?_
            refine AllReady.cons rfl (fun K hK => ?_) ?_
            ·
              apply step_wp
              · rfl
              refine ow_call _ _ _ (by kernel_rfl) (TT _ _ _ hp3 hAT5 (by omega)) ?_
              rintro e W7 ⟨rfl, hAT7, hs7⟩
              refine ⟨_, rfl, ?_⟩
              replace hp1 := hp1.keep hs7 (by simpa using hp1.ne)
              replace hp2 := hp2.keep hs7 (by simpa using hp2.ne)
              replace hp3 := hp3.keep hs7 (by simpa using hp3.ne)
              have hk7 : Keep [g] w2 W7 := hk5.trans hs7
              clear hs7
              apply hK
              clear hK K
              go_simp
              refine wpAny_take (i := 8) (v := ?_) rfl (by kernel_rfl) (by kernel_rfl) (by kernel_rfl) (fun _ _ _ h => h) (Or.inl ⟨by rfl, ?_⟩) ?_
              rotate_left
              · intro y; go_simp; try (with_reducible rfl)
              rotate_left
              go_simp
              refine wpAny_done (by kernel_rfl) ?_ _
              exact hR.out _ _ ⟨rfl, rfl, by repeat (first | exact trivial | refine ⟨rfl, ?_⟩)⟩ hp1 hp2 hAT7 hk7
            exact AllReady.nil
          exact AllReady.nil
        exact AllReady.nil
      refine AllReady.cons rfl (fun K hK => ?_) ?_
      ·
        apply step_wp
        · rfl
        refine ow_load _ _ rfl _ rfl 16 5 Try.underlying29 _ DK (LK _ hk0) (by rw [HDK.out]; exact blkCells) ?_
        apply hK
        clear hK K
        go_simp
        refine wpAny_ready (rs := [2]) (by kernel_rfl) (by simp) ?_
        refine AllReady.cons rfl (fun K hK => ?_) ?_
        ·
          apply step_wp
          · rfl
          refine ow_call _ _ _ (by kernel_rfl) (TT _ _ _ hp1 hAT0 (by omega)) ?_
          rintro e W2 ⟨rfl, hAT2, hs2⟩
          refine ⟨_, rfl, ?_⟩
          replace hp1 := hp1.keep hs2 (by simpa using hp1.ne)
          replace hp2 := hp2.keep hs2 (by simpa using hp2.ne)
          have hk2 : Keep [g] w2 W2 := hk0.trans hs2
          clear hs2
          apply hK
          clear hK K
          go_simp
          refine wpAny_ready (rs := [5]) (by kernel_rfl) (by simp) ?_
          refine AllReady.cons rfl (fun K hK => ?_) ?_
          ·
            apply step_wp
            · rfl
            refine ow_call _ _ _ (by kernel_rfl) (KK _ _ hAT2) ?_
            rintro e W5 ⟨p3, rfl, hp3, hAT5, hs5⟩
            refine ⟨_, rfl, ?_⟩
            replace hp1 := hp1.keep hs5 (by simpa using hp1.ne)
            replace hp2 := hp2.keep hs5 (by simpa using hp2.ne)
            have hk5 : Keep [g] w2 W5 := hk2.trans hs5
            clear hs5
            apply hK
            clear hK K
            go_simp
            refine wpAny_ready (rs := [7]) (by kernel_rfl) (by simp) ?_
            refine AllReady.cons rfl (fun K hK => ?_) ?_
            ·
              apply step_wp
              · rfl
              refine ow_call _ _ _ (by kernel_rfl) (TT _ _ _ hp3 hAT5 (by omega)) ?_
              rintro e W7 ⟨rfl, hAT7, hs7⟩
              refine ⟨_, rfl, ?_⟩
              replace hp1 := hp1.keep hs7 (by simpa using hp1.ne)
              replace hp2 := hp2.keep hs7 (by simpa using hp2.ne)
              replace hp3 := hp3.keep hs7 (by simpa using hp3.ne)
              have hk7 : Keep [g] w2 W7 := hk5.trans hs7
              clear hs7
              apply hK
              clear hK K
              go_simp
              refine wpAny_take (i := 8) (v := ?_) rfl (by kernel_rfl) (by kernel_rfl) (by kernel_rfl) (fun _ _ _ h => h) (Or.inl ⟨by rfl, ?_⟩) ?_
              rotate_left
              · intro y; go_simp; try (with_reducible rfl)
              rotate_left
              go_simp
              refine wpAny_done (by kernel_rfl) ?_ _
              exact hR.out _ _ ⟨rfl, rfl, by repeat (first | exact trivial | refine ⟨rfl, ?_⟩)⟩ hp1 hp2 hAT7 hk7
            exact AllReady.nil
          exact AllReady.nil
        exact AllReady.nil
      exact AllReady.nil
    refine AllReady.cons rfl (fun K hK => ?_) ?_
    ·
      apply step_wp
      · rfl
      refine ow_load _ _ rfl _ rfl 16 5 Try.underlying29 _ DK (LK _ hk0) (by rw [HDK.out]; exact blkCells) ?_
      apply hK
      clear hK K
      go_simp
      refine wpAny_ready (rs := [1]) (by kernel_rfl) (by simp) ?_
      refine AllReady.cons rfl (fun K hK => ?_) ?_
      ·
        apply step_wp
        · rfl
        refine ow_load _ _ rfl _ rfl 16 5 Try.underlying29 _ DB (LB _ hk0) (by rw [HDB.out]; exact blkCells) ?_
        apply hK
        clear hK K
        go_simp
        refine wpAny_ready (rs := [2]) (by kernel_rfl) (by simp) ?_
        refine AllReady.cons rfl (fun K hK => ?_) ?_
        ·
          apply step_wp
          · rfl
          refine ow_call _ _ _ (by kernel_rfl) (TT _ _ _ hp1 hAT0 (by omega)) ?_
          rintro e W2 ⟨rfl, hAT2, hs2⟩
          refine ⟨_, rfl, ?_⟩
          replace hp1 := hp1.keep hs2 (by simpa using hp1.ne)
          replace hp2 := hp2.keep hs2 (by simpa using hp2.ne)
          have hk2 : Keep [g] w2 W2 := hk0.trans hs2
          clear hs2
          apply hK
          clear hK K
          go_simp
          refine wpAny_ready (rs := [5]) (by kernel_rfl) (by simp) ?_
          refine AllReady.cons rfl (fun K hK => ?_) ?_
          ·
            apply step_wp
            · rfl
            refine ow_call _ _ _ (by kernel_rfl) (KK _ _ hAT2) ?_
            rintro e W5 ⟨p3, rfl, hp3, hAT5, hs5⟩
            refine ⟨_, rfl, ?_⟩
            replace hp1 := hp1.keep hs5 (by simpa using hp1.ne)
            replace hp2 := hp2.keep hs5 (by simpa using hp2.ne)
            have hk5 : Keep [g] w2 W5 := hk2.trans hs5
            clear hs5
            apply hK
            clear hK K
            go_simp
            refine wpAny_ready (rs := [7]) (by kernel_rfl) (by simp) ?_
            refine AllReady.cons rfl (fun K hK => ?_) ?_
            ·
              apply step_wp
              · rfl
              refine ow_call _ _ _ (by kernel_rfl) (TT _ _ _ hp3 hAT5 (by omega)) ?_
              rintro e W7 ⟨rfl, hAT7, hs7⟩
              refine ⟨_, rfl, ?_⟩
              replace hp1 := hp1.keep hs7 (by simpa using hp1.ne)
              replace hp2 := hp2.keep hs7 (by simpa using hp2.ne)
              replace hp3 := hp3.keep hs7 (by simpa using hp3.ne)
              have hk7 : Keep [g] w2 W7 := hk5.trans hs7
              clear hs7
              apply hK
              clear hK K
              go_simp
              refine wpAny_take (i := 8) (v := ?_) rfl (by kernel_rfl) (by kernel_rfl) (by kernel_rfl) (fun _ _ _ h => h) (Or.inl ⟨by rfl, ?_⟩) ?_
              rotate_left
              · intro y; go_simp; try (with_reducible rfl)
              rotate_left
              go_simp
              refine wpAny_done (by kernel_rfl) ?_ _
              exact hR.out _ _ ⟨rfl, rfl, by repeat (first | exact trivial | refine ⟨rfl, ?_⟩)⟩ hp1 hp2 hAT7 hk7
            exact AllReady.nil
          exact AllReady.nil
        exact AllReady.nil
      exact AllReady.nil
    exact AllReady.nil
  exact AllReady.nil

end Go.Proofs.Ytpjkicbfdknjcaa
