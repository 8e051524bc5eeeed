/-
  AesCounts: its last drawn region.
-/
import Derived.Test.YtpjkicbfdknjcaaAesC1
namespace Go.Proofs.Ytpjkicbfdknjcaa
open Go.RowKit

theorem exec_load {P : Program} {o : Oper} {a : Act} {y : World} (t : TypeId) (x : Operand) (ho : o.op = .load t x) (g : Nat) (hx : a.eval x = .pointer (some ⟨g, 0, none⟩)) (n : Nat) (e : TypeId) (hu : P.underlying t = some (.array n e)) (tt : TypeId) (c : Array Value) (hB : Blk y g tt c) (hi : (P.info? t).map (·.size) = some c.size) :
    (execOp a.eval o).run P y = .ok (.value (.agg c)) y := by
  unfold execOp
  simp only [ho, hx, Instr.loadAt, Instr.sureAddr, Sem.run_bind, Sem.run_pure, Result.andThen_ok, run_loadVar_row y g tt t c (0, 0) _ hB hu rfl hi]

noncomputable def hcnt15 : Code := regionOf Try.f6 15
set_option maxRecDepth 100000 in
set_option maxHeartbeats 16000000 in
theorem cnt_reg15 (hT : ATurnC) (hTd : ATurnedC) (hNi : ANilC) (R : Act → World → Prop) (a : Act) (w2 : World) (g gk ga gb : Nat) (many : Int) (kl al bl : List Int) (DK DA DB : Array Value) (hkl : B16 kl) (hal : B16 al) (hbl : B16 bl) (hDK : Hid (DK = (kl.map (Value.int .u8)).toArray)) (hDA : Hid (DA = (al.map (Value.int .u8)).toArray)) (hDB : Hid (DB = (bl.map (Value.int .u8)).toArray))
    (hBK : Hid (Blk w2 gk 29 DK)) (hBA : Hid (Blk w2 ga 29 DA)) (hBB : Hid (Blk w2 gb 29 DB)) (hne : Hid (gk ≠ g ∧ ga ≠ g ∧ gb ≠ g)) (n p1 : Nat) (hn : n ≤ 1000) (c : Nat) (hc : c < 5) (hmod : Int.tmod many 5 = (c : Int)) (hnc : n = 2 * c + 1) (hAT : Hid (AT w2 g n)) (hA1 : Hid (AK w2 p1 g kl))
    (hF : Fr 92 [(3, .int .u8 many), (4, .pointer (some ⟨gk, 0, none⟩)), (5, .pointer (some ⟨ga, 0, none⟩)), (6, .pointer (some ⟨gb, 0, none⟩)), (9, .pointer (some ⟨g, 0, none⟩)), (10, .pointer (some ⟨p1, 0, none⟩)), (12, .pointer none), (13, .pointer none)] a)
    (hR : Hid (∀ a' w', Fr 92 [(8, .bool true)] a' → Keep [g] w2 w' → R a' w')) :
    Code.wp Try.prog hcnt15 (OutN R) a w2 := by
  obtain ⟨TB, hTB'⟩ : ∃ TB, TB = ((Aes.turn kl bl).map (Value.int .u8)).toArray := ⟨_, rfl⟩
  obtain ⟨TA, hTA'⟩ : ∃ TA, TA = ((Aes.turn kl al).map (Value.int .u8)).toArray := ⟨_, rfl⟩
  obtain ⟨e, he⟩ : ∃ e : Bool, e = decide (al = bl) := ⟨_, rfl⟩
  have hTB := Lib.hid hTB'
  have hTA := Lib.hid hTA'
  have eq1 := fun W => blkEqD _ _ (turn_b16 hkl hal) (turn_b16 hkl hbl) TA TB hTA' hTB' e (by
    rw [he]
    by_cases h : al = bl
    · subst h; simp
    · have h2 : Aes.turn kl al ≠ Aes.turn kl bl := fun h3 => h (Aes.turn_inj hkl.2 hal.1 hbl.1 hal.2 hbl.2 h3)
      simp [h, h2]) W
  have eq2 := fun W => blkEqD _ _ hal hbl DA DB hDA.out hDB.out e he W
  have eq0 := blkEq0
  have NK : ∀ W, Calls Try.prog 14 #[.pointer none, .agg DK] W fun e w' => e = .returned (.pointer none) ∧ Keep [] W w' := fun W => by
    have := (hNi W kl bl 3 hkl hbl).1
    rw [arr_agg, ← hDK.out] at this
    exact this
  have NB : ∀ W, Calls Try.prog 11 #[.pointer none, .int .u8 3] W fun e w' => e = .returned (.int .u8 0) ∧ Keep [] W w' := fun W => (hNi W kl bl 3 hkl hbl).2.1
  have ND : ∀ W, Calls Try.prog 17 #[.pointer none] W fun e w' => e = .returned (.int .i64 0) ∧ Keep [] W w' := fun W => (hNi W kl bl 3 hkl hbl).2.2.1
  have NT : ∀ W, Calls Try.prog 15 #[.pointer none, .agg DB] W fun e w' => e = .returned (.agg #[.int .u8 0, .int .u8 0, .int .u8 0, .int .u8 0, .int .u8 0, .int .u8 0, .int .u8 0, .int .u8 0, .int .u8 0, .int .u8 0, .int .u8 0, .int .u8 0, .int .u8 0, .int .u8 0, .int .u8 0, .int .u8 0]) ∧ Keep [] W w' := fun W => by
    have := (hNi W kl bl 3 hkl hbl).2.2.2
    rw [arr_agg, ← hDB.out] at this
    exact this
  clear hTB' hTA' he
  have HDK := Lib.hid (show DK.size = 16 by rw [hDK.out]; simp [hkl.1])
  have HDA := Lib.hid (show DA.size = 16 by rw [hDA.out]; simp [hal.1])
  have HDB := Lib.hid (show DB.size = 16 by rw [hDB.out]; simp [hbl.1])
  have LK : ∀ W, Keep [g] w2 W → Blk W gk 29 DK := fun W h => hBK.out.keep h (by simpa using hne.out.1)
  have LA : ∀ W, Keep [g] w2 W → Blk W ga 29 DA := fun W h => hBA.out.keep h (by simpa using hne.out.2.1)
  have LB : ∀ W, Keep [g] w2 W → Blk W gb 29 DB := fun W h => hBB.out.keep h (by simpa using hne.out.2.2)
  have TA1 : ∀ W p n, AK W p g kl → AT W g n → n ≤ 1000000 → Calls Try.prog 15 #[.pointer (some ⟨p, 0, none⟩), .agg DA] W fun e w' => e = .returned (.agg TA) ∧ AT w' g (n + 1) ∧ Keep [g] W w' := by
    intro W p n h1 h2 h3
    have := hT W p g n kl al h1 h2 h3 hkl hal
    rw [arr_agg, arr_agg, ← hDA.out, ← hTA.out] at this
    exact this
  have TB1 : ∀ W p n, AK W p g kl → AT W g n → n ≤ 1000000 → Calls Try.prog 15 #[.pointer (some ⟨p, 0, none⟩), .agg DB] W fun e w' => e = .returned (.agg TB) ∧ AT w' g (n + 1) ∧ Keep [g] W w' := by
    intro W p n h1 h2 h3
    have := hT W p g n kl bl h1 h2 h3 hkl hbl
    rw [arr_agg, arr_agg, ← hDB.out, ← hTB.out] at this
    exact this
  have cm : (n : Int) = 2 * (c : Int) + 1 := by omega
  have hw1 : IntKind.i64.wrap (2 * (c : Int)) = 2 * c := IntWalk.i64_in _ ⟨by omega, by omega⟩
  have hw2 : IntKind.i64.wrap (2 * (c : Int) + 1) = 2 * c + 1 := IntWalk.i64_in _ ⟨by omega, by omega⟩
  have hw3 : IntKind.i64.wrap (c : Int) = c := IntWalk.i64_in _ ⟨by omega, by omega⟩
  have hw4 : IntKind.u8.wrap (c : Int) = c := by rw [IntKind.wrap_u8']; omega
  obtain ⟨f, ⟨f3, f4, f5, f6, f9, f10, f12, f13, -⟩, rfl⟩ := hF.open92
  simp only [f3, f4, f5, f6, f9, f10, f12, f13]
  clear f3 f4 f5 f6 f9 f10 f12 f13 hF
  conv => arg 2; whnf
  refine wp_region_held_drew (S := fun y => Keep [g] w2 y) (by kernel_rfl) ((Keep.refl [g] w2).drew) (fun hk0 => ?_)
  have hAT0 : AT w2.drew g n := hAT.out.keep (Keep.refl [] w2).drew (by simp)
  obtain ⟨W0, hW0⟩ : ∃ W0, W0 = w2.drew := ⟨_, rfl⟩
  rw [← hW0] at hk0 hAT0 ⊢
  have hp1 : AK W0 p1 g kl := hA1.out.keep hk0 (by simpa using hA1.out.ne)
  clear hW0
  go_simp
  refine wpAnyH_take (i := 0) (v := ?_) rfl (by kernel_rfl) (by kernel_rfl) (by kernel_rfl) (fun _ _ _ h => h) (Or.inl ⟨by rfl, fun y hy => ?_⟩) hk0 ?_
  rotate_left
  · go_simp; try (with_reducible rfl)
  rotate_left
  go_simp
  refine wpAnyH_take (i := 2) (v := ?_) rfl (by kernel_rfl) (by kernel_rfl) (by kernel_rfl) (fun _ _ _ h => h) (Or.inl ⟨by rfl, fun y hy => ?_⟩) hk0 ?_
  rotate_left
  · go_simp; try (with_reducible rfl)
  rotate_left
  go_simp
  refine wpAnyH_take (i := 3) (v := ?_) rfl (by kernel_rfl) (by kernel_rfl) (by kernel_rfl) (fun _ _ _ h => h) (Or.inl ⟨by rfl, fun y hy => ?_⟩) hk0 ?_
  rotate_left
  · go_simp; try (with_reducible rfl)
  rotate_left
  go_simp
  refine wpAnyH_take (i := 4) (v := ?_) rfl (by kernel_rfl) (by kernel_rfl) (by kernel_rfl) (fun _ _ _ h => h) (Or.inl ⟨by rfl, fun y hy => ?_⟩) hk0 ?_
  rotate_left
  · go_simp; try (with_reducible rfl)
  rotate_left
  go_simp
  refine wpAnyH_take (i := 5) (v := ?_) rfl (by kernel_rfl) (by kernel_rfl) (by kernel_rfl) (fun _ _ _ h => h) (Or.inl ⟨by rfl, fun y hy => ?_⟩) hk0 ?_
  rotate_left
  · go_simp; try (with_reducible rfl)
  rotate_left
  go_simp
  refine wpAnyH_take (i := 6) (v := ?_) rfl (by kernel_rfl) (by kernel_rfl) (by kernel_rfl) (fun _ _ _ h => h) (Or.inl ⟨by rfl, fun y hy => ?_⟩) hk0 ?_
  rotate_left
  · go_simp; try (with_reducible rfl)
  rotate_left
  go_simp
  refine wpAnyH_ready (rs := [1]) (by kernel_rfl) (by simp) ?_
  refine AllReadyH.cons rfl (fun K hK => ?_) AllReadyH.nil
  apply step_wp
  · rfl
  refine ow_call _ _ _ (by kernel_rfl) (hTd _ g _ hAT0 (by omega)) ?_
  rintro e W1 ⟨rfl, hAT1, hs1⟩
  refine ⟨_, rfl, ?_⟩
  replace hp1 := hp1.keep hs1 (by simpa using hp1.ne)
  have hk1 : Keep [g] w2 W1 := hk0.trans hs1
  clear hs1
  refine hK.out _ _ hk1 (fun _ => ?_)
  clear hK K
  go_simp
  refine wpAnyH_take (i := 7) (v := ?_) rfl (by kernel_rfl) (by kernel_rfl) (by kernel_rfl) (fun _ _ _ h => h) (Or.inl ⟨by rfl, fun y hy => ?_⟩) hk1 ?_
  rotate_left
  · go_simp; try (with_reducible rfl)
  rotate_left
  go_simp
  refine wpAnyH_take (i := 8) (v := ?_) rfl (by kernel_rfl) (by kernel_rfl) (by kernel_rfl) (fun _ _ _ h => h) (Or.inl ⟨by rfl, fun y hy => ?_⟩) hk1 ?_
  rotate_left
  · go_simp; try (with_reducible rfl)
  rotate_left
  go_simp
  refine wpAnyH_take (i := 9) (v := ?_) rfl (by kernel_rfl) (by kernel_rfl) (by kernel_rfl) (fun _ _ _ h => h) (Or.inl ⟨by rfl, fun y hy => ?_⟩) hk1 ?_
  rotate_left
  · go_simp; try (with_reducible rfl)
  rotate_left
  go_simp
  refine wpAnyH_take (i := 10) (v := .agg DA) rfl (by kernel_rfl) (by kernel_rfl) (by kernel_rfl) (fun _ _ _ h => h) (Or.inl ⟨by rfl, fun y hy => exec_load _ _ rfl ga rfl 16 5 Try.underlying29 _ DA (LA y hy) (by rw [HDA.out]; exact blkCells)⟩) hk1 ?_
  go_simp
  refine wpAnyH_take (i := 12) (v := ?_) rfl (by kernel_rfl) (by kernel_rfl) (by kernel_rfl) (fun _ _ _ h => h) (Or.inl ⟨by rfl, fun y hy => ?_⟩) hk1 ?_
  rotate_left
  · go_simp; try (with_reducible rfl)
  rotate_left
  go_simp
  refine wpAnyH_take (i := 13) (v := .agg DB) rfl (by kernel_rfl) (by kernel_rfl) (by kernel_rfl) (fun _ _ _ h => h) (Or.inl ⟨by rfl, fun y hy => exec_load _ _ rfl gb rfl 16 5 Try.underlying29 _ DB (LB y hy) (by rw [HDB.out]; exact blkCells)⟩) hk1 ?_
  go_simp
  refine wpAnyH_take (i := 16) (v := .agg DA) rfl (by kernel_rfl) (by kernel_rfl) (by kernel_rfl) (fun _ _ _ h => h) (Or.inl ⟨by rfl, fun y hy => exec_load _ _ rfl ga rfl 16 5 Try.underlying29 _ DA (LA y hy) (by rw [HDA.out]; exact blkCells)⟩) hk1 ?_
  go_simp
  refine wpAnyH_take (i := 17) (v := .agg DB) rfl (by kernel_rfl) (by kernel_rfl) (by kernel_rfl) (fun _ _ _ h => h) (Or.inl ⟨by rfl, fun y hy => exec_load _ _ rfl gb rfl 16 5 Try.underlying29 _ DB (LB y hy) (by rw [HDB.out]; exact blkCells)⟩) hk1 ?_
  go_simp
  refine wpAnyH_take (i := 18) (v := ?_) rfl (by kernel_rfl) (by kernel_rfl) (by kernel_rfl) (fun _ _ _ h => h) (Or.inl ⟨by rfl, fun y hy => ?_⟩) hk1 ?_
  rotate_left
  · go_simp; try (with_reducible rfl)
  rotate_left
  go_simp
  refine wpAnyH_ready (rs := [11]) (by kernel_rfl) (by simp) ?_
  refine AllReadyH.cons rfl (fun K hK => ?_) AllReadyH.nil
  apply step_wpG
  · rfl
  refine ow_call _ _ _ (by kernel_rfl) (TA1 _ _ _ hp1 hAT1 (by omega)) ?_
  rintro e W11 ⟨rfl, hAT11, hs11⟩
  refine ⟨_, rfl, ?_⟩
  replace hp1 := hp1.keep hs11 (by simpa using hp1.ne)
  have hk11 : Keep [g] w2 W11 := hk1.trans hs11
  clear hs11
  refine hK.out _ _ hk11 (fun _ => ?_)
  clear hK K
  go_simp
  refine wpAnyH_ready (rs := [14]) (by kernel_rfl) (by simp) ?_
  refine AllReadyH.cons rfl (fun K hK => ?_) AllReadyH.nil
  apply step_wpG
  · rfl
  refine ow_call _ _ _ (by kernel_rfl) (TB1 _ _ _ hp1 hAT11 (by omega)) ?_
  rintro e W14 ⟨rfl, hAT14, hs14⟩
  refine ⟨_, rfl, ?_⟩
  replace hp1 := hp1.keep hs14 (by simpa using hp1.ne)
  have hk14 : Keep [g] w2 W14 := hk11.trans hs14
  clear hs14
  refine hK.out _ _ hk14 (fun _ => ?_)
  clear hK K
  go_simp
  refine wpAnyH_take (i := 15) (v := ?_) rfl (by kernel_rfl) (by kernel_rfl) (by kernel_rfl) (fun _ _ _ h => h) (Or.inl ⟨by rfl, fun y hy => ?_⟩) hk14 ?_
  rotate_left
  · go_simp; try (with_reducible rfl)
  rotate_left
  go_simp
  refine wpAnyH_take (i := 19) (v := ?_) rfl (by kernel_rfl) (by kernel_rfl) (by kernel_rfl) (fun _ _ _ h => h) (Or.inl ⟨by rfl, fun y hy => ?_⟩) hk14 ?_
  rotate_left
  · go_simp; try (with_reducible rfl)
  rotate_left
  go_simp
  refine wpAnyH_take (i := 20) (v := ?_) rfl (by kernel_rfl) (by kernel_rfl) (by kernel_rfl) (fun _ _ _ h => h) (Or.inl ⟨by rfl, fun y hy => ?_⟩) hk14 ?_
  rotate_left
  · go_simp; try (with_reducible rfl)
  rotate_left
  go_simp
  refine wpAnyH_take (i := 21) (v := ?_) rfl (by kernel_rfl) (by kernel_rfl) (by kernel_rfl) (fun _ _ _ h => h) (Or.inl ⟨by rfl, fun y hy => ?_⟩) hk14 ?_
  rotate_left
  · go_simp; try (with_reducible rfl)
  rotate_left
  go_simp
  refine wpAnyH_take (i := 22) (v := ?_) rfl (by kernel_rfl) (by kernel_rfl) (by kernel_rfl) (fun _ _ _ h => h) (Or.inl ⟨by rfl, fun y hy => ?_⟩) hk14 ?_
  rotate_left
  · go_simp; try (with_reducible rfl)
  rotate_left
  go_simp
  refine wpAnyH_take (i := 23) (v := .agg DK) rfl (by kernel_rfl) (by kernel_rfl) (by kernel_rfl) (fun _ _ _ h => h) (Or.inl ⟨by rfl, fun y hy => exec_load _ _ rfl gk rfl 16 5 Try.underlying29 _ DK (LK y hy) (by rw [HDK.out]; exact blkCells)⟩) hk14 ?_
  go_simp
  refine wpAnyH_ready (rs := [24]) (by kernel_rfl) (by simp) ?_
  refine AllReadyH.cons rfl (fun K hK => ?_) AllReadyH.nil
  apply step_wpG
  · rfl
  refine ow_call _ _ _ (by kernel_rfl) (NK _) ?_
  rintro e W24 ⟨rfl, hs24⟩
  refine ⟨_, rfl, ?_⟩
  replace hp1 := hp1.keep hs24 (by simp)
  have hAT24 := hAT14.keep hs24 (by simp)
  have hk24 : Keep [g] w2 W24 := hk14.trans0 hs24
  clear hs24
  refine hK.out _ _ hk24 (fun _ => ?_)
  clear hK K
  go_simp
  refine wpAnyH_take (i := 25) (v := ?_) rfl (by kernel_rfl) (by kernel_rfl) (by kernel_rfl) (fun _ _ _ h => h) (Or.inl ⟨by rfl, fun y hy => ?_⟩) hk24 ?_
  rotate_left
  · go_simp; try (with_reducible rfl)
  rotate_left
  go_simp
  refine wpAnyH_take (i := 26) (v := ?_) rfl (by kernel_rfl) (by kernel_rfl) (by kernel_rfl) (fun _ _ _ h => h) (Or.inl ⟨by rfl, fun y hy => ?_⟩) hk24 ?_
  rotate_left
  · go_simp; try (with_reducible rfl)
  rotate_left
  go_simp
  refine wpAnyH_take (i := 27) (v := ?_) rfl (by kernel_rfl) (by kernel_rfl) (by kernel_rfl) (fun _ _ _ h => h) (Or.inl ⟨by rfl, fun y hy => ?_⟩) hk24 ?_
  rotate_left
  · go_simp; try (with_reducible rfl)
  rotate_left
  go_simp
  refine wpAnyH_take (i := 28) (v := ?_) rfl (by kernel_rfl) (by kernel_rfl) (by kernel_rfl) (fun _ _ _ h => h) (Or.inl ⟨by rfl, fun y hy => ?_⟩) hk24 ?_
  rotate_left
  · go_simp; try (with_reducible rfl)
  rotate_left
  go_simp
  refine wpAnyH_ready (rs := [29]) (by kernel_rfl) (by simp) ?_
  refine AllReadyH.cons rfl (fun K hK => ?_) AllReadyH.nil
  apply step_wpG
  · rfl
  refine ow_call _ _ _ (by kernel_rfl) (NB _) ?_
  rintro e W29 ⟨rfl, hs29⟩
  refine ⟨_, rfl, ?_⟩
  replace hp1 := hp1.keep hs29 (by simp)
  have hAT29 := hAT24.keep hs29 (by simp)
  have hk29 : Keep [g] w2 W29 := hk24.trans0 hs29
  clear hs29
  refine hK.out _ _ hk29 (fun _ => ?_)
  clear hK K
  go_simp
  refine wpAnyH_take (i := 30) (v := ?_) rfl (by kernel_rfl) (by kernel_rfl) (by kernel_rfl) (fun _ _ _ h => h) (Or.inl ⟨by rfl, fun y hy => ?_⟩) hk29 ?_
  rotate_left
  · go_simp; try (with_reducible rfl)
  rotate_left
  go_simp
  refine wpAnyH_take (i := 31) (v := ?_) rfl (by kernel_rfl) (by kernel_rfl) (by kernel_rfl) (fun _ _ _ h => h) (Or.inl ⟨by rfl, fun y hy => ?_⟩) hk29 ?_
  rotate_left
  · go_simp; try (with_reducible rfl)
  rotate_left
  go_simp
  refine wpAnyH_take (i := 32) (v := ?_) rfl (by kernel_rfl) (by kernel_rfl) (by kernel_rfl) (fun _ _ _ h => h) (Or.inl ⟨by rfl, fun y hy => ?_⟩) hk29 ?_
  rotate_left
  · go_simp; try (with_reducible rfl)
  rotate_left
  go_simp
  refine wpAnyH_take (i := 33) (v := ?_) rfl (by kernel_rfl) (by kernel_rfl) (by kernel_rfl) (fun _ _ _ h => h) (Or.inl ⟨by rfl, fun y hy => ?_⟩) hk29 ?_
  rotate_left
  · go_simp; try (with_reducible rfl)
  rotate_left
  go_simp
  refine wpAnyH_ready (rs := [34]) (by kernel_rfl) (by simp) ?_
  refine AllReadyH.cons rfl (fun K hK => ?_) AllReadyH.nil
  apply step_wpG
  · rfl
  refine ow_call _ _ _ (by kernel_rfl) (ND _) ?_
  rintro e W34 ⟨rfl, hs34⟩
  refine ⟨_, rfl, ?_⟩
  replace hp1 := hp1.keep hs34 (by simp)
  have hAT34 := hAT29.keep hs34 (by simp)
  have hk34 : Keep [g] w2 W34 := hk29.trans0 hs34
  clear hs34
  refine hK.out _ _ hk34 (fun _ => ?_)
  clear hK K
  go_simp
  refine wpAnyH_take (i := 35) (v := ?_) rfl (by kernel_rfl) (by kernel_rfl) (by kernel_rfl) (fun _ _ _ h => h) (Or.inl ⟨by rfl, fun y hy => ?_⟩) hk34 ?_
  rotate_left
  · go_simp; try (with_reducible rfl)
  rotate_left
  go_simp
  refine wpAnyH_take (i := 36) (v := ?_) rfl (by kernel_rfl) (by kernel_rfl) (by kernel_rfl) (fun _ _ _ h => h) (Or.inl ⟨by rfl, fun y hy => ?_⟩) hk34 ?_
  rotate_left
  · go_simp; try (with_reducible rfl)
  rotate_left
  go_simp
  refine wpAnyH_take (i := 37) (v := ?_) rfl (by kernel_rfl) (by kernel_rfl) (by kernel_rfl) (fun _ _ _ h => h) (Or.inl ⟨by rfl, fun y hy => ?_⟩) hk34 ?_
  rotate_left
  · go_simp; try (with_reducible rfl)
  rotate_left
  go_simp
  refine wpAnyH_take (i := 38) (v := ?_) rfl (by kernel_rfl) (by kernel_rfl) (by kernel_rfl) (fun _ _ _ h => h) (Or.inl ⟨by rfl, fun y hy => ?_⟩) hk34 ?_
  rotate_left
  · go_simp; try (with_reducible rfl)
  rotate_left
  go_simp
  refine wpAnyH_take (i := 39) (v := .agg DB) rfl (by kernel_rfl) (by kernel_rfl) (by kernel_rfl) (fun _ _ _ h => h) (Or.inl ⟨by rfl, fun y hy => exec_load _ _ rfl gb rfl 16 5 Try.underlying29 _ DB (LB y hy) (by rw [HDB.out]; exact blkCells)⟩) hk34 ?_
  go_simp
  refine wpAnyH_take (i := 41) (v := ?_) rfl (by kernel_rfl) (by kernel_rfl) (by kernel_rfl) (fun _ _ _ h => h) (Or.inl ⟨by rfl, fun y hy => ?_⟩) hk34 ?_
  rotate_left
  · go_simp; try (with_reducible rfl)
  rotate_left
  go_simp
  refine wpAnyH_ready (rs := [40]) (by kernel_rfl) (by simp) ?_
  refine AllReadyH.cons rfl (fun K hK => ?_) AllReadyH.nil
  apply step_wpG
  · rfl
  refine ow_call _ _ _ (by kernel_rfl) (NT _) ?_
  rintro e W40 ⟨rfl, hs40⟩
  refine ⟨_, rfl, ?_⟩
  replace hp1 := hp1.keep hs40 (by simp)
  have hAT40 := hAT34.keep hs40 (by simp)
  have hk40 : Keep [g] w2 W40 := hk34.trans0 hs40
  clear hs40
  refine hK.out _ _ hk40 (fun _ => ?_)
  clear hK K
  go_simp
  refine wpAnyH_take (i := 42) (v := ?_) rfl (by kernel_rfl) (by kernel_rfl) (by kernel_rfl) (fun _ _ _ h => h) (Or.inl ⟨by rfl, fun y hy => ?_⟩) hk40 ?_
  rotate_left
  · go_simp; try (with_reducible rfl)
  rotate_left
  go_simp
  refine wpAnyH_take (i := 43) (v := ?_) rfl (by kernel_rfl) (by kernel_rfl) (by kernel_rfl) (fun _ _ _ h => h) (Or.inl ⟨by rfl, fun y hy => ?_⟩) hk40 ?_
  rotate_left
  · go_simp; try (with_reducible rfl)
  rotate_left
  go_simp
  refine wpAnyH_take (i := 44) (v := ?_) rfl (by kernel_rfl) (by kernel_rfl) (by kernel_rfl) (fun _ _ _ h => h) (Or.inl ⟨by rfl, fun y hy => ?_⟩) hk40 ?_
  rotate_left
  · go_simp; try (with_reducible rfl)
  rotate_left
  go_simp
  exact wpAnyH_done (by kernel_rfl) (hR.out _ _ ⟨rfl, rfl, rfl, trivial⟩ hk40) _

end Go.Proofs.Ytpjkicbfdknjcaa
