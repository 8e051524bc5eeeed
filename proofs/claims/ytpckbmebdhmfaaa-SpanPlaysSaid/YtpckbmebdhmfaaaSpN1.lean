/-
  The landed span: what a nil set answers; most, a range that is empty, the four things that are looked for; the search.
-/
import Derived.Test.YtpckbmebdhmfaaaSpM
import Derived.Test.YtpckbmebdhmfaaaSpanR
import Derived.Laws.EntriesVeiled
namespace Go.Proofs.Ytpckbmebdhmfaaa
open Go.RowKit

theorem setN : Try.prog.underlying 42 = some (.slice 26) := by kernel_rfl
theorem rng2 : (Try.prog.info? 26).map (·.size) = some 2 := by kernel_rfl
theorem rngI : (Try.prog.info? 26).map (fun i => (i.zero, i.size, i.bytes)) = some (some (.agg #[.int .u64 0, .int .u64 0]), 2, 16) := by kernel_rfl
theorem rngU : ∃ d, Try.prog.underlying 26 = some d ∧ d.isRow = true := ⟨_, Try.underlying26, rfl⟩
theorem rngZ : ∀ w, (zeroValue 26).run Try.prog w = .ok (.agg #[.int .u64 0, .int .u64 0]) w := fun w => by
  obtain ⟨i, hi, hz, _, _⟩ := info_parts rngI
  simp [zeroValue, typeInfo, hi, hz]
theorem rngS : ∀ w, (Go.sizeOf 26).run Try.prog w = .ok 2 w := fun w => by
  obtain ⟨i, hi, _, hs, _⟩ := info_parts rngI
  simp [Go.sizeOf, typeInfo, hi, hs]
theorem pv_eq (x : Nat × Nat) : pv x = .agg (pc x).toArray := rfl
theorem ld_pv (w : World) (b off : Nat) (x : Nat × Nat) (h0 : w.cell? ⟨b, off, none⟩ = some (.int .u64 (x.1 : Nat))) (h1 : w.cell? ⟨b, off + 1, none⟩ = some (.int .u64 (x.2 : Nat))) : (loadVar 26 ⟨b, off, none⟩).run Try.prog w = .ok (pv x) w := by
  obtain ⟨d, hu, hd⟩ := rngU
  refine run_loadVar_mid w b off _ (pc x) d (fun j v hv => ?_) hu hd rng2
  rcases j with _ | _ | j
  · rw [Nat.add_zero, h0]; exact hv
  · rw [Nat.zero_add, h1]; exact hv
  · cases hv
theorem res_row_tmp {fn : Func} {p u : Tmp} (h : fn.results = #[.cell p 26, .tmp u]) (tmps : Array Value) (w : World) (g : Nat) (x : Nat × Nat) (hp : tmps.getD p undef = .pointer (some ⟨g, 0, none⟩)) (b : Value) (hb : tmps.getD u undef = b) (h0 : w.cell? ⟨g, 0, none⟩ = some (.int .u64 (x.1 : Nat))) (h1 : w.cell? ⟨g, 1, none⟩ = some (.int .u64 (x.2 : Nat))) :
    (results fn tmps).run Try.prog w = .ok (.tuple #[pv x, b]) w := by
  rw [results_cell_tmp h, hp, hb]
  simp [asAddr, ld_pv w g 0 x h0 h1, Result.andThen]
theorem res_tmp_tmp_row {fn : Func} {p u v : Tmp} (h : fn.results = #[.tmp u, .tmp v, .cell p 26]) (tmps : Array Value) (w : World) (g : Nat) (x : Nat × Nat) (hp : tmps.getD p undef = .pointer (some ⟨g, 0, none⟩)) (b c : Value) (hb : tmps.getD u undef = b) (hc : tmps.getD v undef = c) (h0 : w.cell? ⟨g, 0, none⟩ = some (.int .u64 (x.1 : Nat))) (h1 : w.cell? ⟨g, 1, none⟩ = some (.int .u64 (x.2 : Nat))) :
    (results fn tmps).run Try.prog w = .ok (.tuple #[b, c, pv x]) w := by
  simp only [results, h]
  simp only [List.mapM_toArray, List.mapM_cons, List.mapM_nil]
  rw [hp, hb, hc]
  simp [asAddr, ld_pv w g 0 x h0 h1, Sem.run_bind, Result.andThen]

theorem Blk.put2 {w : World} {g t : Nat} {a b : Value} (h : Blk w g t #[a, b]) (u v : Value) : Blk ((w.setCell ⟨g, 0, none⟩ u).setCell ⟨g, 1, none⟩ v) g t #[u, v] := by
  have := (h.set_ 0 u).set_ 1 v
  simpa using this

section
variable (w : World)
set_option maxRecDepth 100000
set_option maxHeartbeats 1000000
theorem lenN_any : Calls Try.prog 19 #[.pointer none] w fun e w' => e = .returned (.int .i64 0) ∧ Keep [] w w' := by
  go_enter Try.func19, Try.ntmps19
  go_wp2
  go_ret
  exact ⟨rfl, Keep.refl _ _⟩
theorem listN_any : Calls Try.prog 18 #[.pointer none] w fun e w' => ∃ A c, e = .returned (.slice A 0 c) ∧ Keep [] w w' := by
  go_enter Try.func18, Try.ntmps18
  go_wp2
  go_ret
  exact ⟨_, _, rfl, Keep.refl _ _⟩
theorem countN_any : Calls Try.prog 21 #[.pointer none] w fun e w' => e = .returned (.int .u64 0) ∧ Keep [] w w' := by
  go_enter Try.func21, Try.ntmps21
  go_wp2
  go_ret
  exact ⟨rfl, Keep.refl _ _⟩
theorem copyN_any : Calls Try.prog 10 #[.pointer none] w fun e w' => e = .returned (.pointer none) ∧ Keep [] w w' := by
  go_enter Try.func10, Try.ntmps10
  go_wp2
  go_ret
  exact ⟨rfl, Keep.refl _ _⟩
theorem firstN_any (n : Int) : Calls Try.prog 24 #[.pointer none, .int .u64 n] w fun e w' => e = .returned (.tuple #[pv (0, 0), .bool false]) ∧ Keep [] w w' := by
  go_enter Try.func24, Try.ntmps24
  go_wp2
  refine bodyPost_ret (v := .tuple #[pv (0, 0), .bool false]) ?_ rfl ⟨rfl, ((Keep.refl _ _).alloc _).alloc _⟩
  exact res_row_tmp Try.results24 _ _ (w.heap.size + 1) (0, 0) rfl _ rfl (by simp) (by simp)
theorem covN_any (r : Nat × Nat) : Calls Try.prog 22 #[.pointer none, pv r] w fun e w' => e = .returned (.bool false) ∧ Keep [] w w' := by
  obtain ⟨a, b⟩ := r
  show Calls Try.prog 22 #[.pointer none, .agg #[.int .u64 (a : Nat), .int .u64 (b : Nat)]] w _
  go_enter Try.func22, Try.ntmps22
  go_wp2
  go_ret
  exact ⟨rfl, ((Keep.refl _ _).alloc _)⟩
theorem addN_any (r : Nat × Nat) : Calls Try.prog 13 #[.pointer none, pv r] w fun e w' => e = .returned (.int .i64 1) ∧ Keep [] w w' := by
  obtain ⟨a, b⟩ := r
  show Calls Try.prog 13 #[.pointer none, .agg #[.int .u64 (a : Nat), .int .u64 (b : Nat)]] w _
  go_enter Try.func13, Try.ntmps13
  go_wp2
  go_ret
  exact ⟨rfl, ((Keep.refl _ _).alloc _)⟩
theorem cutN_any (r : Nat × Nat) : Calls Try.prog 16 #[.pointer none, pv r] w fun e w' => e = .returned (.int .i64 1) ∧ Keep [] w w' := by
  obtain ⟨a, b⟩ := r
  show Calls Try.prog 16 #[.pointer none, .agg #[.int .u64 (a : Nat), .int .u64 (b : Nat)]] w _
  go_enter Try.func16, Try.ntmps16
  go_wp2
  go_ret
  exact ⟨rfl, ((Keep.refl _ _).alloc _)⟩
theorem lastN_any (r : Nat × Nat) : Calls Try.prog 14 #[.pointer none, pv r] w fun e w' => e = .returned (.int .i64 0) ∧ Keep [] w w' := by
  obtain ⟨a, b⟩ := r
  show Calls Try.prog 14 #[.pointer none, .agg #[.int .u64 (a : Nat), .int .u64 (b : Nat)]] w _
  go_enter Try.func14, Try.ntmps14
  go_wp2
  go_ret
  exact ⟨rfl, ((Keep.refl _ _).alloc _)⟩
theorem topN_any : Calls Try.prog 20 #[.pointer none] w fun e w' => e = .returned (.tuple #[pv (0, 0), .bool false]) ∧ Keep [] w w' := by
  have HL := fun w => Lib.hid (lenN_any w)
  go_enter Try.func20, Try.ntmps20
  go_wp2_with (go_at_call 19; with_reducible refine (HL _).out.mono ?_; rintro e w1 ⟨rfl, hk1⟩; have hB1 := (Blk.new w 26 #[.int .u64 0, .int .u64 0]).keep hk1 (by simp); have c0 := hB1.cell 0; have c1 := hB1.cell 1; have f0 := hB1.frozen 0; have f1 := hB1.frozen 1; have HK := Lib.hid (((Keep.refl [] w).alloc _).trans hk1); have HB := Lib.hid hB1; clear hk1 hB1; simp at c0 c1)
  refine bodyPost_ret (v := .tuple #[pv (0, 0), .bool false]) ?_ rfl ⟨rfl, ?_⟩
  · exact res_row_tmp Try.results20 _ _ w.heap.size (0, 0) rfl _ rfl (by rw [(HB.out.put2 _ _).cell]; rfl) (by rw [(HB.out.put2 _ _).cell]; rfl)
  · exact (HK.out.setCell (p := ⟨w.heap.size, 0, none⟩) (.inr (Nat.le_refl _)) _).setCell (p := ⟨w.heap.size, 1, none⟩) (.inr (Nat.le_refl _)) _
theorem hasN_any (n : Int) : Calls Try.prog 25 #[.pointer none, .int .u64 n] w fun e w' => e = .returned (.bool false) ∧ Keep [] w w' := by
  have HF : ∀ w, Hid (Calls Try.prog 24 #[.pointer none, .int .u64 n] w fun e w' => e = .returned (.tuple #[.agg #[.int .u64 0, .int .u64 0], .bool false]) ∧ Keep [] w w') := fun w => Lib.hid (firstN_any w n)
  go_enter Try.func25, Try.ntmps25
  go_wp2_with (go_at_call 24; with_reducible refine (HF _).out.mono ?_; rintro e w1 ⟨rfl, hk1⟩; have HK := Lib.hid hk1; clear hk1)
  go_ret
  exact ⟨rfl, HK.out.alloc _⟩
theorem most_any {s : Nat} {lim : Int} {v : Value} (hB : Blk w s 58 #[.int .i64 lim, v]) (hl : (Lit.int .i64 lim).wf = true) :
    Calls Try.prog 32 #[.pointer (some ⟨s, 0, none⟩)] w fun e w' => e = .returned (.int .i64 (max lim 1)) ∧ w' = w := by
  have c0 : w.cell? ⟨s, 0, none⟩ = some (.int .i64 lim) := hB.cell 0
  have bl := wf_i64 hl
  go_enter Try.func32, Try.ntmps32
  go_wp2
  go_ret
  exact ⟨rfl, rfl⟩
theorem empty_any (x : Nat × Nat) (h1 : x.1 < 18446744073709551616) (h2 : x.2 < 18446744073709551616) :
    Calls Try.prog 28 #[pv x] w fun e w' => e = .returned (.bool (decide (x.2 ≤ x.1))) ∧ Keep [] w w' := by
  obtain ⟨a, b⟩ := x
  have b1 := u64_lt h1
  have b2 := u64_lt h2
  simp only at b1 b2
  show Calls Try.prog 28 #[.agg #[.int .u64 (a : Nat), .int .u64 (b : Nat)]] w _
  by_cases h : b ≤ a
  · have hz : (b : Int) ≤ (a : Int) := by omega
    go_enter Try.func28, Try.ntmps28
    go_wp2
    go_ret
    exact ⟨by simp [h], (Keep.refl _ _).alloc _⟩
  · have hz : ¬ (b : Int) ≤ (a : Int) := by omega
    go_enter Try.func28, Try.ntmps28
    go_wp2
    go_ret
    exact ⟨by simp [h], (Keep.refl _ _).alloc _⟩
theorem p35_any (x r : Nat × Nat) (G : Nat) (hB : Blk w G 26 (pc r).toArray) (h1 : x.1 < 18446744073709551616) (h2 : x.2 < 18446744073709551616) (h3 : r.1 < 18446744073709551616) (h4 : r.2 < 18446744073709551616) :
    Calls Try.prog 35 #[pv x, .pointer (some ⟨G, 0, none⟩)] w fun e w' => e = .returned (.bool (decide (r.1 < x.2))) ∧ Keep [] w w' := by
  obtain ⟨a, b⟩ := x
  obtain ⟨c1, c2⟩ := hB.pair
  have g1 := fun o => Lib.cell?_alloc_some (W := w) o c1
  clear c1 c2 hB
  obtain ⟨c, d⟩ := r
  have b2 := u64_lt h2
  have b3 := u64_lt h3
  simp only at b2 b3 g1
  show Calls Try.prog 35 #[.agg #[.int .u64 (a : Nat), .int .u64 (b : Nat)], .pointer (some ⟨G, 0, none⟩)] w _
  by_cases h : c < b
  · have hz : (c : Int) < (b : Int) := by omega
    go_enter Try.func35, Try.ntmps35
    go_wp2
    go_ret
    exact ⟨by simp [h], (Keep.refl _ _).alloc _⟩
  · have hz : ¬ (c : Int) < (b : Int) := by omega
    go_enter Try.func35, Try.ntmps35
    go_wp2
    go_ret
    exact ⟨by simp [h], (Keep.refl _ _).alloc _⟩
theorem p36_any (x r : Nat × Nat) (G : Nat) (hB : Blk w G 26 (pc r).toArray) (h1 : x.1 < 18446744073709551616) (h2 : x.2 < 18446744073709551616) (h3 : r.1 < 18446744073709551616) (h4 : r.2 < 18446744073709551616) :
    Calls Try.prog 36 #[pv x, .pointer (some ⟨G, 0, none⟩)] w fun e w' => e = .returned (.bool (decide (r.2 ≤ x.1))) ∧ Keep [] w w' := by
  obtain ⟨a, b⟩ := x
  obtain ⟨c1, c2⟩ := hB.pair
  have g1 := fun o => Lib.cell?_alloc_some (W := w) o c2
  clear c1 c2 hB
  obtain ⟨c, d⟩ := r
  have b2 := u64_lt h1
  have b3 := u64_lt h4
  simp only at b2 b3 g1
  show Calls Try.prog 36 #[.agg #[.int .u64 (a : Nat), .int .u64 (b : Nat)], .pointer (some ⟨G, 0, none⟩)] w _
  by_cases h : d ≤ a
  · have hz : (d : Int) ≤ (a : Int) := by omega
    go_enter Try.func36, Try.ntmps36
    go_wp2
    go_ret
    exact ⟨by simp [h], (Keep.refl _ _).alloc _⟩
  · have hz : ¬ (d : Int) ≤ (a : Int) := by omega
    go_enter Try.func36, Try.ntmps36
    go_wp2
    go_ret
    exact ⟨by simp [h], (Keep.refl _ _).alloc _⟩
theorem p39_any (x r : Nat × Nat) (G : Nat) (hB : Blk w G 26 (pc r).toArray) (h1 : x.1 < 18446744073709551616) (h2 : x.2 < 18446744073709551616) (h3 : r.1 < 18446744073709551616) (h4 : r.2 < 18446744073709551616) :
    Calls Try.prog 39 #[pv x, .pointer (some ⟨G, 0, none⟩)] w fun e w' => e = .returned (.bool (decide (r.1 ≤ x.2))) ∧ Keep [] w w' := by
  obtain ⟨a, b⟩ := x
  obtain ⟨c1, c2⟩ := hB.pair
  have g1 := fun o => Lib.cell?_alloc_some (W := w) o c1
  clear c1 c2 hB
  obtain ⟨c, d⟩ := r
  have b2 := u64_lt h2
  have b3 := u64_lt h3
  simp only at b2 b3 g1
  show Calls Try.prog 39 #[.agg #[.int .u64 (a : Nat), .int .u64 (b : Nat)], .pointer (some ⟨G, 0, none⟩)] w _
  by_cases h : c ≤ b
  · have hz : (c : Int) ≤ (b : Int) := by omega
    go_enter Try.func39, Try.ntmps39
    go_wp2
    go_ret
    exact ⟨by simp [h], (Keep.refl _ _).alloc _⟩
  · have hz : ¬ (c : Int) ≤ (b : Int) := by omega
    go_enter Try.func39, Try.ntmps39
    go_wp2
    go_ret
    exact ⟨by simp [h], (Keep.refl _ _).alloc _⟩
theorem p40_any (x r : Nat × Nat) (G : Nat) (hB : Blk w G 26 (pc r).toArray) (h1 : x.1 < 18446744073709551616) (h2 : x.2 < 18446744073709551616) (h3 : r.1 < 18446744073709551616) (h4 : r.2 < 18446744073709551616) :
    Calls Try.prog 40 #[pv x, .pointer (some ⟨G, 0, none⟩)] w fun e w' => e = .returned (.bool (decide (r.2 < x.1))) ∧ Keep [] w w' := by
  obtain ⟨a, b⟩ := x
  obtain ⟨c1, c2⟩ := hB.pair
  have g1 := fun o => Lib.cell?_alloc_some (W := w) o c2
  clear c1 c2 hB
  obtain ⟨c, d⟩ := r
  have b2 := u64_lt h1
  have b3 := u64_lt h4
  simp only at b2 b3 g1
  show Calls Try.prog 40 #[.agg #[.int .u64 (a : Nat), .int .u64 (b : Nat)], .pointer (some ⟨G, 0, none⟩)] w _
  by_cases h : d < a
  · have hz : (d : Int) < (a : Int) := by omega
    go_enter Try.func40, Try.ntmps40
    go_wp2
    go_ret
    exact ⟨by simp [h], (Keep.refl _ _).alloc _⟩
  · have hz : ¬ (d : Int) < (a : Int) := by omega
    go_enter Try.func40, Try.ntmps40
    go_wp2
    go_ret
    exact ⟨by simp [h], (Keep.refl _ _).alloc _⟩
theorem p38_any (x : Nat × Nat) (n G : Nat) (hB : Blk w G 24 #[.int .u64 n]) (h1 : x.1 < 18446744073709551616) (h2 : x.2 < 18446744073709551616) (h3 : n < 18446744073709551616) :
    Calls Try.prog 38 #[pv x, .pointer (some ⟨G, 0, none⟩)] w fun e w' => e = .returned (.bool (decide (n < x.2))) ∧ Keep [] w w' := by
  obtain ⟨a, b⟩ := x
  have c1 : w.cell? ⟨G, 0, none⟩ = some (.int .u64 n) := hB.cell 0
  have g1 := fun o => Lib.cell?_alloc_some (W := w) o c1
  clear c1 hB
  have b2 := u64_lt h2
  have b3 := u64_lt h3
  simp only at b2 b3 g1
  show Calls Try.prog 38 #[.agg #[.int .u64 (a : Nat), .int .u64 (b : Nat)], .pointer (some ⟨G, 0, none⟩)] w _
  by_cases h : n < b
  · have hz : (n : Int) < (b : Int) := by omega
    go_enter Try.func38, Try.ntmps38
    go_wp2
    go_ret
    exact ⟨by simp [h], (Keep.refl _ _).alloc _⟩
  · have hz : ¬ (n : Int) < (b : Int) := by omega
    go_enter Try.func38, Try.ntmps38
    go_wp2
    go_ret
    exact ⟨by simp [h], (Keep.refl _ _).alloc _⟩
theorem search_any (n : Nat) (g : Nat) (lb : Array Value) (p : Nat → Bool) (hn : n ≤ 1000000) (eg : ∀ args w, (callFunc g args).run Try.prog w = .ok (.enter g args) w)
    (hp : ∀ W i, Keep [] w W → i < n → Calls Try.prog g (#[.int .i64 (i : Nat)] ++ lb) W fun e W' => e = .returned (.bool (p i)) ∧ Keep [] W W') (hm : ∀ i j, i ≤ j → j < n → p i = true → p j = true) :
    Calls Try.prog 45 #[.int .i64 (n : Nat), .func (.func g) #[] lb] w fun e w' => ∃ k : Nat, e = .returned (.int .i64 (k : Nat)) ∧ k ≤ n ∧ (∀ i, i < k → p i = false) ∧ (k < n → p k = true) ∧ Keep [] w w' := by
  have HP := Lib.hid hp
  have HM := Lib.hid hm
  clear hp hm
  go_enter Try.func45, Try.ntmps45
  go_wp2_with fail
  go_loopw [5, 6, 7] (fun s5 s6 s7 wr => ∃ i j : Nat, i ≤ j ∧ j ≤ n ∧ s5 = .int .i64 i ∧ s6 = .int .i64 j ∧ Keep [] w wr ∧ (∀ k, k < i → p k = false) ∧ (j < n → p j = true)) (fun s5 s6 _ _ => (intOf s6).toNat - (intOf s5).toNat)
  case atStart => exact ⟨0, n, by omega, by omega, rfl, rfl, Keep.refl _ _, (fun k hk => absurd hk (Nat.not_lt_zero _)), fun h => absurd h (Nat.lt_irrefl _)⟩
  case round =>
    obtain ⟨i, j, hij, hj, rfl, rfl, hk, hlo, hhi⟩ := hrel
    have HK := Lib.hid hk
    have HL := Lib.hid hlo
    have HH := Lib.hid hhi
    clear hk hlo hhi
    by_cases hlt : i < j
    · have hltz : (i : Int) < (j : Int) := by omega
      obtain ⟨h, hh⟩ : ∃ h : Nat, h = (i + j) / 2 := ⟨_, rfl⟩
      have HZ := Lib.hid (show ((i : Int) + (j : Int)) / 2 = ((h : Nat) : Int) by omega)
      have HP2 := Lib.hid (HP.out wr h HK.out (by omega))
      cases hq : p h with
      | true =>
        rw [hq] at HP2
        go_wp2_with (go_at_fn g; rw [HZ.out]; with_reducible refine HP2.out.mono ?_; rintro e w1 ⟨rfl, hk1⟩; have HK1 := Lib.hid (HK.out.trans hk1); clear hk1)
        exact ⟨⟨i, h, by omega, by omega, rfl, by rw [HZ.out], HK1.out, HL.out, fun _ => hq⟩, by simp only [intOf]; omega⟩
      | false =>
        rw [hq] at HP2
        go_wp2_with (go_at_fn g; rw [HZ.out]; with_reducible refine HP2.out.mono ?_; rintro e w1 ⟨rfl, hk1⟩; have HK1 := Lib.hid (HK.out.trans hk1); clear hk1)
        have HLo : ∀ k, k < h + 1 → p k = false := fun k hk => by
          cases hpk : p k with
          | false => rfl
          | true => rw [HM.out k h (by omega) (by omega) hpk] at hq; cases hq
        exact ⟨⟨h + 1, j, by omega, by omega, by rw [HZ.out]; rfl, rfl, HK1.out, HLo, HH.out⟩, by simp only [intOf]; omega⟩
    · obtain rfl : i = j := by omega
      have hltz : ¬ (i : Int) < (i : Int) := by omega
      go_wp2_with fail
      go_ret
      exact ⟨i, rfl, hj, HL.out, HH.out, HK.out⟩
end
end Go.Proofs.Ytpckbmebdhmfaaa
