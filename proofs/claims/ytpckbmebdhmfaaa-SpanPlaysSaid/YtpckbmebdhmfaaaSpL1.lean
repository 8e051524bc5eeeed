/-
  The landed span: joined: between which places a range goes, and what it grows to.
-/
import Derived.Test.YtpckbmebdhmfaaaSpN6
namespace Go.Proofs.Ytpckbmebdhmfaaa
open Go.RowKit
section
variable (w : World)
set_option maxRecDepth 100000
set_option maxHeartbeats 4000000
theorem joined_any {s : Nat} {lim : Int} {v : Value} {l : List (Nat × Nat)} (r : Nat × Nat) (hB : Blk w s 58 #[.int .i64 lim, v]) (hv : S2 w v l) (hN : Span.Nrm l) (hn : l.length ≤ 1000000) (h1 : r.1 < 18446744073709551616) (h2 : r.2 < 18446744073709551616) :
    Calls Try.prog 29 #[.pointer (some ⟨s, 0, none⟩), pv r] w fun e w' => e = .returned (.tuple #[.int .i64 ((Span.fi (fun x => decide (r.1 ≤ x.2)) l : Nat) : Int), .int .i64 ((Span.fi (fun x => decide (r.2 < x.1)) l : Nat) : Int), pv (Span.whole l r (Span.fi (fun x => decide (r.1 ≤ x.2)) l) (Span.fi (fun x => decide (r.2 < x.1)) l))]) ∧ Keep [] w w' := by
  have HB := Lib.hid hB
  have HL := Lib.hid hv
  have HP := Lib.hid hv.p64
  have e1 := enters_of Try.func39 (by kernel_rfl) rfl
  have e2 := enters_of Try.func40 (by kernel_rfl) rfl
  have FI : Hid (∀ W G, Keep [] w W → Blk W G 26 (pc r).toArray → Calls Try.prog 34 #[.pointer (some ⟨s, 0, none⟩), .func (.func 39) #[] #[.pointer (some ⟨G, 0, none⟩)]] W fun e w' => e = .returned (.int .i64 ((Span.fi (fun x => decide (r.1 ≤ x.2)) l : Nat) : Int)) ∧ Keep [] W w') := by
    intro W G hW hG
    refine find_any W (fun x => decide (r.1 ≤ x.2)) (HB.out.keep hW (by simp)) (HL.out.keep0 hW) hn e1 (fun W' x hk hx => ?_) (fun i j a1 a2 a3 => hN.rise (fun x => decide (r.1 ≤ x.2)) (fun x y b1 b2 b3 b4 => ?_) i j a1 a2 a3)
    · exact p39_any W' x r G (hG.keep hk (by simp)) (HP.out x hx).1 (HP.out x hx).2 h1 h2
    · simp only [decide_eq_true_eq] at b4 ⊢; omega
  have FJ : Hid (∀ W G, Keep [] w W → Blk W G 26 (pc r).toArray → Calls Try.prog 34 #[.pointer (some ⟨s, 0, none⟩), .func (.func 40) #[] #[.pointer (some ⟨G, 0, none⟩)]] W fun e w' => e = .returned (.int .i64 ((Span.fi (fun x => decide (r.2 < x.1)) l : Nat) : Int)) ∧ Keep [] W w') := by
    intro W G hW hG
    refine find_any W (fun x => decide (r.2 < x.1)) (HB.out.keep hW (by simp)) (HL.out.keep0 hW) hn e2 (fun W' x hk hx => ?_) (fun i j a1 a2 a3 => hN.rise (fun x => decide (r.2 < x.1)) (fun x y b1 b2 b3 b4 => ?_) i j a1 a2 a3)
    · exact p40_any W' x r G (hG.keep hk (by simp)) (HP.out x hx).1 (HP.out x hx).2 h1 h2
    · simp only [decide_eq_true_eq] at b4 ⊢; omega
  obtain ⟨i, hi⟩ : ∃ i, i = Span.fi (fun x => decide (r.1 ≤ x.2)) l := ⟨_, rfl⟩
  obtain ⟨j, hj⟩ : ∃ j, j = Span.fi (fun x => decide (r.2 < x.1)) l := ⟨_, rfl⟩
  have hil := Span.fi_le (fun x => decide (r.1 ≤ x.2)) l
  have hjl := Span.fi_le (fun x => decide (r.2 < x.1)) l
  rw [← hi] at FI hil ⊢
  rw [← hj] at FJ hjl ⊢
  obtain ⟨y, hy⟩ : ∃ y, y = Span.whole l r i j := ⟨_, rfl⟩
  have HY := Lib.hid hy
  rw [← hy]
  clear hi hj e1 e2 hB hN hy
  obtain ⟨ra, rb⟩ := r
  simp only at h1 h2
  have FI2 : Hid (∀ W G, Keep [] w W → Blk W G 26 #[.int .u64 (ra : Nat), .int .u64 (rb : Nat)] → Calls Try.prog 34 #[.pointer (some ⟨s, 0, none⟩), .func (.func 39) #[] #[.pointer (some ⟨G, 0, none⟩)]] W fun e w' => e = .returned (.int .i64 (i : Nat)) ∧ Keep [] W w') := FI
  have FJ2 : Hid (∀ W G, Keep [] w W → Blk W G 26 #[.int .u64 (ra : Nat), .int .u64 (rb : Nat)] → Calls Try.prog 34 #[.pointer (some ⟨s, 0, none⟩), .func (.func 40) #[] #[.pointer (some ⟨G, 0, none⟩)]] W fun e w' => e = .returned (.int .i64 (j : Nat)) ∧ Keep [] W w') := FJ
  clear FI FJ
  have b1 := u64_lt h1
  have b2 := u64_lt h2
  show Calls Try.prog 29 #[.pointer (some ⟨s, 0, none⟩), .agg #[.int .u64 (ra : Nat), .int .u64 (rb : Nat)]] w _
  obtain ⟨n, hnl⟩ : ∃ n, n = l.length := ⟨_, rfl⟩
  have HN := Lib.hid hnl
  obtain ⟨A, c, rfl, hc1, hc2, -, -⟩ := hv
  rw [← hnl] at hil hjl hn hc1 HB HL
  clear hnl
  go_enter Try.func29, Try.ntmps29
  go_upto_region 3 with (first
    | (go_at_call 34; with_reducible refine (FI2.out _ w.heap.size (((Keep.refl [] w).alloc _).alloc _) ((Blk.new w 26 #[.int .u64 (ra : Nat), .int .u64 (rb : Nat)]).alloc _)).mono ?_; rintro e w1 ⟨rfl, hk1⟩; have HK1 := Lib.hid ((((Keep.refl [] w).alloc _).alloc _).trans hk1); have HR := Lib.hid ((Blk.new (w.alloc (.cells #[.int .u64 (ra : Nat), .int .u64 (rb : Nat)] 26)) 26 #[.int .u64 0, .int .u64 0]).keep hk1 (by simp)); have HG := Lib.hid (((Blk.new w 26 #[.int .u64 (ra : Nat), .int .u64 (rb : Nat)]).alloc _).keep hk1 (by simp)); clear hk1)
    | (go_at_call 34; with_reducible refine (FJ2.out _ w.heap.size HK1.out HG.out).mono ?_; rintro e w2 ⟨rfl, hk2⟩; have HK2 := Lib.hid (HK1.out.trans hk2); have HR2 := Lib.hid (HR.out.keep hk2 (by simp)); have HG2 := Lib.hid (HG.out.keep hk2 (by simp)); clear hk2))
  obtain ⟨G0, hG0⟩ : ∃ G0, G0 = w.heap.size := ⟨_, rfl⟩
  obtain ⟨G1, hG1⟩ : ∃ G1, G1 = w.heap.size + 1 := ⟨_, rfl⟩
  have HB0 : Hid (Blk w2 G0 26 #[.int .u64 (ra : Nat), .int .u64 (rb : Nat)]) := by rw [hG0]; exact HG2
  have HB1 : Hid (Blk w2 G1 26 #[.int .u64 0, .int .u64 0]) := Lib.hid (by rw [hG1]; simpa using HR2.out)
  have HGk := Lib.hid (show w.heap.size ≤ G0 ∧ w.heap.size ≤ G1 ∧ G0 ≠ G1 from ⟨by omega, by omega, by omega⟩)
  have g0 : w2.cell? ⟨G0, 0, none⟩ = some (.int .u64 (ra : Nat)) := HB0.out.cell 0
  have g1 : w2.cell? ⟨G0, 1, none⟩ = some (.int .u64 (rb : Nat)) := HB0.out.cell 1
  have gf0 := HB0.out.frozen 0
  have gf1 := HB0.out.frozen 1
  have r0 : w2.cell? ⟨G1, 0, none⟩ = some (.int .u64 0) := HB1.out.cell 0
  have r1 : w2.cell? ⟨G1, 1, none⟩ = some (.int .u64 0) := HB1.out.cell 1
  have rf0 := HB1.out.frozen 0
  have rf1 := HB1.out.frozen 1
  have s1 : w2.cell? ⟨s, 1, none⟩ = some (.slice A n c) := (HB.out.keep HK2.out (by simp)).cell 1
  rw [← hG1, ← hG0]
  by_cases hij : i < j
  · have hnl := HN.out
    obtain ⟨b, off, c', he, -, -, hblt, hcell⟩ := HL.out.cells (by omega)
    simp only [Value.slice.injEq] at he
    obtain ⟨rfl, -, rfl⟩ := he
    obtain ⟨k, rfl⟩ : ∃ k, j = k + 1 := ⟨j - 1, by omega⟩
    obtain ⟨x1, x2⟩ := hcell i (by omega)
    obtain ⟨z1, z2⟩ := hcell k (by omega)
    have HYY := Lib.hid (show y = (min ra (l.getD i (0, 0)).1, max rb (l.getD k (0, 0)).2) by rw [HY.out, Span.whole, if_pos hij]; rfl)
    have hx := HP.out.getD i
    have hz := HP.out.getD k
    obtain ⟨x, hxx⟩ : ∃ x, x = l.getD i (0, 0) := ⟨_, rfl⟩
    obtain ⟨z, hzz⟩ : ∃ z, z = l.getD k (0, 0) := ⟨_, rfl⟩
    rw [← hxx] at x1 x2 HYY hx
    rw [← hzz] at z1 z2 HYY hz
    obtain ⟨xa, xb⟩ := x
    obtain ⟨za, zb⟩ := z
    simp only at x1 x2 z1 z2 HYY hx hz
    have x1' : w2.cell? ⟨b, off + i * 2, none⟩ = some (.int .u64 (xa : Nat)) := (HK2.out.cell (p := ⟨b, off + i * 2, none⟩) hblt (by simp)).trans x1
    have z2' : w2.cell? ⟨b, off + k * 2 + 1, none⟩ = some (.int .u64 (zb : Nat)) := (HK2.out.cell (p := ⟨b, off + k * 2 + 1, none⟩) hblt (by simp)).trans z2
    have bi : (0 : Int) ≤ i ∧ (i : Int) < n ∧ (k : Int) < n ∧ (0 : Int) ≤ k ∧ (i : Int) < (k : Int) + 1 := ⟨by omega, by omega, by omega, by omega, by omega⟩
    have bx := u64_lt hx.1
    have bz := u64_lt hz.2
    have ew : IntKind.i64.wrap (k : Int) = (k : Int) := by rw [IntKind.wrap_i64]; omega
    have hbG0 : ¬ (b = G0) := by omega
    have hsG0 : ¬ (s = G0) := by have := HB.out.lt; omega
    have HZ2 := Lib.hid z2
    clear hcell hxx hzz hnl x1 x2 z1 z2 hG0 hG1
    go_upto_region 4 with fail
    go_region_with fail
    all_goals go_simp
    all_goals (refine ?nx)
    case nx =>
      obtain ⟨q0, hq0⟩ : ∃ q0 : Int, q0 = min (ra : Int) (xa : Int) := ⟨_, rfl⟩
      rw [← hq0]
      have HB3 : Hid (Blk (w2.setCell ⟨G0, 0, none⟩ (.int .u64 q0)).drew G0 26 #[.int .u64 q0, .int .u64 (rb : Nat)]) := Lib.hid (by simpa using (HB0.out.set_ 0 (.int .u64 q0)).drew)
      have HR3 : Hid (Blk (w2.setCell ⟨G0, 0, none⟩ (.int .u64 q0)).drew G1 26 #[.int .u64 0, .int .u64 0]) := Lib.hid (HB1.out.far (p := ⟨G0, 0, none⟩) (fun h => HGk.out.2.2 h.symm) _).drew
      have HK3 : Hid (Keep [] w (w2.setCell ⟨G0, 0, none⟩ (.int .u64 q0)).drew) := Lib.hid (HK2.out.setCell (p := ⟨G0, 0, none⟩) (.inr HGk.out.1) _).drew
      have HZ3 : (w2.setCell ⟨G0, 0, none⟩ (.int .u64 q0)).drew.cell? ⟨b, off + k * 2 + 1, none⟩ = some (.int .u64 (zb : Nat)) := (HK3.out.cell (p := ⟨b, off + k * 2 + 1, none⟩) hblt (by simp)).trans HZ2.out
      obtain ⟨w3, hw3⟩ : ∃ w3, w3 = (w2.setCell ⟨G0, 0, none⟩ (.int .u64 q0)).drew := ⟨_, rfl⟩
      rw [← hw3] at HB3 HR3 HK3 HZ3 ⊢
      have HQ0 := Lib.hid hq0
      clear g0 g1 gf0 gf1 r0 r1 rf0 rf1 s1 x1' z2' hw3 hq0
      have g1 : w3.cell? ⟨G0, 1, none⟩ = some (.int .u64 (rb : Nat)) := HB3.out.cell 1
      have gf1 := HB3.out.frozen 1
      have s1 : w3.cell? ⟨s, 1, none⟩ = some (.slice (some ⟨b, off, none⟩) n c) := (HB.out.keep HK3.out (by simp)).cell 1
      go_upto_region 5 with fail
      go_region_with fail
      all_goals go_simp
      all_goals (refine ?ny)
      case ny =>
        obtain ⟨q1, hq1⟩ : ∃ q1 : Int, q1 = max (rb : Int) (zb : Int) := ⟨_, rfl⟩
        rw [← hq1]
        have HB4 : Hid (Blk (w3.setCell ⟨G0, 1, none⟩ (.int .u64 q1)).drew G0 26 #[.int .u64 q0, .int .u64 q1]) := Lib.hid (by simpa using (HB3.out.set_ 1 (.int .u64 q1)).drew)
        have HR4 : Hid (Blk (w3.setCell ⟨G0, 1, none⟩ (.int .u64 q1)).drew G1 26 #[.int .u64 0, .int .u64 0]) := Lib.hid (HR3.out.far (p := ⟨G0, 1, none⟩) (fun h => HGk.out.2.2 h.symm) _).drew
        have HK4 : Hid (Keep [] w (w3.setCell ⟨G0, 1, none⟩ (.int .u64 q1)).drew) := Lib.hid (HK3.out.setCell (p := ⟨G0, 1, none⟩) (.inr HGk.out.1) _).drew
        obtain ⟨w4, hw4⟩ : ∃ w4, w4 = (w3.setCell ⟨G0, 1, none⟩ (.int .u64 q1)).drew := ⟨_, rfl⟩
        rw [← hw4] at HB4 HR4 HK4 ⊢
        have HQ1 := Lib.hid hq1
        clear g1 gf1 s1 hw4 hq1
        have g0 : w4.cell? ⟨G0, 0, none⟩ = some (.int .u64 q0) := HB4.out.cell 0
        have g1 : w4.cell? ⟨G0, 1, none⟩ = some (.int .u64 q1) := HB4.out.cell 1
        have r0 : w4.cell? ⟨G1, 0, none⟩ = some (.int .u64 0) := HR4.out.cell 0
        have r1 : w4.cell? ⟨G1, 1, none⟩ = some (.int .u64 0) := HR4.out.cell 1
        have rf0 := HR4.out.frozen 0
        have rf1 := HR4.out.frozen 1
        go_upto_region 6 with fail
        go_region_with fail
        all_goals go_simp
        all_goals (refine ?nz)
        case nz =>
          go_wp2_with fail
          refine bodyPost_ret (v := .tuple #[.int .i64 i, .int .i64 ((k + 1 : Nat) : Int), pv y]) ?_ rfl ⟨rfl, ((HK4.out.setCell (p := ⟨G1, 0, none⟩) (.inr HGk.out.2.1) _).setCell (p := ⟨G1, 1, none⟩) (.inr HGk.out.2.1) _).drew⟩
          refine res_tmp_tmp_row Try.results29 _ _ G1 y rfl _ _ rfl (by simp) ?_ ?_
          · rw [(HR4.out.put2 _ _).drew.cell, HYY.out, HQ0.out]
            show some (Value.int .u64 (min (ra : Int) (xa : Int))) = _
            congr 2
            simp only
            omega
          · rw [(HR4.out.put2 _ _).drew.cell, HYY.out, HQ1.out]
            show some (Value.int .u64 (max (rb : Int) (zb : Int))) = _
            congr 2
            simp only
            omega
  · have HYY := Lib.hid (show y = (ra, rb) by rw [HY.out, Span.whole, if_neg hij])
    have hijz : ¬ (i : Int) < (j : Int) := by omega
    clear hG0 hG1
    go_upto_region 6 with fail
    go_region_with fail
    all_goals go_simp
    all_goals (refine ?nu)
    case nu =>
      go_wp2_with fail
      refine bodyPost_ret (v := .tuple #[.int .i64 i, .int .i64 j, pv y]) ?_ rfl ⟨rfl, ((HK2.out.setCell (p := ⟨G1, 0, none⟩) (.inr HGk.out.2.1) _).setCell (p := ⟨G1, 1, none⟩) (.inr HGk.out.2.1) _).drew⟩
      refine res_tmp_tmp_row Try.results29 _ _ G1 y rfl _ _ rfl rfl ?_ ?_
      · rw [(HB1.out.put2 _ _).drew.cell, HYY.out]; rfl
      · rw [(HB1.out.put2 _ _).drew.cell, HYY.out]; rfl
end
end Go.Proofs.Ytpckbmebdhmfaaa
