/-
  The document's answer for sets of ranges: Has, Covers; the law's Ref, an act's range.
-/
import Derived.Test.YtpckbmebdhmfaaaRSpan1
import Derived.Deep.QuietTactic
namespace Go.Proofs.Ytpckbmebdhmfaaa
open Go.RowKit

namespace Span
/-- Is a number in one of the first i? -/
def hasB (l : List R) (n : Nat) : Bool := l.any fun x => decide (x.1 ≤ n ∧ n < x.2)
def covB (l : List R) (r : R) : Bool := decide (r.2 ≤ r.1) || l.any fun x => decide (x.1 ≤ r.1 ∧ r.2 ≤ x.2)
end Span
theorem any_drop (f : Nat × Nat → Bool) (l : List (Nat × Nat)) (i : Nat) (h : i < l.length) : (l.drop i).any f = (f (l.getD i (0, 0)) || (l.drop (i + 1)).any f) := by
  rw [drop_getD l i h]; rfl

set_option maxRecDepth 100000 in
set_option maxHeartbeats 4000000 in
theorem rhas_any (lv : Value) (l : List (Nat × Nat)) (k : Nat) (w : World) (hl : S2 w lv l) (hk : k < 18446744073709551616) (hn : l.length ≤ 1000000) :
    Calls Try.prog 26 #[lv, .int .u64 k] w fun e w' => e = .returned (.bool (Span.hasB l k)) ∧ w' = w := by
  have HL := Lib.hid hl
  obtain ⟨A, c, rfl, hc1, hc2, -, -⟩ := hl
  obtain ⟨n, hn'⟩ : ∃ n, n = l.length := ⟨_, rfl⟩
  have HN := Lib.hid hn'
  rw [← hn'] at HL hc1 hn ⊢
  clear hn'
  go_enter Try.func26, Try.ntmps26
  go_wp2_with fail
  go_loopw [5] (fun s5 wr => ∃ i : Nat, i ≤ n ∧ s5 = .int .i64 i ∧ wr = w ∧ (l.drop i).any (fun x => decide (x.1 ≤ k ∧ k < x.2)) = Span.hasB l k) (fun s5 _ => n - (intOf s5).toNat)
  case atStart => exact ⟨0, by omega, rfl, rfl, rfl⟩
  case round =>
    obtain ⟨i, hi, rfl, rfl, hany⟩ := hrel
    have HA := Lib.hid hany
    clear hany
    by_cases hlt : i < n
    · have hx := HL.out.p64.getD i
      have hdr := any_drop (fun x => decide (x.1 ≤ k ∧ k < x.2)) l i (by have := HN.out; omega)
      obtain ⟨b, off, c', he, -, -, hblt, hcell⟩ := HL.out.cells (by have := HN.out; omega)
      simp only [Value.slice.injEq] at he
      obtain ⟨rfl, -, rfl⟩ := he
      obtain ⟨x1, x2⟩ := hcell i (by have := HN.out; omega)
      obtain ⟨x, hxx⟩ : ∃ x, x = l.getD i (0, 0) := ⟨_, rfl⟩
      rw [← hxx] at hx x1 x2 hdr
      rw [hdr] at HA
      have bi : (0 : Int) ≤ i ∧ (i : Int) < n := ⟨by omega, by omega⟩
      clear hcell hdr hxx
      obtain ⟨hx1, hx2⟩ := hx
      have by1 := u64_lt hx1
      have by2 := u64_lt hx2
      have bk := u64_lt hk
      by_cases h1 : x.1 ≤ k
      · have c1 : ((x.1 : Nat) : Int) ≤ (k : Int) := by omega
        by_cases h2 : k < x.2
        · have c2 : (k : Int) < ((x.2 : Nat) : Int) := by omega
          have HH := Lib.hid (show Span.hasB l k = true by rw [← HA.out]; simp [h1, h2])
          go_wp2_with fail
          go_ret
          exact ⟨by rw [HH.out]; rfl, rfl⟩
        · have c2 : ¬ (k : Int) < ((x.2 : Nat) : Int) := by omega
          go_wp2_with fail
          exact ⟨⟨i + 1, by omega, by go_num, trivial, by rw [← HA.out]; simp [h2]⟩, by simp [intOf]; omega⟩
      · have c1 : ¬ ((x.1 : Nat) : Int) ≤ (k : Int) := by omega
        go_wp2_with fail
        exact ⟨⟨i + 1, by omega, by go_num, trivial, by rw [← HA.out]; simp [h1]⟩, by simp [intOf]; omega⟩
    · have hnl : ¬ (i : Int) < (n : Int) := by omega
      have HH := Lib.hid (show Span.hasB l k = false by rw [← HA.out, List.drop_of_length_le (by have := HN.out; omega)]; rfl)
      go_wp2_with fail
      go_ret
      exact ⟨by rw [HH.out]; rfl, rfl⟩

set_option maxRecDepth 100000 in
set_option maxHeartbeats 4000000 in
theorem rcov_any (lv : Value) (l : List (Nat × Nat)) (r : Nat × Nat) (w : World) (hl : S2 w lv l) (hr1 : r.1 < 18446744073709551616) (hr2 : r.2 < 18446744073709551616) (hn : l.length ≤ 1000000) :
    Calls Try.prog 23 #[lv, pv r] w fun e w' => e = .returned (.bool (Span.covB l r)) ∧ Keep [] w w' := by
  have HL := Lib.hid hl
  obtain ⟨A, c, rfl, hc1, hc2, -, -⟩ := hl
  obtain ⟨D, hD⟩ : ∃ D, D = (pc r).toArray := ⟨_, rfl⟩
  have HD := Lib.hid hD
  rw [pv_agg, ← hD]
  clear hD
  obtain ⟨n, hn'⟩ : ∃ n, n = l.length := ⟨_, rfl⟩
  have HN := Lib.hid hn'
  rw [← hn'] at HL hc1 hn ⊢
  clear hn'
  go_enter Try.func23, Try.ntmps23
  go_upto_region 1 with (refine wl_box rfl _ _ rfl D rfl ?_; intro w1 hB1 hk1 hz1; have HB1 := Lib.hid hB1; have HK1 := Lib.hid hk1; clear hB1 hk1 hz1)
  obtain ⟨G, hG⟩ : ∃ G, G = w.heap.size := ⟨_, rfl⟩
  have HG := Lib.hid hG
  have HB := Lib.hid (show Blk w1 G 36 (pc r).toArray by rw [hG, ← HD.out]; exact HB1.out)
  rw [← hG]
  clear hG HB1
  obtain ⟨g1, g2⟩ := HB.out.pair
  have b1 := u64_lt hr1
  have b2 := u64_lt hr2
  by_cases hrr : r.1 < r.2
  · have hh : ¬ ((r.2 : Nat) : Int) ≤ ((r.1 : Nat) : Int) := by omega
    have HC0 := Lib.hid (show Span.covB l r = l.any fun x => decide (x.1 ≤ r.1 ∧ r.2 ≤ x.2) by unfold Span.covB; rw [show decide (r.2 ≤ r.1) = false from decide_eq_false (by omega), Bool.false_or])
    go_upto_block 0 with fail
    go_wp2_with fail
    go_loopw [5] (fun s5 wr => ∃ i : Nat, i ≤ n ∧ s5 = .int .i64 i ∧ Blk wr G 36 (pc r).toArray ∧ Keep [] w wr ∧ (l.drop i).any (fun x => decide (x.1 ≤ r.1 ∧ r.2 ≤ x.2)) = Span.covB l r) (fun s5 _ => n - (intOf s5).toNat)
    case atStart => exact ⟨0, by omega, rfl, HB.out, HK1.out, HC0.out.symm⟩
    case round =>
      obtain ⟨i, hi, rfl, hb, hk, hany⟩ := hrel
      have HA := Lib.hid hany
      have HBr := Lib.hid hb
      have HK := Lib.hid hk
      clear hany hb hk
      by_cases hlt : i < n
      · have HLi := HL.out.keep0 HK.out
        have hx := HLi.p64.getD i
        have hdr := any_drop (fun x => decide (x.1 ≤ r.1 ∧ r.2 ≤ x.2)) l i (by have := HN.out; omega)
        obtain ⟨b, off, c', he, -, -, hblt, hcell⟩ := HLi.cells (by have := HN.out; omega)
        simp only [Value.slice.injEq] at he
        obtain ⟨rfl, -, rfl⟩ := he
        obtain ⟨x1, x2⟩ := hcell i (by have := HN.out; omega)
        obtain ⟨x, hxx⟩ : ∃ x, x = l.getD i (0, 0) := ⟨_, rfl⟩
        rw [← hxx] at hx x1 x2 hdr
        rw [hdr] at HA
        have bi : (0 : Int) ≤ i ∧ (i : Int) < n := ⟨by omega, by omega⟩
        clear hcell hdr hxx HLi g1 g2
        obtain ⟨g1, g2⟩ := HBr.out.pair
        obtain ⟨hx1, hx2⟩ := hx
        have by1 := u64_lt hx1
        have by2 := u64_lt hx2
        by_cases h1 : x.1 ≤ r.1
        · have c1 : ((x.1 : Nat) : Int) ≤ ((r.1 : Nat) : Int) := by omega
          by_cases h2 : r.2 ≤ x.2
          · have c2 : ((r.2 : Nat) : Int) ≤ ((x.2 : Nat) : Int) := by omega
            have HH := Lib.hid (show Span.covB l r = true by rw [← HA.out]; simp [h1, h2])
            go_upto_region 6 with fail
            go_quiet (fail)
            all_goals
              go_wp2_with fail
              go_ret
              exact ⟨by rw [HH.out]; rfl, HK.out.drewN _⟩
          · have c2 : ¬ ((r.2 : Nat) : Int) ≤ ((x.2 : Nat) : Int) := by omega
            go_upto_region 6 with fail
            go_quiet (fail)
            all_goals
              go_wp2_with fail
              exact ⟨⟨i + 1, by omega, by go_num, HBr.out.drewN _, HK.out.drewN _, by rw [← HA.out]; simp [h2]⟩, by simp [intOf]; omega⟩
        · have c1 : ¬ ((x.1 : Nat) : Int) ≤ ((r.1 : Nat) : Int) := by omega
          go_upto_region 6 with fail
          go_quiet (fail)
          all_goals
            go_wp2_with fail
            exact ⟨⟨i + 1, by omega, by go_num, HBr.out.drewN _, HK.out.drewN _, by rw [← HA.out]; simp [h1]⟩, by simp [intOf]; omega⟩
      · have hnl : ¬ (i : Int) < (n : Int) := by omega
        have HH := Lib.hid (show Span.covB l r = false by rw [← HA.out, List.drop_of_length_le (by have := HN.out; omega)]; rfl)
        go_wp2_with fail
        go_ret
        exact ⟨by rw [HH.out]; rfl, HK.out⟩
  · have hh : ((r.2 : Nat) : Int) ≤ ((r.1 : Nat) : Int) := by omega
    have HH := Lib.hid (show Span.covB l r = true by unfold Span.covB; rw [decide_eq_true (by omega), Bool.true_or])
    go_wp2_with fail
    go_ret
    exact ⟨by rw [HH.out]; rfl, HK1.out⟩
end Go.Proofs.Ytpckbmebdhmfaaa
