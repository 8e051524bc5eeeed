/-
  The landed span: Covers.
-/
import Derived.Test.YtpckbmebdhmfaaaSpN5
namespace Go.Proofs.Ytpckbmebdhmfaaa
open Go.RowKit
section
variable (w : World)
set_option maxRecDepth 100000
set_option maxHeartbeats 4000000
theorem cov_any {S : List Nat} {s m : Nat} {l : List (Nat × Nat)} (r : Nat × Nat) (h : SpS w S s m l) (hn : l.length ≤ 1000000) (h1 : r.1 < 18446744073709551616) (h2 : r.2 < 18446744073709551616) :
    Calls Try.prog 22 #[.pointer (some ⟨s, 0, none⟩), pv r] w fun e w' => e = .returned (.bool (Span.covB l r)) ∧ Keep [] w w' := by
  have EM : Hid (∀ W, Calls Try.prog 28 #[.agg #[.int .u64 (r.1 : Nat), .int .u64 (r.2 : Nat)]] W fun e W' => e = .returned (.bool (decide (r.2 ≤ r.1))) ∧ Keep [] W W') := fun W => empty_any W r h1 h2
  have FI : Hid (∀ W, Keep [] w W → Calls Try.prog 24 #[.pointer (some ⟨s, 0, none⟩), .int .u64 (r.1 : Nat)] W fun e W' => e = .returned (found (Span.first l r.1)) ∧ Keep [] W W') := fun W hk => first_any W r.1 (h.keep hk (by simp)) hn h1
  have HN := Lib.hid h.ok.1
  clear h
  obtain ⟨ra, rb⟩ := r
  simp only at EM FI h1 h2
  have b1 := u64_lt h1
  have b2 := u64_lt h2
  show Calls Try.prog 22 #[.pointer (some ⟨s, 0, none⟩), .agg #[.int .u64 (ra : Nat), .int .u64 (rb : Nat)]] w _
  by_cases he : rb ≤ ra
  · have HC := Lib.hid (show Span.covB l (ra, rb) = true by unfold Span.covB; simp [he])
    rw [HC.out]
    rw [decide_eq_true he] at EM
    go_enter Try.func22, Try.ntmps22
    go_wp2_with (go_at_call 28; with_reducible refine (EM.out _).mono ?_; rintro e w1 ⟨rfl, hk1⟩; have HK := Lib.hid (((Keep.refl [] w).alloc _).trans hk1); clear hk1)
    go_ret
    exact ⟨rfl, HK.out⟩
  · rw [decide_eq_false he] at EM
    have HC := Lib.hid (Span.covB_first HN.out (ra, rb) (by simp only; omega))
    rw [HC.out]
    obtain ⟨o, ho⟩ : ∃ o, o = Span.first l ra := ⟨_, rfl⟩
    simp only
    rw [← ho] at FI ⊢
    clear ho HC
    cases o with
    | none =>
      have FI2 : Hid (∀ W, Keep [] w W → Calls Try.prog 24 #[.pointer (some ⟨s, 0, none⟩), .int .u64 (ra : Nat)] W fun e W' => e = .returned (.tuple #[.agg #[.int .u64 0, .int .u64 0], .bool false]) ∧ Keep [] W W') := FI
      clear FI
      go_enter Try.func22, Try.ntmps22
      go_wp2_with (first
        | (go_at_call 28; with_reducible refine (EM.out _).mono ?_; rintro e w1 ⟨rfl, hk1⟩; have HK := Lib.hid (((Keep.refl [] w).alloc _).trans hk1); have HB := Lib.hid ((Blk.new w 26 #[.int .u64 (ra : Nat), .int .u64 (rb : Nat)]).keep hk1 (by simp)); have c0 := HB.out.cell 0; simp at c0; clear hk1)
        | (go_at_call 24; with_reducible refine (FI2.out _ HK.out).mono ?_; rintro e w2 ⟨rfl, hk2⟩; have HK2 := Lib.hid (HK.out.trans hk2); clear hk2))
      go_ret
      exact ⟨rfl, HK2.out.alloc _⟩
    | some x =>
      obtain ⟨xa, xb⟩ := x
      have FI2 : Hid (∀ W, Keep [] w W → Calls Try.prog 24 #[.pointer (some ⟨s, 0, none⟩), .int .u64 (ra : Nat)] W fun e W' => e = .returned (.tuple #[.agg #[.int .u64 (xa : Nat), .int .u64 (xb : Nat)], .bool true]) ∧ Keep [] W W') := FI
      clear FI
      go_enter Try.func22, Try.ntmps22
      go_upto_region 6 with (first
        | (go_at_call 28; with_reducible refine (EM.out _).mono ?_; rintro e w1 ⟨rfl, hk1⟩; have HK := Lib.hid (((Keep.refl [] w).alloc _).trans hk1); have HB := Lib.hid ((Blk.new w 26 #[.int .u64 (ra : Nat), .int .u64 (rb : Nat)]).keep hk1 (by simp)); have c0 := HB.out.cell 0; simp at c0; clear hk1)
        | (go_at_call 24; with_reducible refine (FI2.out _ HK.out).mono ?_; rintro e w2 ⟨rfl, hk2⟩; have HK2 := Lib.hid (HK.out.trans hk2); have HB2 := Lib.hid (HB.out.keep hk2 (by simp)); clear hk2))
      have d0 := fun o => ((HB2.out.alloc o).cell 0)
      have d1 := fun o => ((HB2.out.alloc o).cell 1)
      simp at d0 d1
      have HKx := fun o => Lib.hid (HK2.out.alloc o)
      by_cases hx : xa = ra
      · subst hx
        by_cases hy : rb ≤ xb
        · have hz : (rb : Int) ≤ (xb : Int) := by omega
          go_wp2_with fail
          go_ret
          exact ⟨by simp [hy], (HKx _).out⟩
        · have hz : ¬ (rb : Int) ≤ (xb : Int) := by omega
          go_wp2_with fail
          go_ret
          exact ⟨by simp [hy], (HKx _).out⟩
      · have hz : ¬ (xa : Int) = (ra : Int) := by omega
        have hz2 : ((xa : Int) == (ra : Int)) = false := beq_eq_false_iff_ne.2 hz
        go_wp2_with fail
        go_ret
        exact ⟨by simp [hx], (HKx _).out⟩
end
end Go.Proofs.Ytpckbmebdhmfaaa
