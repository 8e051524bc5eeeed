/-
  The landed span: Add.
-/
import Derived.Test.YtpckbmebdhmfaaaSpL1
import Derived.Test.YtpckbmebdhmfaaaSpL2
namespace Go.Proofs.Ytpckbmebdhmfaaa
open Go.RowKit

theorem whole_lt {l : List (Nat × Nat)} {r : Nat × Nat} {i j : Nat} (hP : P64 l) (h1 : r.1 < 18446744073709551616) (h2 : r.2 < 18446744073709551616) : (Span.whole l r i j).1 < 18446744073709551616 ∧ (Span.whole l r i j).2 < 18446744073709551616 := by
  unfold Span.whole
  split
  · have := hP.getD i
    have := hP.getD (j - 1)
    constructor <;> simp only <;> omega
  · exact ⟨h1, h2⟩
theorem spBuilt (x : Nat × Nat) : Try.prog.builtSlice 26 1 [(0, .agg (pc x).toArray)] = some (pc x).toArray := by kernel_rfl
theorem own_one {w : World} {B : Nat} (y : Nat × Nat) (h : Blk w B 26 (pc y).toArray) : w.ownsRow 0 26 2 (.slice (some ⟨B, 0, none⟩) 1 1) 1 (pcs [y]) :=
  own_row (l := [y]) (C := pc y) h rfl (by simp) (by decide) (by rw [pcs_one]; rfl)

section
variable (w : World)
set_option maxRecDepth 100000
set_option maxHeartbeats 4000000
theorem add_any {S : List Nat} {s m : Nat} {l : List (Nat × Nat)} (r : Nat × Nat) (h : SpS w S s m l) (hn : l.length ≤ 1000000) (h1 : r.1 < 18446744073709551616) (h2 : r.2 < 18446744073709551616) :
    Calls Try.prog 13 #[.pointer (some ⟨s, 0, none⟩), pv r] w fun e w' => ∃ c S', e = .returned (.int .i64 c) ∧
      (((Span.add l r).length ≤ m ∧ c = 0 ∧ SpS w' S' s m (Span.add l r)) ∨ (m < (Span.add l r).length ∧ c = 7 ∧ SpS w' S' s m l)) ∧ (∀ x ∈ S', x ∈ S ∨ w.heap.size ≤ x) ∧ Keep S w w' := by
  have HS := Lib.hid h
  have EM : Hid (∀ W, Calls Try.prog 28 #[.agg #[.int .u64 (r.1 : Nat), .int .u64 (r.2 : Nat)]] W fun e W' => e = .returned (.bool (decide (r.2 ≤ r.1))) ∧ Keep [] W W') := fun W => empty_any W r h1 h2
  have b1 := u64_lt h1
  have b2 := u64_lt h2
  by_cases he : r.2 ≤ r.1
  · have HA := Lib.hid (show Span.add l r = l by unfold Span.add; rw [if_neg (by omega)])
    rw [HA.out]
    rw [decide_eq_true he] at EM
    clear h HA
    obtain ⟨ra, rb⟩ := r
    simp only at EM
    show Calls Try.prog 13 #[.pointer (some ⟨s, 0, none⟩), .agg #[.int .u64 (ra : Nat), .int .u64 (rb : Nat)]] w _
    go_enter Try.func13, Try.ntmps13
    go_wp2_with (go_at_call 28; with_reducible refine (EM.out _).mono ?_; rintro e w1 ⟨rfl, hk1⟩; have HK := Lib.hid (((Keep.refl [] w).alloc _).trans hk1); clear hk1)
    go_ret
    exact ⟨0, S, rfl, .inl ⟨HS.out.ok.2.2, rfl, HS.out.keep HK.out (by simp)⟩, fun x hx => .inl hx, HK.out.more0⟩
  · rw [decide_eq_false he] at EM
    have hr : r.1 < r.2 := by omega
    obtain ⟨lim, v, hB, hv, hlw, hmm⟩ := h.s2
    have hok := h.ok
    have hij := Span.fi_add_le hok.1 r hr
    have hjl := Span.fi_le (fun x => decide (r.2 < x.1)) l
    have JO := fun W (hk : Keep [] w W) => joined_any W r (hB.keep hk (by simp)) (hv.keep0 hk) hok.1 hn h1 h2
    have hA := Span.addL_fi hok.1 r hr
    rw [show Span.addL l r = Span.add l r by unfold Span.add; rw [if_pos hr]] at hA
    obtain ⟨i, hi⟩ : ∃ i, i = Span.fi (fun x => decide (r.1 ≤ x.2)) l := ⟨_, rfl⟩
    obtain ⟨j, hj⟩ : ∃ j, j = Span.fi (fun x => decide (r.2 < x.1)) l := ⟨_, rfl⟩
    rw [← hi, ← hj] at JO hA hij
    rw [← hj] at hjl
    have hy64 := whole_lt (i := i) (j := j) hok.2.1 h1 h2
    obtain ⟨y, hy⟩ : ∃ y, y = Span.whole l r i j := ⟨_, rfl⟩
    rw [← hy] at JO hA hy64
    have hnrm := Span.add_nrm hok.1 r
    obtain ⟨R, hR⟩ : ∃ R, R = Span.add l r := ⟨_, rfl⟩
    rw [← hR] at hA hnrm ⊢
    have hA2 : R = l.take i ++ [y] ++ l.drop j := by rw [hA]; simp
    have PU : Hid (∀ W B, Keep [] w W → Blk W B 26 (pc y).toArray → w.heap.size ≤ B → Calls Try.prog 30 #[.pointer (some ⟨s, 0, none⟩), .int .i64 (i : Nat), .int .i64 (j : Nat), .slice (some ⟨B, 0, none⟩) 1 1] W fun e w' => ∃ c S', e = .returned (.int .i64 c) ∧
        ((R.length ≤ m ∧ c = 0 ∧ SpS w' S' s m R) ∨ (m < R.length ∧ c = 7 ∧ SpS w' S' s m l)) ∧ (∀ x ∈ S', x ∈ S ∨ w.heap.size ≤ x) ∧ Keep S w w') := by
      refine Lib.hid (fun W B hW hBB hle => ?_)
      refine (put_any W (HS.out.keep hW (by simp)) (.slice (some ⟨B, 0, none⟩) 1 1) [y] (own_one y hBB) (fun g hg hgS => ?_) i j hij hjl hn (by simp) (by rw [← hA2]; exact hnrm) (P64.one hy64.1 hy64.2)).mono ?_
      · have e : B = g := Option.some.inj hg
        have := HS.out.lt g hgS
        omega
      · rintro e w' ⟨c, S', rfl, hc, hS', hk⟩
        rw [← hA2] at hc
        exact ⟨c, S', rfl, hc, fun x hx => (hS' x hx).imp id (fun h => Nat.le_trans hW.size h), hW.more0.trans hk⟩
    clear h hB hv hok hA hA2 hnrm hR hy hi hj
    obtain ⟨ra, rb⟩ := r
    obtain ⟨ya, yb⟩ := y
    simp only at EM hy64
    have JO2 : Hid (∀ W, Keep [] w W → Calls Try.prog 29 #[.pointer (some ⟨s, 0, none⟩), .agg #[.int .u64 (ra : Nat), .int .u64 (rb : Nat)]] W fun e w' => e = .returned (.tuple #[.int .i64 (i : Nat), .int .i64 (j : Nat), .agg #[.int .u64 (ya : Nat), .int .u64 (yb : Nat)]]) ∧ Keep [] W w') := Lib.hid (fun W hk => JO W hk)
    clear JO
    have by1 := u64_lt hy64.1
    have by2 := u64_lt hy64.2
    show Calls Try.prog 13 #[.pointer (some ⟨s, 0, none⟩), .agg #[.int .u64 (ra : Nat), .int .u64 (rb : Nat)]] w _
    go_enter Try.func13, Try.ntmps13
    go_upto_region 6 with (first
      | (go_at_call 28; with_reducible refine (EM.out _).mono ?_; rintro e w1 ⟨rfl, hk1⟩; have HK := Lib.hid (((Keep.refl [] w).alloc _).trans hk1); have HB := Lib.hid ((Blk.new w 26 #[.int .u64 (ra : Nat), .int .u64 (rb : Nat)]).keep hk1 (by simp)); have c0 := HB.out.cell 0; have c1 := HB.out.cell 1; simp at c0 c1; clear hk1)
      | (go_at_call 29; with_reducible refine (JO2.out _ HK.out).mono ?_; rintro e w2 ⟨rfl, hk2⟩; have HK2 := Lib.hid (HK.out.trans hk2); clear hk2))
    have HN2 := Lib.hid (Blk.new w2 26 #[.int .u64 (ya : Nat), .int .u64 (yb : Nat)])
    have HKA := Lib.hid (HK2.out.alloc (.cells #[.int .u64 (ya : Nat), .int .u64 (yb : Nat)] 26))
    have hG2 : ∃ G2, G2 = w2.heap.size := ⟨_, rfl⟩
    obtain ⟨w3, hw3⟩ : ∃ w3, w3 = w2.alloc (.cells #[.int .u64 (ya : Nat), .int .u64 (yb : Nat)] 26) := ⟨_, rfl⟩
    rw [← hw3] at HN2 HKA ⊢
    obtain ⟨G2, hG2⟩ := hG2
    rw [← hG2] at HN2 ⊢
    have d0 := HN2.out.cell 0
    have d1 := HN2.out.cell 1
    simp at d0 d1
    clear hw3 hG2 c0 c1
    go_wp2_with (first
      | (refine wl_build_one rfl _ _ _ rfl Try.underlying42 (ya, yb) (by simp; rfl) (spBuilt (ya, yb)) ?_; intro m6 w6 hm6 hB6 hk6; have HB6 := Lib.hid hB6; have HK6 := Lib.hid (HKA.out.trans hk6); have HM6 := Lib.hid (show w.heap.size ≤ m6 by rw [hm6]; exact HKA.out.size); clear hm6 hB6 hk6)
      | (go_at_call 30; with_reducible refine (PU.out _ _ HK6.out HB6.out HM6.out).mono ?_; rintro e w7 ⟨cc, S', rfl, hc, hS', hk7⟩; have HC := Lib.hid hc; have HS' := Lib.hid hS'; have HK7 := Lib.hid hk7; clear hc hS' hk7))
    go_ret
    exact ⟨cc, S', rfl, HC.out, HS'.out, HK7.out⟩
end
end Go.Proofs.Ytpckbmebdhmfaaa
