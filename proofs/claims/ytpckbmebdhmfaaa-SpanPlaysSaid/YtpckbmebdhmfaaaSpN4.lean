/-
  The landed span: Count, Last.
-/
import Derived.Test.YtpckbmebdhmfaaaSpN3
namespace Go.Proofs.Ytpckbmebdhmfaaa
open Go.RowKit

theorem Span.cntTake (l : List R) (i : Nat) (h : i < l.length) : Span.cnt (l.take (i + 1)) = Span.cnt (l.take i) + ((l.getD i (0, 0)).2 - (l.getD i (0, 0)).1) := by
  induction l generalizing i with
  | nil => cases h
  | cons x l ih =>
    cases i with
    | zero => simp [cnt]
    | succ i =>
      have := ih i (by simpa using h)
      rw [List.take_succ_cons, cnt, this, List.take_succ_cons, cnt, List.getD_cons_succ]
      omega
theorem Span.cntTakeLe (l : List R) (i : Nat) : Span.cnt (l.take i) ≤ Span.cnt l := by
  induction l generalizing i with
  | nil => simp
  | cons x l ih =>
    cases i with
    | zero => simp [cnt]
    | succ i => have := ih i; rw [List.take_succ_cons, cnt, cnt]; omega
section
variable (w : World)
set_option maxRecDepth 100000
set_option maxHeartbeats 4000000
theorem count_any {S : List Nat} {s m : Nat} {l : List (Nat × Nat)} (h : SpS w S s m l) (hn : l.length ≤ 1000000) :
    Calls Try.prog 21 #[.pointer (some ⟨s, 0, none⟩)] w fun e w' => e = .returned (.int .u64 ((Span.cnt l % 18446744073709551616 : Nat) : Int)) ∧ Keep [] w w' := by
  have HO := Lib.hid h.ok
  obtain ⟨lim, v, h1, hv, -⟩ := h.s2
  have HL := Lib.hid hv
  obtain ⟨A, c, rfl, hc1, hc2, -, -⟩ := hv
  obtain ⟨n, hnl⟩ : ∃ n, n = l.length := ⟨_, rfl⟩
  have HN := Lib.hid hnl
  have c1 : w.cell? ⟨s, 1, none⟩ = some (.slice A n c) := by rw [hnl]; exact h1.cell 1
  rw [← hnl] at HL hc1 hn
  have hbd := Span.bounded HO.out.2.1 HO.out.1
  rw [Nat.mod_eq_of_lt hbd]
  have HBD := Lib.hid hbd
  clear h h1 hnl hbd
  go_enter Try.func21, Try.ntmps21
  go_wp2_with fail
  go_loopw [3, 13] (fun s3 s13 wr => ∃ i : Nat, i ≤ n ∧ s13 = .int .i64 i ∧ Keep [] w wr ∧ s3 = .int .u64 ((Span.cnt (l.take i) : Nat) : Int)) (fun _ s13 _ => n - (intOf s13).toNat)
  case atStart => exact ⟨0, by omega, rfl, Keep.refl _ _, rfl⟩
  case round =>
    obtain ⟨i, hi, rfl, hk, rfl⟩ := hrel
    have HK := Lib.hid hk
    have HLr := Lib.hid (HL.out.keep0 hk)
    clear hk
    by_cases hlt : i < n
    · have hnl := HN.out
      have hx := HLr.out.p64.getD i
      obtain ⟨b, off, c', he, -, -, hblt, hcell⟩ := HLr.out.cells (by omega)
      simp only [Value.slice.injEq] at he
      obtain ⟨rfl, -, rfl⟩ := he
      obtain ⟨x1, x2⟩ := hcell i (by omega)
      have hpos := HO.out.1.posD i (by omega)
      have hct := Span.cntTake l i (by omega)
      have hle := Span.cntTakeLe l (i + 1)
      obtain ⟨x, hxx⟩ : ∃ x, x = l.getD i (0, 0) := ⟨_, rfl⟩
      rw [← hxx] at hx x1 x2 hpos hct
      obtain ⟨q, hq⟩ : ∃ q, q = Span.cnt (l.take i) := ⟨_, rfl⟩
      have hbd := HBD.out
      have hsum : q + (x.2 - x.1) < 18446744073709551616 := by rw [hq, ← hct]; omega
      have HCT := Lib.hid hct
      have HQ := Lib.hid hq
      rw [← hq]
      obtain ⟨xa, xb⟩ := x
      simp only at x1 x2 hpos hsum hx
      have bi : (0 : Int) ≤ i ∧ (i : Int) < n := ⟨by omega, by omega⟩
      obtain ⟨hx1, hx2⟩ := hx
      have by1 := u64_lt hx1
      have by2 := u64_lt hx2
      have bq : (0 : Int) ≤ (q : Int) ∧ (q : Int) + ((xb : Int) - (xa : Int)) < 18446744073709551616 := ⟨by omega, by omega⟩
      have bp : (xa : Int) < (xb : Int) := by omega
      clear hcell hxx hct hle hq hbd hnl hsum
      go_wp2_with fail
      refine ⟨⟨i + 1, by omega, by go_num, HK.out.alloc _, ?_⟩, by simp only [intOf]; omega⟩
      rw [HCT.out, ← HQ.out]
      congr 1
      simp only
      omega
    · have hnl : ¬ (i : Int) < (n : Int) := by omega
      go_wp2_with fail
      go_ret
      refine ⟨?_, HK.out⟩
      rw [List.take_of_length_le (by have := HN.out; omega)]
      rfl
end
end Go.Proofs.Ytpckbmebdhmfaaa
