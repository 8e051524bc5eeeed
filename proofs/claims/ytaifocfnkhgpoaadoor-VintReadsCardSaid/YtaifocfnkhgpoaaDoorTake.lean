/-
  Contracts of Take, the program's and the document's answer.
-/
import Derived.Test.YtaifocfnkhgpoaaDoorMath
namespace Go.Proofs.YtaifocfnkhgpoaaDoor
open Go.RowKit

theorem pow4 (x : Int) (h0 : 0 ≤ x) (h1 : x ≤ 255) : ∃ s : Nat, s = 2 ^ (x / 64).toNat ∧ wrap64 (2 ^ (x / 64).toNat) = (s : Int) ∧ 1 ≤ s ∧ s ≤ 8 := by
  have h : (x / 64).toNat = 0 ∨ (x / 64).toNat = 1 ∨ (x / 64).toNat = 2 ∨ (x / 64).toNat = 3 := by omega
  refine ⟨_, rfl, ?_⟩
  rcases h with e | e | e | e <;> rw [e] <;> simp [wrap64]

set_option maxHeartbeats 400000 in
theorem take_short (b off n c s : Nat) (x : Int) (w : World) (hn : 0 < n) (hsn : n < s) (_hnc : n ≤ c) (_hm : c ≤ 9223372036854775807)
   (_hs8 : s ≤ 8) (hs : wrap64 (2 ^ (x / 64).toNat) = (s : Int))
   (hx0 : 0 ≤ x) (hx1 : x ≤ 255) (h0 : w.cell? ⟨b, off, none⟩ = some (.int .u8 x)) :
    Calls Tryd.prog 15 #[.slice (some ⟨b, off, none⟩) n c] w fun e w' => e = .returned (.tuple #[.int .u64 0, .int .i64 0, .int .i64 3]) ∧ w = w' := by
  have hn0 : ((n : Int) == 0) = false := by simp; omega
  go_enter Tryd.func15, Tryd.ntmps15
  go_wp2
  go_ret3
  exact ⟨rfl, rfl⟩

set_option maxHeartbeats 400000 in
theorem take_long (b off n c s : Nat) (x : Int) (l : List Int) (w : World) (hn : 0 < n) (hsn : s ≤ n) (hnc : n ≤ c) (hm : c ≤ 9223372036854775807) (hc1 : 1 < c)
   (hs0 : 1 ≤ s) (hs8 : s ≤ 8) (hs : wrap64 (2 ^ (x / 64).toNat) = (s : Int))
   (hx0 : 0 ≤ x) (hx1 : x ≤ 255) (h0 : w.cell? ⟨b, off, none⟩ = some (.int .u8 x))
   (hl : ∀ j, j + 1 < n → w.cell? ⟨b, off + 1 + j, none⟩ = some (.int .u8 (l[j]?.getD 0)))
   (hll : l.length + 1 = n) (hlw : ∀ y ∈ l, (Lit.int .u8 y).wf = true) :
    Calls Tryd.prog 15 #[.slice (some ⟨b, off, none⟩) n c] w fun e w' => e = .returned (.tuple #[.int .u64 (be (x % 64) (l.take (s - 1))), .int .i64 s, .int .i64 0]) ∧ w = w' := by
  have hn0 : ((n : Int) == 0) = false := by simp; omega
  have HL := Lib.hid hll
  clear hll
  go_enter Tryd.func15, Tryd.ntmps15
  go_wp2
  go_loop [2, 28] (fun t i => ∃ k : Nat, k + 1 ≤ s ∧ i = .int .i64 k ∧ t = .int .u64 (be (x % 64) (l.take k))) (fun _ i => s - (intOf i).toNat)
  case atStart => exact ⟨0, hs0, rfl, rfl⟩
  case round =>
    obtain ⟨k, hk, rfl, rfl⟩ := hrel
    by_cases hlt : k + 1 < s
    · have hcell := hl k (by omega)
      have hkl : k < l.length := by have := HL.out; omega
      have hbb := be_bound (x % 64) (l.take k) (by omega) (fun y hy => wf_u8 (hlw y (List.mem_of_mem_take hy)))
      have hb0 : 0 ≤ be (x % 64) (l.take k) := hbb.1
      have hb1 : be (x % 64) (l.take k) ≤ 18014398509481983 := by
        have h2 := hbb.2
        rw [List.length_take_of_le (by omega)] at h2
        have h3 := pow6 k (by omega)
        have h4 : (x % 64 + 1) * 256 ^ k ≤ 64 * 281474976710656 := by
          refine Int.le_trans (Int.mul_le_mul_of_nonneg_right (show x % 64 + 1 ≤ 64 by omega) (Int.le_of_lt (pow_pos' k))) ?_
          exact Int.mul_le_mul_of_nonneg_left h3 (by omega)
        omega
      have hyy := wf_u8 (wf_getD hlw k hkl)
      have hy0 : 0 ≤ l[k]?.getD 0 := hyy.1
      have hy1 : l[k]?.getD 0 ≤ 255 := hyy.2
      have hj := Lib.hid (or_join _ _ hb0 (by omega) hy0 hy1)
      have ht := Lib.hid (show be (x % 64) (l.take (k + 1)) = be (x % 64) (l.take k) * 256 + l[k]?.getD 0 by
        rw [List.take_add_one, List.getElem?_eq_getElem hkl]; exact be_snoc _ _ _)
      clear hl hbb hyy hlw hkl
      go_wp2
      go_round
      case rel => exact ⟨k + 1, by omega, by go_num, by rw [hj.out, ht.out]⟩
      case measure => simp [intOf]; omega
    · go_wp2
      go_ret3
      have : k = s - 1 := by omega
      subst this
      exact ⟨rfl, rfl⟩

set_option maxHeartbeats 400000 in
/-- One byte, and room for no more. -/
theorem take_one (b off s : Nat) (x : Int) (w : World) 
   (hs1 : s = 1) (hs : wrap64 (2 ^ (x / 64).toNat) = (s : Int))
   (hx0 : 0 ≤ x) (hx1 : x ≤ 255) (h0 : w.cell? ⟨b, off, none⟩ = some (.int .u8 x)) :
    Calls Tryd.prog 15 #[.slice (some ⟨b, off, none⟩) 1 1] w fun e w' => e = .returned (.tuple #[.int .u64 (x % 64), .int .i64 1, .int .i64 0]) ∧ w = w' := by
  subst hs1
  go_enter Tryd.func15, Tryd.ntmps15
  go_wp2
  go_loop [2, 28] (fun t i => i = .int .i64 0 ∧ t = .int .u64 (x % 64)) (fun _ _ => 0)
  case atStart => exact ⟨rfl, rfl⟩
  case round =>
    obtain ⟨rfl, rfl⟩ := hrel
    go_wp2
    go_ret3
    exact ⟨rfl, rfl⟩

set_option maxHeartbeats 400000 in
theorem take_empty (A : Option Addr) (c : Nat) (w : World) :
    Calls Tryd.prog 15 #[.slice A 0 c] w fun e w' => e = .returned (.tuple #[.int .u64 0, .int .i64 0, .int .i64 3]) ∧ w = w' := by
  go_enter Tryd.func15, Tryd.ntmps15
  go_wp2
  go_ret3
  exact ⟨rfl, rfl⟩

/-- Take. -/
theorem take_any (v : Value) (l : List Int) (w : World) (h : Sl .u8 w v l) :
    Calls Tryd.prog 15 #[v] w fun e w' => e = .returned (.tuple #[.int .u64 (tkN l), .int .i64 (tkS l), .int .i64 (tkE l)]) ∧ w = w' := by
  cases l with
  | nil =>
    obtain ⟨A, c, rfl, _⟩ := h
    exact take_empty A c w
  | cons x r =>
    have hwf := h.choose_spec.choose_spec.2.2.2.2
    obtain ⟨b, off, c, rfl, hlc, hcm, hc⟩ := h.cells (by simp)
    have hx := wf_u8 (hwf x (by simp))
    have h0 : w.cell? ⟨b, off, none⟩ = some (.int .u8 x) := by simpa using hc 0 (by simp)
    have hr : ∀ j, j + 1 < (x :: r).length → w.cell? ⟨b, off + 1 + j, none⟩ = some (.int .u8 (r[j]?.getD 0)) := fun j hj => by
      have := hc (j + 1) hj
      rw [show off + (j + 1) = off + 1 + j by omega] at this
      simpa using this
    obtain ⟨s, hs, hw, hs0, hs8⟩ := pow4 x hx.1 hx.2
    simp only [tkN, tkE, tkS, ← hs]
    by_cases hlt : (x :: r).length < s
    · rw [if_pos hlt, if_pos hlt, if_pos rfl]
      exact take_short b off _ c s x w (by simp) hlt hlc hcm hs8 hw hx.1 hx.2 h0
    · rw [if_neg hlt, if_neg hlt, if_neg (by omega)]
      by_cases hc1 : 1 < c
      · exact take_long b off _ c s x r w (by simp) (by omega) hlc hcm hc1 hs0 hs8 hw hx.1 hx.2 h0 hr (by simp) (fun y hy => hwf y (by simp [hy]))
      · have hr0 : r = [] := List.eq_nil_of_length_eq_zero (by simp at hlc; omega)
        subst hr0
        obtain rfl : c = 1 := by simp at hlc; omega
        have hs1 : s = 1 := by simp at hlt; omega
        subst hs1
        exact take_one b off 1 x w rfl hw hx.1 hx.2 h0

end Go.Proofs.YtaifocfnkhgpoaaDoor
