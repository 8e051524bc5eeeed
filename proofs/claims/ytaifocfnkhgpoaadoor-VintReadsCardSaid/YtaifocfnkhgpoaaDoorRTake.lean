/-
  The contract of the document's answer to Take.
-/
import Derived.Test.YtaifocfnkhgpoaaDoorTake
namespace Go.Proofs.YtaifocfnkhgpoaaDoor
open Go.RowKit

def IsPow (p k : Nat) : Prop := p = 2 ^ k ∧ p ≤ 8

set_option maxHeartbeats 400000 in
theorem rtake_core (b off n c q s : Nat) (x : Int) (l : List Int) (w : World) (hn : 0 < n) (_hnc : n ≤ c) (_hm : c ≤ 9223372036854775807)
   (hq : q ≤ 3) (hs : Hid (s = 2 ^ q)) (hs1 : 1 ≤ s) (hs8 : s ≤ 8) (hxq : Hid (x / 64 = (q : Int))) (hxq1 : x / 64 ≤ (q : Int)) (hxq2 : (q : Int) ≤ x / 64)
   (hx0 : 0 ≤ x) (hx1 : x ≤ 255) (h0 : w.cell? ⟨b, off, none⟩ = some (.int .u8 x))
   (hl : ∀ j, j + 1 < n → w.cell? ⟨b, off + (1 + j), none⟩ = some (.int .u8 (l[j]?.getD 0)))
   (hll : l.length + 1 = n) (hlw : ∀ y ∈ l, (Lit.int .u8 y).wf = true) :
    Calls Tryd.prog 16 #[.slice (some ⟨b, off, none⟩) n c] w fun e w' => e = .returned (.tuple #[.int .u64 (if n < s then 0 else be (x % 64) (l.take (s - 1))), .int .i64 (if n < s then 0 else s : Nat)]) ∧ w = w' := by
  have hn0 : ((n : Int) == 0) = false := by simp; omega
  have HL := Lib.hid hll
  clear hll
  go_enter Tryd.func16, Tryd.ntmps16
  go_wp2
  go_loop [4, 5] (fun t i => ∃ k p : Nat, k ≤ q ∧ i = .int .i64 k ∧ t = .int .i64 p ∧ IsPow p k ∧ p ≤ 8) (fun _ i => q - (intOf i).toNat)
  case atStart => exact ⟨0, 1, by omega, rfl, rfl, ⟨rfl, by omega⟩, by omega⟩
  case round =>
    obtain ⟨k, p, hk, rfl, rfl, hp, hp8⟩ := hrel
    by_cases hkq : k < q
    · go_wp2
      go_round
      case rel => 
        refine ⟨k + 1, p * 2, by omega, by go_num, by go_num, ⟨by rw [hp.1, Nat.pow_succ], ?_⟩, ?_⟩ <;>
        · have := hp.1
          have h2 : 2 ^ k ≤ 2 ^ 2 := Nat.pow_le_pow_right (by omega) (by omega)
          omega
      case measure => simp [intOf]; omega
    · have hkq' : k = q := by omega
      subst hkq'
      obtain rfl : p = s := by rw [hp.1, hs.out]
      clear hs hp hkq
      by_cases hlt : n < p
      · go_wp2
        go_ret2
        exact ⟨by simp, rfl⟩
      · go_wp2
        go_loop [6, 7] (fun t i => ∃ j : Nat, j + 1 ≤ p ∧ i = .int .i64 (j + 1 : Nat) ∧ t = .int .u64 (be (x % 64) (l.take j))) (fun _ i => p - (intOf i).toNat)
        case atStart => exact ⟨0, hs1, rfl, rfl⟩
        case round =>
          obtain ⟨j, hj, rfl, rfl⟩ := hrel
          by_cases hjl : j + 1 < p
          · have hcell := hl j (by omega)
            rw [Nat.add_comm 1 j] at hcell
            have hkl : j < l.length := by have := HL.out; omega
            have hbb := be_bound (x % 64) (l.take j) (by omega) (fun y hy => wf_u8 (hlw y (List.mem_of_mem_take hy)))
            have hb0 : 0 ≤ be (x % 64) (l.take j) := hbb.1
            have hb1 : be (x % 64) (l.take j) ≤ 18014398509481983 := by
              have h2 := hbb.2
              rw [List.length_take_of_le (by omega)] at h2
              have h3 := pow6 j (by omega)
              have h4 : (x % 64 + 1) * 256 ^ j ≤ 64 * 281474976710656 := by
                refine Int.le_trans (Int.mul_le_mul_of_nonneg_right (show x % 64 + 1 ≤ 64 by omega) (Int.le_of_lt (pow_pos' j))) ?_
                exact Int.mul_le_mul_of_nonneg_left h3 (by omega)
              omega
            have hyy := wf_u8 (wf_getD hlw j hkl)
            have hy0 : 0 ≤ l[j]?.getD 0 := hyy.1
            have hy1 : l[j]?.getD 0 ≤ 255 := hyy.2
            have ht := Lib.hid (show be (x % 64) (l.take (j + 1)) = be (x % 64) (l.take j) * 256 + l[j]?.getD 0 by
              rw [List.take_add_one, List.getElem?_eq_getElem hkl]; exact be_snoc _ _ _)
            clear hl hbb hyy hlw hkl
            go_wp2
            go_round
            case rel => exact ⟨j + 1, by omega, by go_num, by rw [ht.out]⟩
            case measure => simp [intOf]; omega
          · go_wp2
            go_ret2
            have : j = p - 1 := by omega
            subst this
            exact ⟨by simp, rfl⟩

set_option maxHeartbeats 400000 in
theorem rtake_empty (A : Option Addr) (c : Nat) (w : World) :
    Calls Tryd.prog 16 #[.slice A 0 c] w fun e w' => e = .returned (.tuple #[.int .u64 0, .int .i64 0]) ∧ w = w' := by
  go_enter Tryd.func16, Tryd.ntmps16
  go_wp2
  go_ret2
  exact ⟨rfl, rfl⟩

theorem rtake_any (v : Value) (l : List Int) (w : World) (h : Sl .u8 w v l) :
    Calls Tryd.prog 16 #[v] w fun e w' => e = .returned (.tuple #[.int .u64 (tkN l), .int .i64 (tkS l)]) ∧ w = w' := by
  cases l with
  | nil =>
    obtain ⟨A, c, rfl, _⟩ := h
    exact rtake_empty A c w
  | cons x r =>
    have hwf := h.choose_spec.choose_spec.2.2.2.2
    obtain ⟨b, off, c, rfl, hlc, hcm, hc⟩ := h.cells (by simp)
    have hx := wf_u8 (hwf x (by simp))
    have h0 : w.cell? ⟨b, off, none⟩ = some (.int .u8 x) := by simpa using hc 0 (by simp)
    have hr : ∀ j, j + 1 < (x :: r).length → w.cell? ⟨b, off + (1 + j), none⟩ = some (.int .u8 (r[j]?.getD 0)) := fun j hj => by
      have := hc (j + 1) hj
      rw [Nat.add_comm j 1] at this
      rw [this, Nat.add_comm 1 j]
      simp
    obtain ⟨s, hs, hw, hs0, hs8⟩ := pow4 x hx.1 hx.2
    simp only [tkN, tkS, ← hs]
    exact rtake_core b off _ c (x / 64).toNat s x r w (by simp) hlc hcm (by omega) hs hs0 hs8 (show _ = _ by omega) (by omega) (by omega) hx.1 hx.2 h0 hr (by simp) (fun y hy => hwf y (by simp [hy]))

end Go.Proofs.YtaifocfnkhgpoaaDoor
