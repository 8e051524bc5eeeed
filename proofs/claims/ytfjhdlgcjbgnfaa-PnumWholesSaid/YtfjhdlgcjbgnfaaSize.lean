/-
  Contracts of distance and Size.
-/
import Derived.Test.YtfjhdlgcjbgnfaaMath
namespace Go.Proofs.Ytfjhdlgcjbgnfaa
open Go.RowKit

theorem wrap_u64' (n : Int) : IntKind.u64.wrap n = n % 18446744073709551616 := by simp [IntKind.wrap, IntKind.bits, IntKind.signed]

/-- How far a number is ahead of what was acknowledged. -/
def dist (full acked : Int) : Int := if acked < 0 then (full + 1) % 18446744073709551616 else if full < acked then 0 else full - acked

set_option maxHeartbeats 400000 in
theorem distance_any (full acked : Int) (w : World) (h0 : 0 ≤ full) (h1 : full ≤ 18446744073709551615) (a0 : -9223372036854775808 ≤ acked) (a1 : acked ≤ 9223372036854775807) :
    Calls Try.prog 14 #[.int .u64 full, .int .i64 acked] w fun e w' => e = .returned (.int .u64 (dist full acked)) ∧ w = w' := by
  by_cases hn : acked < 0
  · have hd : dist full acked = (full + 1) % 18446744073709551616 := by unfold dist; rw [if_pos hn]
    rw [hd]
    clear hd
    go_enter Try.func14, Try.ntmps14
    go_wp2
    go_ret
    exact ⟨ret_u64 (wrap_u64' _), rfl⟩
  · by_cases hlt : full < acked
    · have hd : dist full acked = 0 := by unfold dist; rw [if_neg hn, if_pos hlt]
      rw [hd]
      clear hd
      go_enter Try.func14, Try.ntmps14
      go_wp2
      go_ret
      exact ⟨rfl, rfl⟩
    · have hd : dist full acked = full - acked := by unfold dist; rw [if_neg hn, if_neg hlt]
      rw [hd]
      clear hd
      go_enter Try.func14, Try.ntmps14
      go_wp2
      go_ret
      exact ⟨rfl, rfl⟩

/-- How many bytes are sent. -/
def sz (d : Int) : Int := if d < 128 then 1 else if d < 32768 then 2 else if d < 8388608 then 3 else 4

set_option maxHeartbeats 400000 in
theorem size_any (full acked : Int) (w : World) (h0 : 0 ≤ full) (h1 : full ≤ 18446744073709551615) (a0 : -9223372036854775808 ≤ acked) (a1 : acked ≤ 9223372036854775807) :
    Calls Try.prog 9 #[.int .u64 full, .int .i64 acked] w fun e w' => e = .returned (.int .i64 (sz (dist full acked))) ∧ w = w' := by
  have D := Lib.hid (distance_any full acked w h0 h1 a0 a1)
  have hd : 0 ≤ dist full acked ∧ dist full acked ≤ 18446744073709551615 := by unfold dist; split <;> (try split) <;> omega
  obtain ⟨d, e⟩ : ∃ d, d = dist full acked := ⟨_, rfl⟩
  rw [← e] at D hd ⊢
  obtain ⟨d0, d1⟩ := hd
  clear e
  go_enter Try.func9, Try.ntmps9
  go_wp2_with (go_at_call 14; with_reducible refine D.out.mono ?_; rintro e w' ⟨rfl, rfl⟩)
  clear D
  go_loop [6] (fun i => ∃ k : Nat, 1 ≤ k ∧ k ≤ 4 ∧ i = .int .i64 k ∧ (k = 1 ∨ (k = 2 ∧ 128 ≤ d) ∨ (k = 3 ∧ 32768 ≤ d) ∨ (k = 4 ∧ 8388608 ≤ d))) (fun i => 4 - (intOf i).toNat)
  case atStart => exact ⟨1, by omega, by omega, rfl, .inl rfl⟩
  case round =>
    obtain ⟨k, hk1, hk4, rfl, hk⟩ := hrel
    rcases hk with rfl | ⟨rfl, hk⟩ | ⟨rfl, hk⟩ | ⟨rfl, hk⟩
    · by_cases hc : d < 128
      · go_wp2
        go_ret
        exact ⟨by unfold sz; rw [if_pos hc]; rfl, rfl⟩
      · go_wp2
        go_round
        case rel => exact ⟨2, by omega, by omega, rfl, .inr (.inl ⟨rfl, by omega⟩)⟩
        case measure => simp [intOf]
    · by_cases hc : d < 32768
      · go_wp2
        go_ret
        exact ⟨by unfold sz; rw [if_neg (by omega), if_pos hc]; rfl, rfl⟩
      · go_wp2
        go_round
        case rel => exact ⟨3, by omega, by omega, rfl, .inr (.inr (.inl ⟨rfl, by omega⟩))⟩
        case measure => simp [intOf]
    · by_cases hc : d < 8388608
      · go_wp2
        go_ret
        exact ⟨by unfold sz; rw [if_neg (by omega), if_neg (by omega), if_pos hc]; rfl, rfl⟩
      · go_wp2
        go_round
        case rel => exact ⟨4, by omega, by omega, rfl, .inr (.inr (.inr ⟨rfl, by omega⟩))⟩
        case measure => simp [intOf]
    · go_wp2
      go_ret
      exact ⟨by unfold sz; rw [if_neg (by omega), if_neg (by omega), if_neg (by omega)]; rfl, rfl⟩
end Go.Proofs.Ytfjhdlgcjbgnfaa
