/-
  The contract of the document's answer to Whole.
-/
import Derived.Test.YtfjhdlgcjbgnfaaAwk2
namespace Go.Proofs.Ytfjhdlgcjbgnfaa
open Go.RowKit

theorem away_more (a b : Int) (w : World) (h : b < a) (hb : 0 ≤ b) (ha : a ≤ 18446744073709551615) :
    Calls Try.prog 13 #[.int .u64 a, .int .u64 b] w fun e w' => e = .returned (.int .u64 (a - b)) ∧ w = w' := by
  go_enter Try.func13, Try.ntmps13
  go_wp2
  go_ret
  exact ⟨rfl, rfl⟩
theorem away_less (a b : Int) (w : World) (h : a ≤ b) (hb : 0 ≤ a) (ha : b ≤ 18446744073709551615) :
    Calls Try.prog 13 #[.int .u64 a, .int .u64 b] w fun e w' => e = .returned (.int .u64 (b - a)) ∧ w = w' := by
  go_enter Try.func13, Try.ntmps13
  go_wp2
  go_ret
  exact ⟨rfl, rfl⟩

def Pow256 (p : Int) (k : Nat) : Prop := p = 256 ^ k

set_option maxHeartbeats 2000000 in
theorem rwhole_any (low E M : Int) (s : Nat) (w : World) (hs1 : 1 ≤ s) (hs4 : s ≤ 4) (hM : Hid (M = 256 ^ s)) (m0 : 2 ≤ M) (m1 : M ≤ 4294967296) (m2 : M % 2 = 0)
    (e0 : 0 ≤ E) (e1 : E ≤ 4611686018427387903) (l0 : 0 ≤ low) (l1 : low < M) :
    Calls Try.prog 8 #[.int .u64 low, .int .i64 s, .int .u64 E] w fun e w' => e = .returned (.int .u64 (nst (E - E % M + low) E M)) ∧ w = w' := by
  have q0 : 0 ≤ E % M := Int.emod_nonneg _ (by omega)
  have q1 : E % M < M := Int.emod_lt_of_pos _ (by omega)
  have q2 : E % M ≤ E := by
    have h1 := Int.emod_add_mul_ediv E M
    have h2 : 0 ≤ E / M := Int.ediv_nonneg e0 (by omega)
    have h3 := Int.mul_nonneg (show (0 : Int) ≤ M by omega) h2
    omega
  go_enter Try.func8, Try.ntmps8
  go_wp2
  go_loop [7, 8] (fun t i => ∃ (k : Nat) (p : Int), k ≤ s ∧ i = .int .i64 k ∧ t = .int .u64 p ∧ Pow256 p k ∧ 1 ≤ p ∧ p ≤ 4294967296) (fun _ i => s - (intOf i).toNat)
  case atStart => exact ⟨0, 1, by omega, rfl, rfl, rfl, by omega, by omega⟩
  case round =>
    obtain ⟨k, p, hk, rfl, rfl, hp, hp1, hp4⟩ := hrel
    by_cases hlt : k < s
    · clear q0 q1 q2
      go_wp2
      go_round
      case rel =>
        have h256 : p * 256 = 256 ^ (k + 1) := by rw [Int.pow_succ, show p = 256 ^ k from hp]
        have hle : (256 : Int) ^ (k + 1) ≤ 4294967296 := by
          rcases (show k = 0 ∨ k = 1 ∨ k = 2 ∨ k = 3 by omega) with rfl | rfl | rfl | rfl <;> decide
        exact ⟨k + 1, p * 256, by omega, by go_num, by go_num, h256, by omega, by omega⟩
      case measure => simp [intOf]; omega
    · obtain rfl : k = s := by omega
      obtain rfl : p = M := by rw [hM.out]; exact hp
      clear hp hM hlt hk hp1 hp4
      generalize hB : E - E % p + low = B at *
      by_cases hbe : B ≤ E
      · have A0 := fun W => Lib.hid (away_less B E W hbe (by omega) (by omega))
        have A1 := fun W => Lib.hid (away_more (B + p) E W (by omega) (by omega) (by omega))
        have A2 := fun (h : p ≤ B) W => Lib.hid (away_less (B - p) E W (by omega) (by omega) (by omega))
        go_wp2_with (first
          | (go_at_call 13; with_reducible refine (A0 _).out.mono ?_; rintro e w' ⟨rfl, rfl⟩)
          | (go_at_call 13; with_reducible refine (A1 _).out.mono ?_; rintro e w' ⟨rfl, rfl⟩)
          | (go_at_call 13; with_reducible refine (A2 (by omega) _).out.mono ?_; rintro e w' ⟨rfl, rfl⟩))
        all_goals
          go_ret
          exact ⟨ret_u64 (by unfold nst; repeat' split
                             all_goals omega), rfl⟩
      · have A0 := fun W => Lib.hid (away_more B E W (by omega) (by omega) (by omega))
        have A1 := fun W => Lib.hid (away_more (B + p) E W (by omega) (by omega) (by omega))
        have A2 := fun (h : p ≤ B) W => Lib.hid (away_less (B - p) E W (by omega) (by omega) (by omega))
        go_wp2_with (first
          | (go_at_call 13; with_reducible refine (A0 _).out.mono ?_; rintro e w' ⟨rfl, rfl⟩)
          | (go_at_call 13; with_reducible refine (A1 _).out.mono ?_; rintro e w' ⟨rfl, rfl⟩)
          | (go_at_call 13; with_reducible refine (A2 (by omega) _).out.mono ?_; rintro e w' ⟨rfl, rfl⟩))
        all_goals
          go_ret
          exact ⟨ret_u64 (by unfold nst; repeat' split
                             all_goals omega), rfl⟩

end Go.Proofs.Ytfjhdlgcjbgnfaa
