/-
  The landed sha: words turned right.
-/
import Derived.Test.YtiiifcfgfmoiaaaRSha5
namespace Go.Proofs.Ytiiifcfgfmoiaaa
open Go.RowKit

theorem rl_int (n k : Nat) (a b : Int) (hn : n < 4294967296) (ha : a = (n / 2 ^ k : Nat)) (hb : b = (n * 2 ^ (32 - k) % 4294967296 : Nat)) : bits .or .u32 b a = Sha.rr n k := by
  rw [ha, hb, u32_or_nat _ _ (Nat.mod_lt _ (by decide)) (Nat.lt_of_le_of_lt (Nat.div_le_self _ _) hn), Nat.or_comm]
  rfl

set_option maxHeartbeats 1000000 in
theorem rotl_any (n k : Nat) (w : World) (hn : n < 4294967296) (hk : k = 7 ∨ k = 18 ∨ k = 17 ∨ k = 19 ∨ k = 6 ∨ k = 11 ∨ k = 25 ∨ k = 2 ∨ k = 13 ∨ k = 22) :
    Calls Try.prog 55 #[.int .u32 n, .int .i64 (-(k : Int))] w fun e w' => e = .returned (.int .u32 (Sha.rr n k)) ∧ w' = w := by
  have hb : bits .and .u64 (IntKind.u64.wrap (-(k : Int))) 31 = ((32 - k : Nat) : Int) := by
    rcases hk with rfl | rfl | rfl | rfl | rfl | rfl | rfl | rfl | rfl | rfl <;> decide
  rcases hk with rfl | rfl | rfl | rfl | rfl | rfl | rfl | rfl | rfl | rfl <;>
  · simp only [Int.cast_ofNat_Int, Nat.reduceSub] at hb
    go_enter Try.func55, Try.ntmps55
    go_wp2
    go_ret
    exact ⟨ret_u32 (rl_int n _ _ _ hn (by omega) (by omega)), rfl⟩

set_option maxHeartbeats 1000000 in
theorem rt_any (n k : Nat) (kI : Int) (hkI : kI = (k : Int)) (w : World) (hn : n < 4294967296) (hk : k = 7 ∨ k = 18 ∨ k = 17 ∨ k = 19 ∨ k = 6 ∨ k = 11 ∨ k = 25 ∨ k = 2 ∨ k = 13 ∨ k = 22) :
    Calls Try.prog 46 #[.int .u32 n, .int .i64 kI] w fun e w' => e = .returned (.int .u32 (Sha.rr n k)) ∧ w' = w := by
  subst hkI
  have R := Lib.hid (rotl_any n k w hn hk)
  have hk2 : IntKind.i64.wrap (-(k : Int)) = -(k : Int) := IntWalk.i64_in _ ⟨by omega, by omega⟩
  clear hk
  go_enter Try.func46, Try.ntmps46
  go_wp2_with (go_at_call 55; with_reducible refine R.out.mono ?_; rintro e w1 ⟨rfl, rfl⟩)
  go_ret
  exact ⟨rfl, rfl⟩

theorem rots1_any (n : Nat) (w : World) (hn : n < 4294967296) :
    Calls Try.prog 40 #[.int .u32 n, .int .i64 6, .int .i64 11, .int .i64 25] w fun e w' => e = .returned (.int .u32 (Sha.S1 n : Nat)) ∧ w' = w := by
  have R1 := Lib.hid (rt_any n 6 6 rfl w hn (by simp))
  have R2 := Lib.hid (rt_any n 11 11 rfl w hn (by simp))
  have R3 := Lib.hid (rt_any n 25 25 rfl w hn (by simp))
  have E := Lib.hid (S1_int n hn)
  go_enter Try.func40, Try.ntmps40
  go_wp2_with (go_at_call 46; (first | (with_reducible refine R1.out.mono ?_) | (with_reducible refine R2.out.mono ?_) | (with_reducible refine R3.out.mono ?_)); rintro e w1 ⟨rfl, rfl⟩)
  go_ret
  exact ⟨ret_u32 E.out, rfl⟩
theorem rots0_any (n : Nat) (w : World) (hn : n < 4294967296) :
    Calls Try.prog 40 #[.int .u32 n, .int .i64 2, .int .i64 13, .int .i64 22] w fun e w' => e = .returned (.int .u32 (Sha.S0 n : Nat)) ∧ w' = w := by
  have R1 := Lib.hid (rt_any n 2 2 rfl w hn (by simp))
  have R2 := Lib.hid (rt_any n 13 13 rfl w hn (by simp))
  have R3 := Lib.hid (rt_any n 22 22 rfl w hn (by simp))
  have E := Lib.hid (S0_int n hn)
  go_enter Try.func40, Try.ntmps40
  go_wp2_with (go_at_call 46; (first | (with_reducible refine R1.out.mono ?_) | (with_reducible refine R2.out.mono ?_) | (with_reducible refine R3.out.mono ?_)); rintro e w1 ⟨rfl, rfl⟩)
  go_ret
  exact ⟨ret_u32 E.out, rfl⟩
end Go.Proofs.Ytiiifcfgfmoiaaa
