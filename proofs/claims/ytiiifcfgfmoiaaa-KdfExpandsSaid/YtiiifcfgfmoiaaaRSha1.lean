/-
  The document's answer to Sum: its small parts.
-/
import Derived.Test.YtiiifcfgfmoiaaaSha
import Derived.Laws.BitsAllLaws
import Derived.Deep.QuietTactic
import Derived.BigQuiet
namespace Go.Proofs.Ytiiifcfgfmoiaaa
open Go.RowKit

theorem rr_int (n k : Nat) (a b : Int) (hn : n < 4294967296) (ha : a = (n / 2 ^ k : Nat)) (hb : b = (n * 2 ^ (32 - k) % 4294967296 : Nat)) : bits .or .u32 a b = Sha.rr n k := by
  rw [ha, hb, u32_or_nat _ _ (Nat.lt_of_le_of_lt (Nat.div_le_self _ _) hn) (Nat.mod_lt _ (by decide))]
  rfl
theorem ret_u32 {a b : Int} (h : a = b) : Ending.returned (.int .u32 a) = .returned (.int .u32 b) := by rw [h]

set_option maxHeartbeats 1000000 in
theorem right_any (n k : Nat) (w : World) (hn : n < 4294967296) (hk : k = 7 ∨ k = 18 ∨ k = 17 ∨ k = 19 ∨ k = 6 ∨ k = 11 ∨ k = 25 ∨ k = 2 ∨ k = 13 ∨ k = 22) :
    Calls Try.prog 27 #[.int .u32 n, .int .i64 k] w fun e w' => e = .returned (.int .u32 (Sha.rr n k)) ∧ ∃ m, w' = w.drewN m := by
  rcases hk with rfl | rfl | rfl | rfl | rfl | rfl | rfl | rfl | rfl | rfl <;>
  · go_enter Try.func27, Try.ntmps27
    go_wp2
    go_quiet (fail)
    go_wp2
    go_ret
    exact ⟨ret_u32 (rr_int n _ _ _ hn (by omega) (by omega)), _, rfl⟩

theorem rounds_any (w : World) :
    Calls Try.prog 26 #[] w fun e w' => ∃ v, e = .returned v ∧ Sl .u32 w' v (Sha.K.map fun (n : Nat) => (n : Int)) ∧ Keep [] w w' ∧ (∀ g, v.ownBlock = some g → w.heap.size ≤ g) := by
  go_enter Try.func26, Try.ntmps26
  go_wp2
  go_ret
  refine ⟨.slice (some ⟨w.heap.size, 0, none⟩) 64 64, rfl, ⟨_, 64, rfl, by decide, by decide, ?_, by decide⟩, (Keep.refl _ _).alloc _, by intro g hg; simp [Value.ownBlock] at hg; omega⟩
  exact Rd.of_blk (Blk.new _ _ _)
end Go.Proofs.Ytiiifcfgfmoiaaa
