/-
  Contracts of Cut, number and nearest.
-/
import Derived.Test.YtfjhdlgcjbgnfaaSize
namespace Go.Proofs.Ytfjhdlgcjbgnfaa
open Go.RowKit

theorem u8info : (Try.prog.info? 5).map (fun i => (i.zero, i.size, i.bytes)) = some (some (.int .u8 0), 1, 1) := by kernel_rfl

/-- The cells of what is cut: the last j bytes are laid. -/
def cutCells (n : Int) (k j : Nat) : List Value := List.replicate (k - j) (.int .u8 0) ++ (bb n j).map (Value.int .u8)
theorem cut_length (n : Int) (k j : Nat) (h : j ≤ k) : (cutCells n k j).length = k := by simp [cutCells, bb_length]; omega
theorem cut_set (n : Int) (k j : Nat) (h : j < k) : (cutCells n k j).set (k - 1 - j) (.int .u8 (n / 256 ^ j % 256)) = cutCells n k (j + 1) := by
  unfold cutCells
  rw [show k - j = (k - 1 - j) + 1 by omega, List.replicate_succ', List.append_assoc, List.set_append_right _ _ (by simp)]
  rw [show k - (j + 1) = k - 1 - j by omega]
  simp [bb]

set_option maxHeartbeats 1000000 in
theorem cut_any (n : Int) (k : Nat) (w : World) (h0 : 0 ≤ n) (h1 : n ≤ 18446744073709551615) (hk1 : 1 ≤ k) (hk4 : k ≤ 4) :
    Calls Try.prog 10 #[.int .u64 n, .int .i64 k] w fun e w' => ∃ v, e = .returned v ∧ Sl .u8 w' v (bb n k) ∧ Keep [] w w' := by
  have m1 : max (k : Int) 1 = k := by omega
  have m2 : min (k : Int) 4 = k := by omega
  go_enter Try.func10, Try.ntmps10
  go_wp2_with (at_make; refine wl_make _ rfl _ _ 22 rfl 5 (.int .u8 0) 1 Try.underlying22 u8info rfl _ _ _ _ k k rfl rfl rfl rfl (Nat.le_refl _) (by omega) (by omega) ?_; intro w1 hB1 hK1 hz1)
  have HB1 := Lib.hid hB1
  have HK1 := Lib.hid hK1
  clear hB1 hK1 hz1
  go_loopw [0, 6] (fun m i wr => ∃ j : Nat, j ≤ k ∧ i = .int .i64 ((k : Int) - 1 - j) ∧ m = .int .u64 (n / 256 ^ j) ∧ Blk wr w.heap.size 5 (cutCells n k j).toArray ∧ Keep [] w wr) (fun _ i _ => (intOf i + 1).toNat)
  case atStart =>
    refine ⟨0, by omega, by go_num, by simp, ?_, HK1.out⟩
    have := HB1.out
    simpa [cutCells, bb] using this
  case round =>
    obtain ⟨j, hj, rfl, rfl, hB, hkeep⟩ := hrel
    by_cases hlt : j < k
    · have hX0 : 0 ≤ n / 256 ^ j := Int.ediv_nonneg h0 (Int.le_of_lt (pow_pos' _))
      have hX1 : n / 256 ^ j ≤ 18446744073709551615 := Int.le_trans (Int.ediv_le_self _ h0) h1
      obtain ⟨q, hq⟩ : ∃ q, q = k - 1 - j := ⟨_, rfl⟩
      have hset := cut_set n k j hlt
      rw [← hq] at hset
      have hc0 : wr.cell? ⟨w.heap.size, q, none⟩ = some (.int .u8 0) := by
        rw [hB.cell]
        simp [cutCells]
        rw [List.getElem?_append_left (by simp; omega)]
        rw [List.getElem?_replicate]
        simp; omega
      have hf0 := hB.frozen q
      have HD := Lib.hid (show n / 256 ^ j / 256 = n / 256 ^ (j + 1) by
        rw [Int.ediv_ediv_of_nonneg (Int.le_of_lt (pow_pos' _)), ← Int.pow_succ])
      have HB := Lib.hid hB
      have HS := Lib.hid hset
      have HE := Lib.hid hq
      have hqi : (k : Int) - 1 - j = (q : Int) := by omega
      have hqk : q < k := by omega
      rw [hqi]
      clear hB hset hq hqi m1 m2
      generalize hX : n / 256 ^ j = X at *
      clear hX
      go_wp2
      go_roundw
      case rel =>
        refine ⟨j + 1, by omega, by have := HE.out; congr 1; omega, by rw [HD.out], ?_, hkeep.setCell (.inr (Nat.le_refl _)) _⟩
        have := HB.out.set_ q (.int .u8 (X % 256))
        rw [← HS.out]
        simpa using this
      case measure => have := HE.out; simp [intOf]
    · obtain rfl : j = k := by omega
      have HB := Lib.hid hB
      clear hB m1 m2 HB1 HK1
      rw [show (j : Int) - 1 - j = -1 by omega]
      go_wp2
      go_ret
      refine ⟨.slice (some ⟨w.heap.size, 0, none⟩) j j, rfl, ?_, hkeep⟩
      have hb := Rd.of_blk HB.out
      refine ⟨_, j, by rw [bb_length], by rw [bb_length]; exact Nat.le_refl _, by omega, ?_, fun x hx => ?_⟩
      · simpa [cutCells] using hb
      · exact u8_wf (bb_wf _ _ x hx).1 (bb_wf _ _ x hx).2

theorem number_any (v : Value) (l : List Int) (w : World) (hv : Sl .u8 w v l) (hl : l.length ≤ 4) :
    Calls Try.prog 12 #[v] w fun e w' => e = .returned (.int .u64 (be 0 l)) ∧ w = w' := by
  go_enter Try.func12, Try.ntmps12
  obtain ⟨A, c, rfl, hc1, hc2, hr, hwf⟩ := hv
  have HR := Lib.hid hr
  have HW := Lib.hid hwf
  clear hr hwf
  go_wp2
  go_loop [3, 8] (fun n i => ∃ j : Nat, j ≤ l.length ∧ i = .int .i64 j ∧ n = .int .u64 (be 0 (l.take j))) (fun _ i => l.length - (intOf i).toNat)
  case atStart => exact ⟨0, by omega, rfl, rfl⟩
  case round =>
    obtain ⟨j, hj, rfl, rfl⟩ := hrel
    by_cases hlt : j < l.length
    · obtain ⟨b, off, rfl, hc⟩ := HR.out (by simp; omega)
      have hcell := hc j (.int .u8 (l[j]?.getD 0)) (by simp [hlt])
      have hbb := be_bound 0 (l.take j) (by omega) (fun y hy => wf_u8 (HW.out y (List.mem_of_mem_take hy)))
      have hb0 : 0 ≤ be 0 (l.take j) := hbb.1
      have hb1 : be 0 (l.take j) ≤ 16777216 := by
        have h2 := hbb.2
        rw [List.length_take_of_le (by omega)] at h2
        have h3 : (256 : Int) ^ j ≤ 16777216 := by
          rcases (show j = 0 ∨ j = 1 ∨ j = 2 ∨ j = 3 by omega) with rfl | rfl | rfl | rfl <;> decide
        omega
      have hyy := wf_u8 (wf_getD HW.out j hlt)
      have hy0 : 0 ≤ l[j]?.getD 0 := hyy.1
      have hy1 : l[j]?.getD 0 ≤ 255 := hyy.2
      have hor := Lib.hid (or_join _ _ hb0 (by omega) hy0 hy1)
      have ht := Lib.hid (show be 0 (l.take (j + 1)) = be 0 (l.take j) * 256 + l[j]?.getD 0 by
        rw [List.take_add_one, List.getElem?_eq_getElem hlt]; exact be_snoc _ _ _)
      clear hc hbb hyy HR HW
      generalize l[j]?.getD 0 = y at *
      go_wp2
      go_round
      case rel => exact ⟨j + 1, by omega, by go_num, by rw [hor.out, ht.out]⟩
      case measure => simp [intOf]; omega
    · obtain rfl : j = l.length := by omega
      rw [List.take_length]
      clear HR HW
      go_wp2
      go_ret
      exact ⟨rfl, rfl⟩

/-- The number nearest to what is expected. -/
def nst (x E M : Int) : Int := if x + M / 2 ≤ E ∧ x < 4611686018427387904 - M then x + M else if E + M / 2 < x ∧ M ≤ x then x - M else x
theorem nearest_any (x E M : Int) (w : World) (x0 : 0 ≤ x) (x1 : x ≤ 4611686022722355199) (e0 : 0 ≤ E) (e1 : E ≤ 4611686018427387903) (m0 : 2 ≤ M) (m1 : M ≤ 4294967296) :
    Calls Try.prog 11 #[.int .u64 x, .int .u64 E, .int .u64 M] w fun e w' => e = .returned (.int .u64 (nst x E M)) ∧ w = w' := by
  by_cases h1 : x + M / 2 ≤ E
  · by_cases h2 : x < 4611686018427387904 - M
    · have e : nst x E M = x + M := by unfold nst; rw [if_pos ⟨h1, h2⟩]
      rw [e]; clear e
      go_enter Try.func11, Try.ntmps11
      go_wp2
      go_ret
      exact ⟨rfl, rfl⟩
    · have e : nst x E M = x := by unfold nst; rw [if_neg (by omega), if_neg (by omega)]
      rw [e]; clear e
      go_enter Try.func11, Try.ntmps11
      go_wp2
      go_ret
      exact ⟨rfl, rfl⟩
  · by_cases h2 : E + M / 2 < x
    · by_cases h3 : M ≤ x
      · have e : nst x E M = x - M := by unfold nst; rw [if_neg (by omega), if_pos ⟨h2, h3⟩]
        rw [e]; clear e
        go_enter Try.func11, Try.ntmps11
        go_wp2
        go_ret
        exact ⟨rfl, rfl⟩
      · have e : nst x E M = x := by unfold nst; rw [if_neg (by omega), if_neg (by omega)]
        rw [e]; clear e
        go_enter Try.func11, Try.ntmps11
        go_wp2
        go_ret
        exact ⟨rfl, rfl⟩
    · have e : nst x E M = x := by unfold nst; rw [if_neg (by omega), if_neg (by omega)]
      rw [e]; clear e
      go_enter Try.func11, Try.ntmps11
      go_wp2
      go_ret
      exact ⟨rfl, rfl⟩
end Go.Proofs.Ytfjhdlgcjbgnfaa
