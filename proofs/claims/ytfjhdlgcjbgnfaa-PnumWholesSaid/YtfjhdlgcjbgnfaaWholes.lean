/-
  The law PnumWholes.
-/
import Derived.Test.YtfjhdlgcjbgnfaaRWhole
namespace Go.Proofs.Ytfjhdlgcjbgnfaa
open Go.RowKit

set_option maxHeartbeats 2000000 in
theorem pnumWholes_walk (v : Value) (l : List Int) (g x : Int) (w : World) (hv : Sl .u8 w v l) (hg : (Lit.int .i64 g).wf = true) (hx : (Lit.int .u8 x).wf = true) :
    Calls Try.prog 3 #[v, .int .i64 g, .int .u8 x] w fun e w' => e = .returned (.bool true) ∧ Keep [] w w' := by
  obtain ⟨g0, g1⟩ := wf_i64 hg
  obtain ⟨x0, x1⟩ := wf_u8 hx
  have A := Lib.hid (awake2_any w)
  have V := Lib.hid hv
  clear hg hx hv
  go_enter Try.func3, Try.ntmps3
  go_wp2_with (go_at_call 6; with_reducible refine A.out.mono ?_; rintro e w1 ⟨rfl, hk⟩)
  obtain ⟨W, hW⟩ : ∃ W, W = w1.alloc (.cells #[.int .i64 g, .int .i64 (x - 3)] 2) := ⟨_, rfl⟩
  have hk2 : Keep [] w W := by rw [hW]; exact hk.alloc _
  have hB : Blk W w1.heap.size 2 #[.int .i64 g, .int .i64 (x - 3)] := by rw [hW]; exact Blk.new _ _ _
  have hs := V.out.keep0 hk2
  obtain ⟨B, hBe⟩ : ∃ B, B = w1.heap.size := ⟨_, rfl⟩
  rw [← hW, ← hBe]
  rw [← hBe] at hB
  have HB := Lib.hid hB
  have HS := Lib.hid hs
  clear hW hB hs hk A V hBe
  go_loop [23] (fun i => ∃ j : Nat, j ≤ 2 ∧ i = .int .i64 j) (fun i => 2 - (intOf i).toNat)
  case atStart => exact ⟨0, by omega, rfl⟩
  case round =>
    obtain ⟨j, hj, rfl⟩ := hrel
    by_cases hlt : j < 2
    · obtain ⟨y, hy, y0, y1⟩ : ∃ y, W.cell? ⟨B, j, none⟩ = some (.int .i64 y) ∧ -9223372036854775808 ≤ y ∧ y ≤ 9223372036854775807 := by
        rw [HB.out.cell]
        rcases (show j = 0 ∨ j = 1 by omega) with rfl | rfl
        · exact ⟨g, rfl, by omega, by omega⟩
        · exact ⟨x - 3, rfl, by omega, by omega⟩
      by_cases hl : l.length < 1 ∨ 4 < l.length
      · have R := Lib.hid (whole_size v l y W HS.out hl)
        obtain ⟨A, c, rfl, hc1, hc2, hr, hwf⟩ := HS.out
        clear hr hwf HS
        generalize l.length = n at *
        go_wp2_with (go_at_call 7; with_reducible refine R.out.mono ?_; rintro e w' ⟨rfl, rfl⟩)
        all_goals exact ⟨⟨j + 1, by omega, by go_num⟩, by simp [intOf]; omega⟩
      obtain ⟨l1, l4⟩ : 1 ≤ l.length ∧ l.length ≤ 4 := by omega
      clear hl
      by_cases hym : 4611686018427387903 ≤ y
      · have R := Lib.hid (whole_range v l y W HS.out l1 l4 hym)
        obtain ⟨A, c, rfl, hc1, hc2, hr, hwf⟩ := HS.out
        clear hr hwf HS
        generalize l.length = n at *
        go_wp2_with (go_at_call 7; with_reducible refine R.out.mono ?_; rintro e w' ⟨rfl, rfl⟩)
        all_goals exact ⟨⟨j + 1, by omega, by go_num⟩, by simp [intOf]; omega⟩
      · have R := Lib.hid (whole_ok v l y W HS.out l1 l4 y0 (by omega))
        have hbe := be_bound 0 l (by omega) (fun y hy => wf_u8 (HS.out.wf y hy))
        have hM : (256 : Int) ^ l.length = 256 ∨ (256 : Int) ^ l.length = 65536 ∨ (256 : Int) ^ l.length = 16777216 ∨ (256 : Int) ^ l.length = 4294967296 := by
          rcases (show l.length = 1 ∨ l.length = 2 ∨ l.length = 3 ∨ l.length = 4 by omega) with h | h | h | h <;> rw [h] <;> decide
        by_cases hneg : y < 0
        · have he : expd y = 0 := by unfold expd; split <;> omega
          have T := Lib.hid (rwhole_any (be 0 l) (expd y) (256 ^ l.length) l.length W (by omega) (by omega) rfl (by omega) (by omega) (by omega) (by omega) (by omega) (by omega) (by omega))
          change Hid (Calls _ _ _ W fun e w' => e = .returned (.int .u64 (whl l y)) ∧ W = w') at T
          generalize whl l y = z at *
          rw [he] at T
          clear he hM hbe
          obtain ⟨n, hn⟩ : ∃ n, n = l.length := ⟨_, rfl⟩
          obtain ⟨t, ht⟩ : ∃ t, t = be 0 l := ⟨_, rfl⟩
          rw [← hn, ← ht] at T
          rw [← hn] at l1 l4
          obtain ⟨A, c, rfl, hc1, hc2, hr, hwf⟩ := HS.out
          rw [← hn] at R hc1 ⊢
          have HN := Lib.hid hn
          have HT := Lib.hid ht
          have HR := Lib.hid hr
          have HW := Lib.hid hwf
          clear hr hwf HS hn ht
          go_wp2_with (go_at_call 7; with_reducible refine R.out.mono ?_; rintro e w' ⟨rfl, rfl⟩)
          go_loop [12, 62] (fun s i => ∃ k : Nat, k ≤ n ∧ i = .int .i64 k ∧ s = .int .u64 (be 0 (l.take k))) (fun _ i => n - (intOf i).toNat)
          case atStart => exact ⟨0, by omega, rfl, rfl⟩
          case round =>
            obtain ⟨k, hk, rfl, rfl⟩ := hrel
            by_cases hkn : k < n
            · have hkl : k < l.length := by rw [← HN.out]; exact hkn
              obtain ⟨b, off, rfl, hc⟩ := HR.out (by simp; omega)
              have hcell := hc k (.int .u8 (l[k]?.getD 0)) (by simp [hkl])
              have hbb := be_bound 0 (l.take k) (by omega) (fun y hy => wf_u8 (HW.out y (List.mem_of_mem_take hy)))
              have hb0 : 0 ≤ be 0 (l.take k) := hbb.1
              have hb1 : be 0 (l.take k) ≤ 16777216 := by
                have h2 := hbb.2
                rw [List.length_take_of_le (by omega)] at h2
                have h3 : (256 : Int) ^ k ≤ 16777216 := by
                  rcases (show k = 0 ∨ k = 1 ∨ k = 2 ∨ k = 3 by omega) with rfl | rfl | rfl | rfl <;> decide
                omega
              have hyy := wf_u8 (wf_getD HW.out k hkl)
              have hu0 : 0 ≤ l[k]?.getD 0 := hyy.1
              have hu1 : l[k]?.getD 0 ≤ 255 := hyy.2
              have ht := Lib.hid (show be 0 (l.take (k + 1)) = be 0 (l.take k) * 256 + l[k]?.getD 0 by
                rw [List.take_add_one, List.getElem?_eq_getElem hkl]; exact be_snoc _ _ _)
              clear hc hbb hyy HR HW hkl HT
              generalize l[k]?.getD 0 = u at *
              go_wp2
              go_round
              case rel => exact ⟨k + 1, by omega, by go_num, by rw [ht.out]⟩
              case measure => simp [intOf]; omega
            · obtain rfl : k = n := by omega
              rw [show be 0 (l.take k) = t by rw [HN.out, List.take_length, HT.out]]
              clear HR HW
              go_wp2_with (go_at_call 8; with_reducible refine T.out.mono ?_; rintro e w' ⟨rfl, rfl⟩)
              all_goals exact ⟨⟨j + 1, by omega, by go_num⟩, by simp [intOf]; omega⟩
        · have he : expd y = (y + 1) := by unfold expd; split <;> omega
          have T := Lib.hid (rwhole_any (be 0 l) (expd y) (256 ^ l.length) l.length W (by omega) (by omega) rfl (by omega) (by omega) (by omega) (by omega) (by omega) (by omega) (by omega))
          change Hid (Calls _ _ _ W fun e w' => e = .returned (.int .u64 (whl l y)) ∧ W = w') at T
          generalize whl l y = z at *
          rw [he] at T
          clear he hM hbe
          obtain ⟨n, hn⟩ : ∃ n, n = l.length := ⟨_, rfl⟩
          obtain ⟨t, ht⟩ : ∃ t, t = be 0 l := ⟨_, rfl⟩
          rw [← hn, ← ht] at T
          rw [← hn] at l1 l4
          obtain ⟨A, c, rfl, hc1, hc2, hr, hwf⟩ := HS.out
          rw [← hn] at R hc1 ⊢
          have HN := Lib.hid hn
          have HT := Lib.hid ht
          have HR := Lib.hid hr
          have HW := Lib.hid hwf
          clear hr hwf HS hn ht
          go_wp2_with (go_at_call 7; with_reducible refine R.out.mono ?_; rintro e w' ⟨rfl, rfl⟩)
          go_loop [12, 62] (fun s i => ∃ k : Nat, k ≤ n ∧ i = .int .i64 k ∧ s = .int .u64 (be 0 (l.take k))) (fun _ i => n - (intOf i).toNat)
          case atStart => exact ⟨0, by omega, rfl, rfl⟩
          case round =>
            obtain ⟨k, hk, rfl, rfl⟩ := hrel
            by_cases hkn : k < n
            · have hkl : k < l.length := by rw [← HN.out]; exact hkn
              obtain ⟨b, off, rfl, hc⟩ := HR.out (by simp; omega)
              have hcell := hc k (.int .u8 (l[k]?.getD 0)) (by simp [hkl])
              have hbb := be_bound 0 (l.take k) (by omega) (fun y hy => wf_u8 (HW.out y (List.mem_of_mem_take hy)))
              have hb0 : 0 ≤ be 0 (l.take k) := hbb.1
              have hb1 : be 0 (l.take k) ≤ 16777216 := by
                have h2 := hbb.2
                rw [List.length_take_of_le (by omega)] at h2
                have h3 : (256 : Int) ^ k ≤ 16777216 := by
                  rcases (show k = 0 ∨ k = 1 ∨ k = 2 ∨ k = 3 by omega) with rfl | rfl | rfl | rfl <;> decide
                omega
              have hyy := wf_u8 (wf_getD HW.out k hkl)
              have hu0 : 0 ≤ l[k]?.getD 0 := hyy.1
              have hu1 : l[k]?.getD 0 ≤ 255 := hyy.2
              have ht := Lib.hid (show be 0 (l.take (k + 1)) = be 0 (l.take k) * 256 + l[k]?.getD 0 by
                rw [List.take_add_one, List.getElem?_eq_getElem hkl]; exact be_snoc _ _ _)
              clear hc hbb hyy HR HW hkl HT
              generalize l[k]?.getD 0 = u at *
              go_wp2
              go_round
              case rel => exact ⟨k + 1, by omega, by go_num, by rw [ht.out]⟩
              case measure => simp [intOf]; omega
            · obtain rfl : k = n := by omega
              rw [show be 0 (l.take k) = t by rw [HN.out, List.take_length, HT.out]]
              clear HR HW
              go_wp2_with (go_at_call 8; with_reducible refine T.out.mono ?_; rintro e w' ⟨rfl, rfl⟩)
              all_goals exact ⟨⟨j + 1, by omega, by go_num⟩, by simp [intOf]; omega⟩
    · go_wp2
      go_ret
      exact ⟨rfl, hk2⟩

end Go.Proofs.Ytfjhdlgcjbgnfaa
