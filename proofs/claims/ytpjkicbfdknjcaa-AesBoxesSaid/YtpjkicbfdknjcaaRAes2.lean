/-
  The document's answer to Box, and to Boxes.
-/
import Derived.Test.YtpjkicbfdknjcaaRAes1
namespace Go.Proofs.Ytpjkicbfdknjcaa
open Go.RowKit

theorem rol_u8 (c n j : Nat) (A B : Int) (hc : c < 256) (hn : n < 256) (hA : A = ((n * 2 ^ j % 256 : Nat) : Int)) (hB : B = ((n / 2 ^ (8 - j) : Nat) : Int)) : bits .xor .u8 (c : Int) (bits .or .u8 A B) = ((c ^^^ Aes.rol n j : Nat) : Int) := by
  rw [hA, hB, u8_or_nat _ _ (Nat.mod_lt _ (by decide)) (Nat.lt_of_le_of_lt (Nat.div_le_self _ _) hn)]
  exact u8_xor_nat _ _ hc (Aes.rol_lt n j hn)

set_option maxRecDepth 100000 in
set_option maxHeartbeats 8000000 in
theorem rbox_any (x : Nat) (w : World) (hx : x < 256) :
    Calls Try.prog 12 #[.int .u8 x] w fun e w' => e = .returned (.int .u8 (Aes.box x : Nat)) ∧ ∃ m, w' = w.drewN m := by
  have TM := fun (k : Nat) w hk => Lib.hid (rtimes_any x k w hx hk)
  go_enter Try.func12, Try.ntmps12
  go_wp2_with fail
  go_loopw [3, 4] (fun s3 s4 wr => ∃ k : Nat, k ≤ 255 ∧ s4 = .int .i64 ((k + 1 : Nat) : Int) ∧ s3 = .int .u8 (Aes.iv x k : Nat) ∧ wr = w) (fun _ s4 _ => 256 - (intOf s4).toNat)
  case atStart => exact ⟨0, by omega, rfl, rfl, rfl⟩
  case round =>
    obtain ⟨k, hk, rfl, rfl, rfl⟩ := hrel
    have hiv := Aes.iv_le x k
    by_cases hlt : k < 255
    · have hs : Aes.iv x (k + 1) = if Aes.tm x (k + 1) = 1 then k + 1 else Aes.iv x k := rfl
      have hk2 : ((k + 1 : Nat) : Int) % 256 = ((k + 1 : Nat) : Int) := by omega
      generalize Aes.iv x k = n at *
      obtain ⟨q, hq⟩ : ∃ q, q = k + 1 := ⟨_, rfl⟩
      have HQ := Lib.hid hq
      rw [← hq] at hs hk2 ⊢
      have hq1 : q ≤ 255 := by omega
      have T1 := TM q wr (by omega)
      have HS := Lib.hid hs
      clear hq hs
      by_cases ht : Aes.tm x q = 1
      · rw [ht] at T1
        go_wp2_with (go_at_call 10; with_reducible refine T1.out.mono ?_; rintro e w1 ⟨rfl, rfl⟩)
        exact ⟨⟨q, hq1, rfl, by rw [HQ.out, ← HQ.out, HS.out, if_pos ht], trivial⟩, by simp only [intOf]; omega⟩
      · have hne : (((Aes.tm x q : Nat) : Int) == 1) = false := beq_eq_false_iff_ne.2 (by omega)
        go_wp2_with (go_at_call 10; with_reducible refine T1.out.mono ?_; rintro e w1 ⟨rfl, rfl⟩)
        exact ⟨⟨q, hq1, rfl, by rw [HQ.out, ← HQ.out, HS.out, if_neg ht], trivial⟩, by simp only [intOf]; omega⟩
    · obtain rfl : k = 255 := by omega
      have HT := Lib.hid (show Aes.box x = Aes.bx (Aes.iv x 255) 5 from rfl)
      generalize Aes.iv x 255 = n at *
      clear TM
      go_upto_block 2 with fail
      go_wp2_with fail
      go_loopw [5, 6] (fun s5 s6 wq => ∃ j m : Nat, j ≤ 5 ∧ s6 = .int .i64 j ∧ s5 = .int .u8 (Aes.bx n j : Nat) ∧ wq = wr.drewN m) (fun _ s6 _ => 5 - (intOf s6).toNat)
      case atStart => exact ⟨0, 0, by omega, rfl, rfl, rfl⟩
      case round =>
        obtain ⟨j, m, hj, rfl, rfl, rfl⟩ := hrel
        by_cases hlt2 : j < 5
        · have hc := Aes.bx_lt n j (by omega)
          have hs : Aes.bx n (j + 1) = Aes.bx n j ^^^ Aes.rol n j := rfl
          have hr := Aes.rol_lt n j (by omega)
          generalize Aes.bx n j = c at *
          have HS := Lib.hid hs
          clear hs
          rcases (show j = 0 ∨ j = 1 ∨ j = 2 ∨ j = 3 ∨ j = 4 by omega) with rfl | rfl | rfl | rfl | rfl
          all_goals go_upto_region 11 with fail
          all_goals go_quiet (fail)
          all_goals go_wp2_with fail
          · exact ⟨⟨1, m + nq, by decide, rfl, by rw [HS.out]; exact congrArg (Value.int .u8) (rol_u8 c n 0 _ _ hc (by omega) (by omega) (by omega)), rfl⟩, by decide⟩
          · exact ⟨⟨2, m + nq, by decide, rfl, by rw [HS.out]; exact congrArg (Value.int .u8) (rol_u8 c n 1 _ _ hc (by omega) (by omega) (by omega)), rfl⟩, by decide⟩
          · exact ⟨⟨3, m + nq, by decide, rfl, by rw [HS.out]; exact congrArg (Value.int .u8) (rol_u8 c n 2 _ _ hc (by omega) (by omega) (by omega)), rfl⟩, by decide⟩
          · exact ⟨⟨4, m + nq, by decide, rfl, by rw [HS.out]; exact congrArg (Value.int .u8) (rol_u8 c n 3 _ _ hc (by omega) (by omega) (by omega)), rfl⟩, by decide⟩
          · exact ⟨⟨5, m + nq, by decide, rfl, by rw [HS.out]; exact congrArg (Value.int .u8) (rol_u8 c n 4 _ _ hc (by omega) (by omega) (by omega)), rfl⟩, by decide⟩
        · obtain rfl : j = 5 := by omega
          go_wp2_with fail
          go_ret
          exact ⟨ret_u8 (by rw [HT.out]), m, rfl⟩

/-- What the first n bytes are exchanged for. -/
def boxL (n : Nat) : List Int := (List.range n).map fun i => ((Aes.box i : Nat) : Int)
theorem boxL_succ (n : Nat) : boxL (n + 1) = boxL n ++ [((Aes.box n : Nat) : Int)] := by simp [boxL, List.range_succ]
theorem boxL_length (n : Nat) : (boxL n).length = n := by simp [boxL]
theorem boxL_wf (n : Nat) : ∀ x ∈ boxL n, (Lit.int .u8 x).wf = true := by
  intro x hx
  simp only [boxL, List.mem_map] at hx
  obtain ⟨i, _, rfl⟩ := hx
  have := Aes.box_lt i
  exact u8_wf (by omega) (by omega)

set_option maxRecDepth 100000 in
set_option maxHeartbeats 8000000 in
theorem rboxes_any (w : World) :
    Calls Try.prog 13 #[] w fun e w' => ∃ v', e = .returned v' ∧ w'.ownsRow w.heap.size 5 1 v' 256 ((boxL 256).map (Value.int .u8)) ∧ Keep [] w w' := by
  have BX := fun (k : Nat) w hk => Lib.hid (rbox_any k w hk)
  go_enter Try.func13, Try.ntmps13
  go_wp2_with fail
  go_loopw [1, 2] (fun s1 s2 wr => ∃ k : Nat, k ≤ 256 ∧ s2 = .int .i64 k ∧ wr.ownsRow w.heap.size 5 1 s1 k ((boxL k).map (Value.int .u8)) ∧ Keep [] w wr) (fun _ s2 _ => 256 - (intOf s2).toNat)
  case atStart => exact ⟨0, by omega, rfl, World.ownsRow_nil _ _ _ _, Keep.refl _ _⟩
  case round =>
    obtain ⟨k, hk, rfl, hO, hK⟩ := hrel
    have HO := Lib.hid hO
    have HK := Lib.hid hK
    obtain ⟨oA, oc, rfl⟩ := own_slice hO
    clear hO hK
    by_cases hlt : k < 256
    · have B1 := BX k wr hlt
      have HB := Lib.hid (boxL_succ k)
      have hx := Aes.box_lt k
      generalize Aes.box k = x at *
      have hkm : (k : Int) % 256 = k := by omega
      go_wp2_with (first
        | (go_at_call 12; with_reducible refine B1.out.mono ?_; rintro e w1 ⟨rfl, m, rfl⟩)
        | (at_builtin
           refine wl_append _ rfl _ _ _ rfl w.heap.size 5 (.int .u8 0) 1 1 Try.underlying30 u8infB rfl (by decide) (.slice oA k oc) k ((boxL k).map (Value.int .u8)) rfl ((own_keep0 HO.out ((Keep.refl [] wr).drewN m)).alloc _) (some ⟨wr.heap.size, 0, Option.none⟩) 1 1 [.int .u8 (x : Int)] rfl rfl (Rd.one _ _ _) (by simp [Value.oneCell']) (by simp only [maxLen]; omega) (by omega) (by have := HK.out.size; simp; omega) ?_
           intro x1 w2 ho1 hk1 hat1
           have HX1 := Lib.hid ho1
           have HK1 := Lib.hid hk1
           clear ho1 hk1 hat1))
      exact ⟨⟨k + 1, by omega, rfl, by rw [HB.out, List.map_append]; exact HX1.out, keep_own ((own_keep0 HO.out ((Keep.refl [] wr).drewN m)).alloc _) (Nat.le_refl _) ((HK.out.drewN m).alloc _) HK1.out⟩, by simp only [intOf]; omega⟩
    · obtain rfl : k = 256 := by omega
      go_wp2_with fail
      go_ret
      exact ⟨_, rfl, HO.out, HK.out⟩
end Go.Proofs.Ytpjkicbfdknjcaa
