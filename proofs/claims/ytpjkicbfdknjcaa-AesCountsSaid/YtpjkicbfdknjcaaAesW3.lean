/-
  AesBoxes, over what aes' functions keep.
-/
import Derived.Test.YtpjkicbfdknjcaaAesW2
import Derived.Test.YtpjkicbfdknjcaaSet
namespace Go.Proofs.Ytpjkicbfdknjcaa
open Go.RowKit

theorem boolZ (w : World) : (zeroValue 4).run Try.prog w = .ok (.bool false) w := by
  have h : (Try.prog.info? 4).map (·.zero) = some (some (.bool false)) := by kernel_rfl
  cases hi : Try.prog.info? 4 with
  | none => rw [hi] at h; cases h
  | some i =>
    rw [hi] at h
    simp only [Option.map_some, Option.some.injEq] at h
    simp [zeroValue, typeInfo, hi, h, Result.andThen]
theorem boxL_mem (n x : Nat) (hn : n ≤ 256) (hx : x < 256) (hle : n ≤ x) : ((Aes.box x : Nat) : Int) ∉ boxL n := by
  intro h
  simp only [boxL, List.mem_map, List.mem_range] at h
  obtain ⟨i, hi, he⟩ := h
  have := Aes.box_inj i x (by omega) hx (by omega)
  omega

set_option maxRecDepth 100000 in
set_option maxHeartbeats 8000000 in
theorem aesBoxes_any (hN : ANewC) (hK : AKeyC) (hT : ATurnC) (hX : ABoxC) (a : Int) (w : World) (ha : (Lit.int .u8 a).wf = true) :
    Calls Try.prog 5 #[.int .u8 a] w fun e w' => e = .returned (.bool true) ∧ Keep [] w w' := by
  obtain ⟨ha0, ha1⟩ := wf_u8 ha
  obtain ⟨x, rfl⟩ := Int.eq_ofNat_of_zero_le ha0
  have hx : x < 256 := by omega
  have HX := Lib.hid hx
  have A := fun w => Lib.hid (awake5_any hN hK hT w)
  have N := fun w => Lib.hid (hN w)
  have BX := fun w g (q : Nat) h hq => Lib.hid (hX w g 0 q h hq)
  have BX0 : ∀ w g, AF w g 0 → Hid (Calls Try.prog 11 #[.pointer (some ⟨g, 0, none⟩), .int .u8 0] w fun e w' => e = .returned (.int .u8 99) ∧ AF w' g 0 ∧ Keep [g] w w') := fun w g h => by
    have := hX w g 0 0 h (by decide)
    rw [Aes.box_zero] at this
    exact Lib.hid this
  clear ha ha0 ha1 hx hN hK hT hX
  go_enter Try.func5, Try.ntmps5
  go_upto_block 0 with (first
    | (go_at_call 7; with_reducible refine (A w).out.mono ?_; rintro e w1 ⟨rfl, hk1⟩)
    | (go_at_call 8; with_reducible refine (N w1).out.mono ?_; rintro e w2 ⟨g, rfl, hg, hat, hk2⟩)
    | (refine wl_makeMap rfl rfl ?_; intro w3 hm3 hk3))
  obtain ⟨M, hM⟩ : ∃ M, M = w2.heap.size := ⟨_, rfl⟩
  have HAT := Lib.hid (hat.keep hk3 (by simp))
  have HG := Lib.hid (show w.heap.size ≤ g ∧ w.heap.size ≤ M ∧ g ≠ M from ⟨Nat.le_trans hk1.size hg, by have := hk1.size; have := hk2.size; omega, by have := hat.lt; omega⟩)
  have HM := Lib.hid (show SetIs w3 M [] by rw [hM]; exact hm3)
  have HK3 := Lib.hid ((hk1.trans hk2).trans hk3)
  rw [← hM]
  clear hk1 hk2 hk3 hat hg hM hm3
  go_wp2_with fail
  go_loopw [11] (fun s11 wr => ∃ j : Nat, j ≤ 256 ∧ s11 = .int .i64 j ∧ SetIs wr M (boxL j) ∧ AF wr g 0 ∧ Keep [] w wr) (fun s11 _ => 256 - (intOf s11).toNat)
  case atStart => exact ⟨0, by omega, rfl, HM.out, HAT.out, HK3.out⟩
  case round =>
    obtain ⟨j, hj, rfl, hS, hA, hk⟩ := hrel
    have HS := Lib.hid hS
    have HA := Lib.hid hA
    have HK := Lib.hid hk
    clear hS hA hk
    by_cases hlt : j < 256
    · have hj8 : (j : Int) % 256 = j := by omega
      have hbn : Aes.box j ≠ j := Aes.box_own j hlt
      have HNM := Lib.hid (boxL_mem j j hj hlt (Nat.le_refl j))
      have HBS := Lib.hid (boxL_succ j)
      have B1 := BX wr g j HA.out hlt
      have hxb := Aes.box_lt j
      generalize Aes.box j = q at *
      have hne : ((q : Int) == (j : Int)) = false := beq_eq_false_iff_ne.2 (by omega)
      go_wp2_with (first
        | (go_at_call 11; with_reducible refine B1.out.mono ?_; rintro e w5 ⟨rfl, hat5, hk5⟩; have HA5 := Lib.hid hat5; have HS5 := Lib.hid (HS.out.keep hk5 (by have := HG.out.2.2; simp; omega)); have HK5 := Lib.hid (HK.out.trans' hk5 (fun p hp => by right; have := HG.out.1; simp at hp; omega)); clear hat5 hk5)
        | (with_reducible refine wl_lookup rfl (.tmp 18) (.tmp 19) rfl Try.underlying37 Try.underlying5 boolZ HS5.out (q : Int) HNM.out rfl rfl ?_)
        | (with_reducible refine wl_update rfl (.tmp 27) (.tmp 28) (.const (.bool true)) rfl Try.underlying37 Try.underlying5 HS5.out (q : Int) HNM.out rfl rfl rfl ?_; intro w6 hS6 hk6; have HS6 := Lib.hid hS6; have HA6 := Lib.hid (HA5.out.keep hk6 (by have := HG.out.2.2; simp; omega)); have HK6 := Lib.hid (HK5.out.trans' hk6 (fun p hp => by right; have := HG.out.2.1; simp at hp; omega)); clear hS6 hk6))
      exact ⟨⟨j + 1, by omega, rfl, by rw [HBS.out]; exact HS6.out, HA6.out, HK6.out⟩, by simp only [intOf]; omega⟩
    · obtain rfl : j = 256 := by omega
      go_upto_region 13 with fail
      go_wp2_with (first
        | (go_at_call 11; with_reducible refine (BX _ g x HA.out HX.out).out.mono ?_; rintro e w5 ⟨rfl, hat5, hk5⟩; have HA5 := Lib.hid hat5; have HK5 := Lib.hid (HK.out.trans' hk5 (fun p hp => by right; have := HG.out.1; simp at hp; omega)); clear hat5 hk5)
        | (go_at_call 8; with_reducible refine (N w5).out.mono ?_; rintro e w6 ⟨g2, rfl, hg2, hat2, hk6⟩; have HA2 := Lib.hid hat2; have HA6 := Lib.hid (HA5.out.keep hk6 (by simp)); have HK6 := Lib.hid (HK5.out.trans hk6); have HG2 := Lib.hid (show w.heap.size ≤ g2 ∧ g ≠ g2 from ⟨Nat.le_trans HK5.out.size hg2, by have := HA5.out.lt; omega⟩); clear hg2 hat2 hk6)
        | (go_at_call 11; with_reducible refine (BX w6 g2 x HA2.out HX.out).out.mono ?_; rintro e w7 ⟨rfl, hat7, hk7⟩; have HA7 := Lib.hid (HA6.out.keep hk7 (by have := HG2.out.2; simp; omega)); have HK7 := Lib.hid (HK6.out.trans' hk7 (fun p hp => by right; have := HG2.out.1; simp at hp; omega)); clear hat7 hk7)
        | (go_at_call 11; with_reducible refine (BX0 w7 g HA7.out).out.mono ?_; rintro e w8 ⟨rfl, hat8, hk8⟩; have HK8 := Lib.hid (HK7.out.trans' hk8 (fun p hp => by right; have := HG.out.1; simp at hp; omega)); clear hat8 hk8))
      go_ret
      exact ⟨rfl, HK8.out⟩
end Go.Proofs.Ytpjkicbfdknjcaa
