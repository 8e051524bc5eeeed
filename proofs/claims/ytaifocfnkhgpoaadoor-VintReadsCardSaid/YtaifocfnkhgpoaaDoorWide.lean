/-
  Contracts of Len, fits, Wide, Put, and of the document's answers to them.
-/
import Derived.Test.YtaifocfnkhgpoaaDoorExt
namespace Go.Proofs.YtaifocfnkhgpoaaDoor
open Go.RowKit

set_option maxHeartbeats 400000 in
theorem len_any (n : Int) (w : World) :
    Calls Tryd.prog 9 #[.int .u64 n] w fun e w' => e = .returned (.int .i64 (vlen n)) ∧ w = w' := by
  go_enter Tryd.func9, Tryd.ntmps9
  go_wp2
  all_goals
    go_ret
    refine ⟨ret_u64 ?_, rfl⟩
    unfold vlen
    repeat (first | rw [if_pos (by omega)] | rw [if_neg (by omega)])
    try rfl

set_option maxHeartbeats 400000 in
theorem rlen_any (n : Int) (w : World) :
    Calls Tryd.prog 10 #[.int .u64 n] w fun e w' => e = .returned (.int .i64 (vlen n)) ∧ w = w' := by
  go_enter Tryd.func10, Tryd.ntmps10
  go_wp2
  all_goals
    go_ret
    refine ⟨ret_u64 ?_, rfl⟩
    unfold vlen
    repeat (first | rw [if_pos (by omega)] | rw [if_neg (by omega)])
    try rfl

/-- The number has an encoding in so many bytes. -/
def Fits (n size : Int) : Prop := (size = 1 ∨ size = 2 ∨ size = 4 ∨ size = 8) ∧ vlen n ≠ 0 ∧ vlen n ≤ size

theorem u8one : (Tryd.prog.info? 5).map (·.size) = some 1 := by kernel_rfl
theorem vlen_range (n : Int) : 0 ≤ vlen n ∧ vlen n ≤ 8 := by unfold vlen; repeat' split <;> omega

theorem fits_any (n size : Int) (w : World) : ∃ b : Bool, (b = true ↔ Fits n size) ∧
    Calls Tryd.prog 36 #[.int .u64 n, .int .i64 size] w fun e w' => e = .returned (.bool b) ∧ w = w' := by
  by_cases hs : size = 1 ∨ size = 2 ∨ size = 4 ∨ size = 8
  · by_cases h0 : vlen n = 0
    · refine ⟨false, by simp [Fits, h0], ?_⟩
      have L := Lib.hid (len_any n w)
      rw [h0] at L
      clear h0
      rcases hs with rfl | rfl | rfl | rfl
      all_goals
        go_enter Tryd.func36, Tryd.ntmps36
        go_wp2_with (go_at_call 9; with_reducible refine L.out.mono ?_; rintro e w' ⟨rfl, rfl⟩)
        go_ret
        exact ⟨rfl, rfl⟩
    · have hr := vlen_range n
      by_cases h1 : vlen n ≤ size
      · refine ⟨true, by simp [Fits, hs, h0, h1], ?_⟩
        have L := Lib.hid (len_any n w)
        generalize vlen n = k at *
        have h0b : (k != 0) = true := by simpa using h0
        clear h0
        rcases hs with rfl | rfl | rfl | rfl
        all_goals
          go_enter Tryd.func36, Tryd.ntmps36
          go_wp2_with (go_at_call 9; with_reducible refine L.out.mono ?_; rintro e w' ⟨rfl, rfl⟩)
          go_ret
          refine ⟨by first | (simp; done) | (simp; omega), rfl⟩
      · refine ⟨false, by simp [Fits, h1], ?_⟩
        have L := Lib.hid (len_any n w)
        generalize vlen n = k at *
        have h0b : (k != 0) = true := by simpa using h0
        clear h0
        rcases hs with rfl | rfl | rfl | rfl
        all_goals
          go_enter Tryd.func36, Tryd.ntmps36
          go_wp2_with (go_at_call 9; with_reducible refine L.out.mono ?_; rintro e w' ⟨rfl, rfl⟩)
          go_ret
          refine ⟨by first | (simp; done) | (simp; omega), rfl⟩
  · refine ⟨false, by simp [Fits, hs], ?_⟩
    have h1 : (size == 1) = false := by simp; omega
    have h2 : (size == 2) = false := by simp; omega
    have h4 : (size == 4) = false := by simp; omega
    have h8 : (size == 8) = false := by simp; omega
    clear hs
    go_enter Tryd.func36, Tryd.ntmps36
    go_wp2
    go_ret
    exact ⟨rfl, rfl⟩


set_option maxHeartbeats 400000 in
theorem wide_no (v : Value) (n size : Int) (w : World) (hf : ¬ Fits n size) :
    Calls Tryd.prog 13 #[v, .int .u64 n, .int .i64 size] w fun e w' => e = .returned (.tuple #[.slice none 0 0, .int .i64 2]) ∧ w = w' := by
  obtain ⟨b, hb, hc⟩ := fits_any n size w
  obtain rfl : b = false := by cases b <;> simp_all
  have H := Lib.hid hc
  clear hc hb hf
  go_enter Tryd.func13, Tryd.ntmps13
  go_wp2_with (go_at_call 36; with_reducible refine H.out.mono ?_; rintro e w' ⟨rfl, rfl⟩)
  go_ret2
  exact ⟨rfl, rfl⟩

theorem fits_of {n : Int} {s : Nat} (h : Fits n s) (h0 : 0 ≤ n) : ∃ k : Int, ((s = 1 ∧ k = 0) ∨ (s = 2 ∧ k = 1) ∨ (s = 4 ∧ k = 2) ∨ (s = 8 ∧ k = 3)) ∧ n < 2 ^ (8 * s - 2) := by
  obtain ⟨hs, h1, h2⟩ := h
  have hs' : s = 1 ∨ s = 2 ∨ s = 4 ∨ s = 8 := by omega
  unfold vlen at h1 h2
  rcases hs' with rfl | rfl | rfl | rfl
  · exact ⟨0, by simp, by simp; repeat' split at h2 <;> omega⟩
  · exact ⟨1, by simp, by simp; repeat' split at h2 <;> omega⟩
  · exact ⟨2, by simp, by simp; repeat' split at h2 <;> omega⟩
  · exact ⟨3, by simp, by simp; repeat' split at h2 <;> omega⟩

set_option maxHeartbeats 400000 in
theorem wide_yes (v : Value) (n : Int) (s : Nat) (l : List Int) (w : World) (ht : Tabs w) (hf : Fits n s) (h0 : 0 ≤ n) (hv : Sl .u8 w v l) (hl : l.length ≤ 1000000) :
    Calls Tryd.prog 13 #[v, .int .u64 n, .int .i64 s] w fun e w' => ∃ v', e = .returned (.tuple #[v', .int .i64 0]) ∧
      w'.ownsRow w.heap.size 5 1 v' (l.length + s) ((l ++ enc n s).map (Value.int .u8)) ∧ Keep [] w w' := by
  obtain ⟨b, hb, hc⟩ := fits_any n s w
  obtain rfl : b = true := hb.2 hf
  have H := Lib.hid hc
  obtain ⟨k, hk, hn⟩ := fits_of hf h0
  have hs8 : s ≤ 8 := by omega
  clear hc hb hf
  obtain ⟨A, c, rfl, hlc, hcm, hr, hwf⟩ := hv
  have HN := Lib.hid hn
  have HK := Lib.hid hk
  clear hn hk
  obtain ⟨L, hL⟩ : ∃ L, L = l.length := ⟨_, rfl⟩
  rw [← hL] at hl hlc ⊢
  have HL := Lib.hid hL
  clear hL
  go_enter Tryd.func13, Tryd.ntmps13
  go_wp2_with (first
    | (go_at_call 36; with_reducible refine H.out.mono ?_; rintro e w' ⟨rfl, rfl⟩)
    | (at_make; refine wl_make _ rfl _ _ 23 rfl 5 (.int .u8 0) 1 Tryd.underlying23 u8info rfl _ _ _ _ L (L + s) rfl rfl rfl (by omega) (by omega) (by omega) (by omega) ?_; intro w1 hB1 hK1 hz1)
    | (with_reducible refine wl_copy _ rfl (.tmp 20) (.tmp 21) 23 23 rfl 5 Tryd.underlying23 u8one w.heap.size 0 L (L + s) rfl A L c rfl (List.replicate (L + s) (.int .u8 0)) 5 hB1 (l.map (Value.int .u8)) ?c1 (hr.keep0 hK1) ?c2 (ints_one _ _) ?_; rotate_right; intro w2 hB2 hK2 hz2))
  case c1 => have := HL.out; simp; omega
  case c2 => have := HL.out; simp; omega
  have hkk : Keep [] w w2 := hK1.trans' hK2 (by simp)
  have hown : w2.ownsRow w.heap.size 5 1 (.slice (some ⟨w.heap.size, 0, none⟩) L (L + s)) L (l.map (Value.int .u8)) := by
    refine own_of_blk hB2 ?_ (by omega) (by omega) ?_
    · rw [List.size_toArray, length_splice] <;> simp [HL.out]
    · simp [splice, HL.out]
  refine (ext_any w.heap.size _ L s k n _ w2 (ht.keep hkk (by simp)) HK.out h0 HN.out hown (by omega) (by omega)).mono ?_
  rintro e w3 ⟨v', rfl, ho3, hk3, _⟩
  have hk3' : Keep [] w w3 := hkk.trans' hk3 (by simp [Value.ownBlock])
  have HO := Lib.hid ho3
  clear ho3 hown hk3 hB1 hB2 hr
  go_wp2
  go_ret2
  exact ⟨v', rfl, by simpa using HO.out, hk3'⟩

set_option maxHeartbeats 400000 in
theorem put_no (v : Value) (n : Int) (w : World) (hf : vlen n = 0) :
    Calls Tryd.prog 11 #[v, .int .u64 n] w fun e w' => e = .returned (.tuple #[.slice none 0 0, .int .i64 2]) ∧ w = w' := by
  have L := Lib.hid (len_any n w)
  have W := Lib.hid (wide_no v n (vlen n) w (by simp [Fits, hf]))
  clear hf
  go_enter Tryd.func11, Tryd.ntmps11
  go_wp2_with (first
    | (go_at_call 9; with_reducible refine L.out.mono ?_; rintro e w' ⟨rfl, rfl⟩)
    | (go_at_call 13; with_reducible refine W.out.mono ?_; rintro e w' ⟨rfl, rfl⟩))
  go_ret2
  exact ⟨rfl, rfl⟩

theorem fits_least {n : Int} (h : vlen n ≠ 0) : Fits n (vlen n) := by
  refine ⟨?_, h, Int.le_refl _⟩
  unfold vlen at h ⊢
  repeat' split <;> simp_all

set_option maxHeartbeats 400000 in
theorem put_yes (v : Value) (n : Int) (l : List Int) (w : World) (ht : Tabs w) (hf : vlen n ≠ 0) (h0 : 0 ≤ n) (hv : Sl .u8 w v l) (hl : l.length ≤ 1000000) :
    Calls Tryd.prog 11 #[v, .int .u64 n] w fun e w' => ∃ v', e = .returned (.tuple #[v', .int .i64 0]) ∧
      w'.ownsRow w.heap.size 5 1 v' (l.length + (vlen n).toNat) ((l ++ enc n (vlen n).toNat).map (Value.int .u8)) ∧ Keep [] w w' := by
  have L := Lib.hid (len_any n w)
  have hr := vlen_range n
  have hF := fits_least hf
  obtain ⟨s, hs⟩ : ∃ s : Nat, vlen n = s := ⟨(vlen n).toNat, by omega⟩
  rw [hs] at hF L
  have W := Lib.hid (wide_yes v n s l w ht hF h0 hv hl)
  rw [hs, Int.toNat_natCast]
  clear hf hs hr hF hv hl ht
  go_enter Tryd.func11, Tryd.ntmps11
  go_wp2_with (first
    | (go_at_call 9; with_reducible refine L.out.mono ?_; rintro e w' ⟨rfl, rfl⟩)
    | (go_at_call 13; with_reducible refine W.out.mono ?_; rintro e w' ⟨v', rfl, ho, hk⟩; have HO := Lib.hid ho; clear ho))
  go_ret2
  exact ⟨v', rfl, HO.out, hk⟩

end Go.Proofs.YtaifocfnkhgpoaaDoor
