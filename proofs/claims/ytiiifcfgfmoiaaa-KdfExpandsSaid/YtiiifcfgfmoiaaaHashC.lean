/-
  The landed sha: a key padded; Mark.
-/
import Derived.Test.YtiiifcfgfmoiaaaHashB
namespace Go.Proofs.Ytiiifcfgfmoiaaa
open Go.RowKit

/-- A key of a block at most, padded, each byte turned by c. -/
def padX (k : List Int) (c : Nat) : List Int := (List.range 64).map fun i => ((k.getD i 0).toNat ^^^ c : Nat)
theorem padX_length (k : List Int) (c : Nat) : (padX k c).length = 64 := by simp [padX]
theorem padX_key (k : List Int) (c : Nat) : padX (Sha.key k) c = Sha.keyX k c := rfl
/-- The row: i bytes turned. -/
def padR (k : List Int) (c i : Nat) : List Value := ((padX k c).take i ++ (k ++ List.replicate (64 - k.length) 0).drop i).map (Value.int .u8)
theorem padR_zero (k : List Int) (c : Nat) : padR k c 0 = k.map (Value.int .u8) ++ List.replicate (64 - k.length) (.int .u8 0) := by simp [padR]
theorem padR_full (k : List Int) (c : Nat) (h : k.length ≤ 64) : padR k c 64 = (padX k c).map (Value.int .u8) := by
  unfold padR
  rw [List.take_of_length_le (by rw [padX_length]; exact Nat.le_refl _), List.drop_of_length_le (by simp; omega), List.append_nil]
theorem padR_get (k : List Int) (c i : Nat) (h : k.length ≤ 64) (hi : i < 64) : (padR k c i)[i]? = some (.int .u8 (k.getD i 0)) := by
  have hl : ((padX k c).take i).length = i := by rw [List.length_take_of_le (by rw [padX_length]; omega)]
  unfold padR
  rw [List.getElem?_map, List.getElem?_append_right (by omega), hl, Nat.sub_self, List.getElem?_drop, Nat.add_zero, List.getD_eq_getElem?_getD]
  by_cases h1 : i < k.length
  · rw [List.getElem?_append_left h1, List.getElem?_eq_getElem h1]; rfl
  · rw [List.getElem?_append_right (by omega), List.getElem?_replicate, if_pos (by omega), List.getElem?_eq_none (by omega)]; rfl
theorem padR_set (k : List Int) (c i : Nat) (h : k.length ≤ 64) (hi : i < 64) : (padR k c i).toArray.setIfInBounds i (.int .u8 (((k.getD i 0).toNat ^^^ c : Nat) : Int)) = (padR k c (i + 1)).toArray := by
  have hx : (padX k c)[i]? = some ((((k.getD i 0).toNat ^^^ c : Nat)) : Int) := by simp [padX, hi]
  have ht : (padX k c).take (i + 1) = (padX k c).take i ++ [((((k.getD i 0).toNat ^^^ c : Nat)) : Int)] := by rw [List.take_add_one, hx]; rfl
  have hl : ((padX k c).take i).length = i := by rw [List.length_take_of_le (by rw [padX_length]; omega)]
  have hb : (k ++ List.replicate (64 - k.length) (0 : Int)).length = 64 := by simp; omega
  unfold padR
  rw [ht, List.drop_eq_getElem_cons (i := i) (by omega)]
  simp only [List.map_append, List.map_cons, List.setIfInBounds_toArray]
  rw [List.set_append_right _ _ (by rw [List.length_map, hl]; exact Nat.le_refl _), List.length_map, hl, Nat.sub_self]
  simp

theorem u8sz : (Try.prog.info? 5).map (·.size) = some 1 := by kernel_rfl
set_option maxHeartbeats 1000000 in
theorem padded_any (w : World) (kv : Value) (kl : List Int) (cI : Int) (c : Nat) (hcI : cI = (c : Int)) (hc : c < 256) (hk : Sl .u8 w kv kl) (hl : kl.length ≤ 64) :
    Calls Try.prog 28 #[kv, .int .u8 cI] w fun e w' => e = .returned (.slice (some ⟨w.heap.size, 0, none⟩) 64 64) ∧ Blk w' w.heap.size 5 ((padX kl c).map (Value.int .u8)).toArray ∧ Keep [] w w' := by
  subst hcI
  have HS := Lib.hid hk
  obtain ⟨A, kc, rfl, hc1, hc2, hrd, hwf⟩ := hk
  have HRD := Lib.hid hrd
  have HWF := Lib.hid hwf
  clear hrd hwf
  go_enter Try.func28, Try.ntmps28
  go_upto_region 3 with (first
    | (refine wl_make w rfl _ _ _ rfl 5 (.int .u8 0) 1 Try.underlying24 u8infB rfl .i64 .i64 64 64 64 64 rfl rfl rfl rfl (Nat.le_refl _) (by omega) (by omega) ?_; intro w1 hB1 hk1 hz1)
    | (with_reducible refine wl_copy _ rfl (.tmp 8) (.tmp 9) 24 24 rfl 5 Try.underlying24 u8sz w.heap.size 0 64 64 rfl A kl.length kc rfl (List.replicate 64 (.int .u8 0)) 5 hB1 (kl.map (Value.int .u8)) (by rw [List.length_map]; exact (Nat.min_eq_left hl).symm) (HRD.out.keep0 hk1) (by simp; omega) (ints_one _ _) ?_
       intro w2 hB2 hk2 hz2))
  have hrow : (splice (List.replicate 64 (Value.int .u8 0)) 0 (kl.map (Value.int .u8))).toArray = (padR kl c 0).toArray := by
    rw [padR_zero]
    unfold splice
    rw [List.take_zero, List.nil_append, Nat.zero_add, List.drop_replicate, List.length_map]
  rw [hrow] at hB2
  have HB2 := Lib.hid hB2
  have HK2 := Lib.hid (hk1.trans' hk2 (fun x hx => by right; simp at hx; omega))
  clear hB1 hk1 hz1 hB2 hk2 hz2 hrow
  go_wp2_with fail
  go_loopw [13] (fun s13 wr => ∃ i : Nat, i ≤ 64 ∧ s13 = .int .i64 i ∧ Blk wr w.heap.size 5 (padR kl c i).toArray ∧ Keep [w.heap.size] w2 wr) (fun s13 _ => 64 - (intOf s13).toNat)
  case atStart => exact ⟨0, by omega, rfl, HB2.out, Keep.refl _ _⟩
  case round =>
    obtain ⟨i, hi, rfl, hb1, hk⟩ := hrel
    have HB := Lib.hid hb1
    have HK := Lib.hid hk
    by_cases hlt : i < 64
    · have HR := Lib.hid (padR_set kl c i hl hlt)
      have c1 : wr.cell? ⟨w.heap.size, i, none⟩ = some (.int .u8 (kl.getD i 0)) := by rw [hb1.cell]; simpa using padR_get kl c i hl hlt
      have fr1 := hb1.frozen i
      have hyy : 0 ≤ kl.getD i 0 ∧ kl.getD i 0 ≤ 255 := by
        rw [List.getD_eq_getElem?_getD]
        by_cases h1 : i < kl.length
        · exact wf_u8 (wf_getD HWF.out i h1)
        · rw [List.getElem?_eq_none (by omega)]; decide
      have e54 : bits .xor .u8 (kl.getD i 0) c = (((kl.getD i 0).toNat ^^^ c : Nat) : Int) := by
        have := u8_xor (kl.getD i 0) (c : Int) hyy.1 (by omega) (by omega) (by omega)
        rw [this]; simp
      have E54 := Lib.hid e54
      generalize kl.getD i 0 = x at *
      clear hb1 hk e54
      go_wp2_with fail
      refine ⟨⟨i + 1, by omega, by go_num, ?_, HK.out.setCell (.inl (by simp)) _⟩, by simp [intOf]; omega⟩
      have := HB.out.set_ i (.int .u8 (bits .xor .u8 x c))
      rw [E54.out, HR.out, ← E54.out] at this
      exact this
    · obtain rfl : i = 64 := by omega
      rw [padR_full kl c hl] at HB
      clear hb1 hk
      go_wp2_with fail
      go_ret
      exact ⟨rfl, HB.out, HK2.out.trans' HK.out (fun x hx => by right; simp at hx; omega)⟩
end Go.Proofs.Ytiiifcfgfmoiaaa
