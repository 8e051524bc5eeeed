/-
  The landed aes: the box computed; Do.
-/
import Derived.Test.YtlkjngbelckgkaaA1
import Derived.Test.YtlkjngbelckgkaaAesSt
import Derived.Test.YtlkjngbelckgkaaOnceA
namespace Go.Proofs.Ytlkjngbelckgkaa
open Go.RowKit

namespace Aes
theorem bx_one (i : Nat) (hi : i < 256) : i ^^^ 99 = bx i 1 := by
  have h : rol i 0 = i := by
    unfold rol
    rw [Nat.pow_zero, Nat.mul_one, Nat.mod_eq_of_lt hi, show i / 2 ^ (8 - 0) = 0 by omega, Nat.or_zero]
  show i ^^^ 99 = bx i 0 ^^^ rol i 0
  rw [h, show bx i 0 = 99 from rfl, Nat.xor_comm]
end Aes
/-- The first j computed. -/
def bxs (j : Nat) : List Nat := (List.range j).map Aes.box ++ List.replicate (256 - j) 0
theorem bxs_zero : bxs 0 = List.replicate 256 0 := rfl
theorem bxs_full : bxs 256 = boxes := by simp [bxs, boxes]
theorem bxs_length (j : Nat) (h : j ≤ 256) : (bxs j).length = 256 := by simp [bxs]; omega
theorem bxs_set (j : Nat) (h : j < 256) : (bxs j).set j (Aes.box j) = bxs (j + 1) := by
  unfold bxs
  rw [List.set_append_right _ _ (by simp), List.length_map, List.length_range, Nat.sub_self, show 256 - j = (256 - (j + 1)) + 1 by omega, List.replicate_succ, List.set_cons_zero, List.range_succ, List.map_append, List.append_assoc]
  rfl
theorem tcs5_set (d m : Value) (B : List Nat) (n : Int) (i x : Nat) (h : i < B.length) : (tcs5 d m B n).setIfInBounds (3 + i) (.int .u8 (x : Int)) = tcs5 d m (B.set i x) n := by
  unfold tcs5
  rw [List.setIfInBounds_toArray, show 3 + i = i + 1 + 1 + 1 by omega, List.set_cons_succ, List.set_cons_succ, List.set_cons_succ, List.set_append_left _ _ (by simpa using h), List.map_set]
theorem tcs5_get (d m : Value) (B : List Nat) (n : Int) (i : Nat) (h : i < B.length) : (tcs5 d m B n)[3 + i]? = some (.int .u8 ((B.getD i 0 : Nat) : Int)) := by
  unfold tcs5
  rw [show 3 + i = i + 1 + 1 + 1 by omega, List.getElem?_toArray, List.getElem?_cons_succ, List.getElem?_cons_succ, List.getElem?_cons_succ, List.getElem?_append_left (by simpa using h)]
  simp [h]
theorem tcs5_last (d m : Value) (B : List Nat) (n : Int) (h : B.length = 256) : (tcs5 d m B n)[259]? = some (.int .i64 n) := by
  unfold tcs5
  rw [show 259 = 256 + 1 + 1 + 1 by omega, List.getElem?_toArray, List.getElem?_cons_succ, List.getElem?_cons_succ, List.getElem?_cons_succ, List.getElem?_append_right (by simp [h])]
  simp [h]
theorem tcs5_setLast (d m : Value) (B : List Nat) (n k : Int) (h : B.length = 256) : (tcs5 d m B n).setIfInBounds 259 (.int .i64 k) = tcs5 d m B k := by
  unfold tcs5
  rw [List.setIfInBounds_toArray, show 259 = 256 + 1 + 1 + 1 by omega, List.set_cons_succ, List.set_cons_succ, List.set_cons_succ, List.set_append_right _ _ (by simp [h])]
  simp [h]
theorem tcs5_set01 (d m d' m' : Value) (B : List Nat) (n : Int) : ((tcs5 d m B n).setIfInBounds 0 d').setIfInBounds 1 m' = tcs5 d' m' B n := by
  unfold tcs5
  rw [List.setIfInBounds_toArray, List.setIfInBounds_toArray]; rfl
theorem tcs5_set1 (d m m' : Value) (B : List Nat) (n : Int) : (tcs5 d m B n).setIfInBounds 1 m' = tcs5 d m' B n := by
  unfold tcs5
  rw [List.setIfInBounds_toArray]; rfl

set_option maxRecDepth 100000 in
set_option maxHeartbeats 4000000 in
theorem acompute_any (w : World) (g : Nat) (d m : Value) (n : Int) (hB : Blk w g 65 (tcs5 d m (List.replicate 256 0) n)) :
    Calls Try.prog 23 #[.pointer (some ⟨g, 0, none⟩)] w fun e w' => e = .returned (.tuple #[]) ∧ Blk w' g 65 (tcs5 d m boxes n) ∧ Keep [g] w w' := by
  rw [← bxs_zero] at hB
  have HB := Lib.hid hB
  clear hB
  go_enter Try.func23, Try.ntmps23
  go_wp2_with fail
  go_loopw [6] (fun s6 wr => ∃ j : Nat, j ≤ 256 ∧ s6 = .int .i64 j ∧ Blk wr g 65 (tcs5 d m (bxs j) n) ∧ Keep [g] w wr) (fun s6 _ => 256 - (intOf s6).toNat)
  case atStart => exact ⟨0, by omega, rfl, HB.out, Keep.refl _ _⟩
  case round =>
    obtain ⟨j, hj, rfl, hBj, hk⟩ := hrel
    have HBj := Lib.hid hBj
    have HK := Lib.hid hk
    clear hBj hk
    by_cases hlt : j < 256
    · have hj8 : (j : Int) % 256 = j := by omega
      obtain ⟨i, hi⟩ : ∃ i, i = Aes.iv j 255 := ⟨_, rfl⟩
      have hi2 : i < 256 := by rw [hi]; have := Aes.iv_le j 255; omega
      have hbx : Aes.bx i 5 = Aes.box j := by rw [hi]; rfl
      have I := fun w => Lib.hid (inverse_any j w hlt)
      rw [← hi] at I
      have hx := u8_xor_nat i 99 hi2 (by decide)
      rw [Aes.bx_one i hi2] at hx
      have HBX := Lib.hid hbx
      clear hi hbx
      go_upto_block 2 with (go_at_call 40; with_reducible refine (I _).out.mono ?_; rintro e w1 ⟨rfl, rfl⟩)
      go_wp2_with fail
      go_loopw [4, 14] (fun s4 s14 wi => ∃ b : Nat, b ≤ 4 ∧ s14 = .int .i64 b ∧ s4 = .int .u8 (Aes.bx i (b + 1) : Nat) ∧ wi = w1) (fun _ s14 _ => 4 - (intOf s14).toNat)
      case atStart => exact ⟨0, by omega, rfl, by rw [← hx]; rfl, rfl⟩
      case round =>
        obtain ⟨b, hb, rfl, rfl, rfl⟩ := hrel
        by_cases hlt2 : b < 4
        · have hx2 := u8_xor_nat (Aes.bx i (b + 1)) (Aes.rol i (b + 1)) (Aes.bx_lt _ _ hi2) (Aes.rol_lt _ _ hi2)
          rw [show Aes.bx i (b + 1) ^^^ Aes.rol i (b + 1) = Aes.bx i (b + 1 + 1) from rfl] at hx2
          have HX2 := Lib.hid hx2
          have R := fun w => Lib.hid (rol_any i (b + 1) ((b : Int) + 1) (by omega) w hi2 (by omega))
          generalize Aes.bx i (b + 1) = p at *
          generalize Aes.rol i (b + 1) = q at *
          clear hx2
          go_wp2_with (go_at_call 41; with_reducible refine (R _).out.mono ?_; rintro e w2 ⟨rfl, rfl⟩)
          exact ⟨⟨b + 1, by omega, by go_num, by rw [HX2.out], trivial⟩, by simp [intOf]; omega⟩
        · obtain rfl : b = 4 := by omega
          rw [show Aes.bx i (4 + 1) = Aes.box j from HBX.out]
          have hcg : wr.cell? ⟨g, 3 + j, none⟩ = some (.int .u8 (((bxs j).getD j 0 : Nat) : Int)) := by
            rw [HBj.out.cell]; exact tcs5_get _ _ _ _ _ (by rw [bxs_length j (by omega)]; exact hlt)
          have hfg := HBj.out.frozen (3 + j)
          have bj : (0 : Int) ≤ j ∧ (j : Int) < 256 := ⟨by omega, by omega⟩
          have HS := Lib.hid (tcs5_set d m (bxs j) n j (Aes.box j) (by rw [bxs_length j (by omega)]; exact hlt))
          go_wp2_with fail
          refine ⟨⟨j + 1, by omega, by go_num, ?_, ?_⟩, by simp [intOf]; omega⟩
          · have := HBj.out.set_ (3 + j) (.int .u8 ((Aes.box j : Nat) : Int))
            rw [HS.out, bxs_set j hlt] at this
            exact this
          · exact HK.out.setCell (.inl (by simp)) _
    · obtain rfl : j = 256 := by omega
      rw [bxs_full] at HBj
      go_wp2_with fail
      go_end0
      exact ⟨rfl, HBj.out, HK.out⟩

set_option maxRecDepth 100000 in
/-- Do, whatever was done before. -/
theorem ado_any (w : World) (g n : Nat) (h : AF w g n) :
    Calls Try.prog 22 #[.pointer (some ⟨g, 0, none⟩), .func (.func 23) #[.pointer (some ⟨g, 0, none⟩)] #[]] w fun e w' => e = .returned (.tuple #[]) ∧ AT w' g n ∧ Keep [g] w w' := by
  rcases h with h | ⟨rfl, hB⟩
  · refine (onceA_done g 0 1 rfl _ w (by rw [h.cell]; rfl)).mono ?_
    rintro e w' ⟨rfl, rfl⟩
    exact ⟨rfl, h, Keep.refl _ _⟩
  · refine (onceA_first g 0 65 _ (tcs5 (.int .u32 0) (.int .i32 1) boxes 0) _ w hB rfl rfl (fun w1 hB1 hk1 => ?_) rfl rfl).mono ?_
    · rw [tcs5_set1] at hB1
      exact acompute_any w1 g _ _ _ hB1
    · rintro e w' ⟨rfl, h2, h3⟩
      rw [tcs5_set01] at h2
      exact ⟨rfl, h2, h3⟩

set_option maxRecDepth 100000 in
theorem anewC : ANewC := by
  intro w
  obtain ⟨Z, hZ, hb⟩ : ∃ Z, Z = tcs5 (.int .u32 0) (.int .i32 0) (List.replicate 256 0) 0 ∧ Try.prog.built 65 [] = some Z := ⟨_, rfl, by kernel_rfl⟩
  have HZ := Lib.hid hZ
  have HB := Lib.hid hb
  clear hZ hb
  go_enter Try.func7, Try.ntmps7
  go_wp2_with (first
    | (refine wl_build rfl _ _ rfl Z [] (by simp) HB.out ?_)
    | (refine wl_box rfl _ _ rfl Z rfl ?_; intro w1 hB1 hk1 hz1))
  go_ret
  exact ⟨_, rfl, Nat.le_refl _, .inr ⟨rfl, by rw [← HZ.out]; exact hB1⟩, hk1⟩

end Go.Proofs.Ytlkjngbelckgkaa
