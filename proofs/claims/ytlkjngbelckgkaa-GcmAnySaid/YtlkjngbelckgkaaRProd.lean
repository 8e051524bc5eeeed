/-
  Frames of the document's functions' sizes, opened (gcm).
  The document's field of 2^128: a block's bits.
  The document's field of 2^128: the product's drawn regions.
  The document's field of 2^128: the product's loops over the bits.
  The document's field of 2^128: the product.
  The document's field of 2^128: the product, whole.
-/
import Derived.Test.YtlkjngbelckgkaaGen
import Derived.Test.YtlkjngbelckgkaaRTurn
import Derived.Test.YtlkjngbelckgkaaGcmPQ
namespace Go.Proofs.Ytlkjngbelckgkaa
open Go.RowKit

set_option maxRecDepth 100000 in
theorem letters99 (f : Nat → Value) : (List.range 99).map f = [f 0, f 1, f 2, f 3, f 4, f 5, f 6, f 7, f 8, f 9, f 10, f 11, f 12, f 13, f 14, f 15, f 16, f 17, f 18, f 19, f 20, f 21, f 22, f 23, f 24, f 25, f 26, f 27, f 28, f 29, f 30, f 31, f 32, f 33, f 34, f 35, f 36, f 37, f 38, f 39, f 40, f 41, f 42, f 43, f 44, f 45, f 46, f 47, f 48, f 49, f 50, f 51, f 52, f 53, f 54, f 55, f 56, f 57, f 58, f 59, f 60, f 61, f 62, f 63, f 64, f 65, f 66, f 67, f 68, f 69, f 70, f 71, f 72, f 73, f 74, f 75, f 76, f 77, f 78, f 79, f 80, f 81, f 82, f 83, f 84, f 85, f 86, f 87, f 88, f 89, f 90, f 91, f 92, f 93, f 94, f 95, f 96, f 97, f 98] := by kernel_rfl
set_option maxRecDepth 100000 in
theorem Fr.open99 {l : List (Nat × Value)} {a : Act} (h : Fr 99 l a) : ∃ f : Nat → Value, Holds f l ∧ a = ⟨#[f 0, f 1, f 2, f 3, f 4, f 5, f 6, f 7, f 8, f 9, f 10, f 11, f 12, f 13, f 14, f 15, f 16, f 17, f 18, f 19, f 20, f 21, f 22, f 23, f 24, f 25, f 26, f 27, f 28, f 29, f 30, f 31, f 32, f 33, f 34, f 35, f 36, f 37, f 38, f 39, f 40, f 41, f 42, f 43, f 44, f 45, f 46, f 47, f 48, f 49, f 50, f 51, f 52, f 53, f 54, f 55, f 56, f 57, f 58, f 59, f 60, f 61, f 62, f 63, f 64, f 65, f 66, f 67, f 68, f 69, f 70, f 71, f 72, f 73, f 74, f 75, f 76, f 77, f 78, f 79, f 80, f 81, f 82, f 83, f 84, f 85, f 86, f 87, f 88, f 89, f 90, f 91, f 92, f 93, f 94, f 95, f 96, f 97, f 98], []⟩ := by
  refine ⟨fun k => a.tmps.getD k undef, h.slot, ?_⟩
  obtain ⟨t, d⟩ := a
  obtain ⟨h1, h2, _⟩ := h
  simp only at h1 h2
  subst h1
  have e := arr_letters t 99 h2
  rw [letters99 (fun k => t.getD k undef)] at e
  exact congrArg (fun t => Act.mk t []) e

set_option maxRecDepth 100000 in
theorem letters49 (f : Nat → Value) : (List.range 49).map f = [f 0, f 1, f 2, f 3, f 4, f 5, f 6, f 7, f 8, f 9, f 10, f 11, f 12, f 13, f 14, f 15, f 16, f 17, f 18, f 19, f 20, f 21, f 22, f 23, f 24, f 25, f 26, f 27, f 28, f 29, f 30, f 31, f 32, f 33, f 34, f 35, f 36, f 37, f 38, f 39, f 40, f 41, f 42, f 43, f 44, f 45, f 46, f 47, f 48] := by kernel_rfl
set_option maxRecDepth 100000 in
theorem Fr.open49 {l : List (Nat × Value)} {a : Act} (h : Fr 49 l a) : ∃ f : Nat → Value, Holds f l ∧ a = ⟨#[f 0, f 1, f 2, f 3, f 4, f 5, f 6, f 7, f 8, f 9, f 10, f 11, f 12, f 13, f 14, f 15, f 16, f 17, f 18, f 19, f 20, f 21, f 22, f 23, f 24, f 25, f 26, f 27, f 28, f 29, f 30, f 31, f 32, f 33, f 34, f 35, f 36, f 37, f 38, f 39, f 40, f 41, f 42, f 43, f 44, f 45, f 46, f 47, f 48], []⟩ := by
  refine ⟨fun k => a.tmps.getD k undef, h.slot, ?_⟩
  obtain ⟨t, d⟩ := a
  obtain ⟨h1, h2, _⟩ := h
  simp only at h1 h2
  subst h1
  have e := arr_letters t 49 h2
  rw [letters49 (fun k => t.getD k undef)] at e
  exact congrArg (fun t => Act.mk t []) e

set_option maxRecDepth 100000 in
theorem letters123 (f : Nat → Value) : (List.range 123).map f = [f 0, f 1, f 2, f 3, f 4, f 5, f 6, f 7, f 8, f 9, f 10, f 11, f 12, f 13, f 14, f 15, f 16, f 17, f 18, f 19, f 20, f 21, f 22, f 23, f 24, f 25, f 26, f 27, f 28, f 29, f 30, f 31, f 32, f 33, f 34, f 35, f 36, f 37, f 38, f 39, f 40, f 41, f 42, f 43, f 44, f 45, f 46, f 47, f 48, f 49, f 50, f 51, f 52, f 53, f 54, f 55, f 56, f 57, f 58, f 59, f 60, f 61, f 62, f 63, f 64, f 65, f 66, f 67, f 68, f 69, f 70, f 71, f 72, f 73, f 74, f 75, f 76, f 77, f 78, f 79, f 80, f 81, f 82, f 83, f 84, f 85, f 86, f 87, f 88, f 89, f 90, f 91, f 92, f 93, f 94, f 95, f 96, f 97, f 98, f 99, f 100, f 101, f 102, f 103, f 104, f 105, f 106, f 107, f 108, f 109, f 110, f 111, f 112, f 113, f 114, f 115, f 116, f 117, f 118, f 119, f 120, f 121, f 122] := by kernel_rfl
set_option maxRecDepth 100000 in
theorem Fr.open123 {l : List (Nat × Value)} {a : Act} (h : Fr 123 l a) : ∃ f : Nat → Value, Holds f l ∧ a = ⟨#[f 0, f 1, f 2, f 3, f 4, f 5, f 6, f 7, f 8, f 9, f 10, f 11, f 12, f 13, f 14, f 15, f 16, f 17, f 18, f 19, f 20, f 21, f 22, f 23, f 24, f 25, f 26, f 27, f 28, f 29, f 30, f 31, f 32, f 33, f 34, f 35, f 36, f 37, f 38, f 39, f 40, f 41, f 42, f 43, f 44, f 45, f 46, f 47, f 48, f 49, f 50, f 51, f 52, f 53, f 54, f 55, f 56, f 57, f 58, f 59, f 60, f 61, f 62, f 63, f 64, f 65, f 66, f 67, f 68, f 69, f 70, f 71, f 72, f 73, f 74, f 75, f 76, f 77, f 78, f 79, f 80, f 81, f 82, f 83, f 84, f 85, f 86, f 87, f 88, f 89, f 90, f 91, f 92, f 93, f 94, f 95, f 96, f 97, f 98, f 99, f 100, f 101, f 102, f 103, f 104, f 105, f 106, f 107, f 108, f 109, f 110, f 111, f 112, f 113, f 114, f 115, f 116, f 117, f 118, f 119, f 120, f 121, f 122], []⟩ := by
  refine ⟨fun k => a.tmps.getD k undef, h.slot, ?_⟩
  obtain ⟨t, d⟩ := a
  obtain ⟨h1, h2, _⟩ := h
  simp only at h1 h2
  subst h1
  have e := arr_letters t 123 h2
  rw [letters123 (fun k => t.getD k undef)] at e
  exact congrArg (fun t => Act.mk t []) e

set_option maxRecDepth 100000 in
set_option maxHeartbeats 4000000 in
theorem rbit_any (v : Value) (l : List Int) (i : Nat) (w : World) (hv : Sl .u8 w v l) (hl : l.length = 16) (hi : i < 128) :
    Calls Try.prog 46 #[v, .int .i64 i] w fun e w' => e = .returned (.int .u8 (Gcm.bitN l i : Nat)) ∧ w' = w := by
  obtain ⟨b, off, c, rfl, hc1, hc2, -⟩ := hv.cells (by omega)
  have hc := sl_cell hv (i / 8) (by omega)
  have hx := nb_lt hv.wf (i / 8)
  have HS := Lib.hid (show Gcm.bitN l i = nb l (i / 8) / 2 ^ (7 - i % 8) % 2 from rfl)
  rw [hl] at hv hc1 ⊢
  obtain ⟨q, hq⟩ : ∃ q, q = i / 8 := ⟨_, rfl⟩
  obtain ⟨r, hr⟩ : ∃ r, r = i % 8 := ⟨_, rfl⟩
  rw [← hq] at hc hx HS
  rw [← hr] at HS
  have d1 : Int.tdiv (i : Int) 8 = (q : Int) := by rw [Int.tdiv_eq_ediv_of_nonneg (by omega)]; omega
  have d2 : Int.tmod (i : Int) 8 = (r : Int) := by rw [Int.tmod_eq_emod_of_nonneg (by omega)]; omega
  have bq : (0 : Int) ≤ (q : Int) ∧ (q : Int) < 16 := ⟨by omega, by omega⟩
  have hr8 : r < 8 := by omega
  generalize nb l q = x at *
  clear hq hr hv
  go_enter Try.func46, Try.ntmps46
  rcases (show r = 0 ∨ r = 1 ∨ r = 2 ∨ r = 3 ∨ r = 4 ∨ r = 5 ∨ r = 6 ∨ r = 7 by omega) with rfl | rfl | rfl | rfl | rfl | rfl | rfl | rfl
  all_goals go_wp2_with fail
  all_goals go_ret
  all_goals refine ⟨ret_u8 ?_, rfl⟩
  all_goals rw [HS.out]
  · exact u8_bit x 128 hx
  · exact u8_bit x 64 hx
  · exact u8_bit x 32 hx
  · exact u8_bit x 16 hx
  · exact u8_bit x 8 hx
  · exact u8_bit x 4 hx
  · exact u8_bit x 2 hx
  · have := u8_bit0 x hx
    simpa using this

/-- Bits in an array of bytes. -/
def cells8 (p : List Nat) : Array Value := (p.map fun (n : Nat) => Value.int .u8 (n : Int)).toArray
theorem cells8_get (p : List Nat) (j : Nat) (h : j < p.length) : (cells8 p)[j]? = some (.int .u8 ((p.getD j 0 : Nat) : Int)) := by
  simp [cells8, h]
theorem cells8_set (p : List Nat) (j n : Nat) : (cells8 p).setIfInBounds j (.int .u8 (n : Int)) = cells8 (p.set j n) := by
  simp [cells8, List.setIfInBounds_toArray, List.map_set]

noncomputable def hgm8 : Code := regionOf Try.f36 8
set_option maxRecDepth 100000 in
set_option maxHeartbeats 4000000 in
theorem gm_reg8 (R : Act → World → Prop) (a : Act) (w2 : World) (ga oa ca gb ob cb P i k x : Nat) (al bl : List Int) (hal : al.length = 16) (hbl : bl.length = 16) (hA : Hid (Sl .u8 w2 (.slice (some ⟨ga, oa, none⟩) 16 ca) al)) (hB : Hid (Sl .u8 w2 (.slice (some ⟨gb, ob, none⟩) 16 cb) bl)) (hi : i < 128) (hk : k < 128) (hx : x < 256)
    (hcP : Hid (w2.cell? ⟨P, i + k, none⟩ = some (.int .u8 (x : Int)))) (hfG : Hid (∀ W : World, Keep [] w2 W → W.frozen? ⟨P, i + k, none⟩ = false))
    (hF : Fr 99 [(0, .slice (some ⟨ga, oa, none⟩) 16 ca), (1, .slice (some ⟨gb, ob, none⟩) 16 cb), (5, .pointer (some ⟨P, 0, none⟩)), (6, .int .i64 i), (7, .int .i64 k)] a)
    (hR : Hid (∀ a' W, Fr 99 [(0, .slice (some ⟨ga, oa, none⟩) 16 ca), (1, .slice (some ⟨gb, ob, none⟩) 16 cb), (5, .pointer (some ⟨P, 0, none⟩)), (6, .int .i64 i), (7, .int .i64 k)] a' → Keep [] w2 W → R a' (W.setCell ⟨P, i + k, none⟩ (.int .u8 ((x ^^^ (Gcm.bitN al i &&& Gcm.bitN bl k) : Nat) : Int))))) :
    Code.wp Try.prog hgm8 (OutN R) a w2 := by
  have CA : ∀ W, Keep [] w2 W → Calls Try.prog 46 #[.slice (some ⟨ga, oa, none⟩) 16 ca, .int .i64 i] W fun e w' => e = .returned (.int .u8 (Gcm.bitN al i : Nat)) ∧ w' = W := fun W h => rbit_any _ al i W (hA.out.keep0 h) hal hi
  have CB : ∀ W, Keep [] w2 W → Calls Try.prog 46 #[.slice (some ⟨gb, ob, none⟩) 16 cb, .int .i64 k] W fun e w' => e = .returned (.int .u8 (Gcm.bitN bl k : Nat)) ∧ w' = W := fun W h => rbit_any _ bl k W (hB.out.keep0 h) hbl hk
  have LG : ∀ W, Keep [] w2 W → W.cell? ⟨P, i + k, none⟩ = some (.int .u8 (x : Int)) := fun W hk => (hk.cell (World.block_lt_of_cell? _ _ hcP.out) (by simp)).trans hcP.out
  have hy := Gcm.bitN_lt al i
  have hz := Gcm.bitN_lt bl k
  generalize Gcm.bitN al i = y at *
  generalize Gcm.bitN bl k = z at *
  have X1 := u8_and_nat y z (by omega) (by omega)
  have hyz : y &&& z < 256 := Nat.and_lt_two_pow (n := 8) y (by omega)
  have X2 := u8_xor_nat x (y &&& z) hx hyz
  have w1 : IntKind.i64.wrap ((i : Int) + k) = (i : Int) + k := wf_i64' _ (by omega) (by omega)
  have e1 : ((i : Int) + (k : Int)).toNat = i + k := by omega
  have b1 : (0 : Int) ≤ (i : Int) + k ∧ (i : Int) + k < 256 := ⟨by omega, by omega⟩
  obtain ⟨f, ⟨f0, f1, f5, f6, f7, -⟩, rfl⟩ := hF.open99
  simp only [f0, f1, f5, f6, f7]
  clear f0 f1 f5 f6 f7 hF
  conv => arg 2; whnf
  refine wp_region_any (by kernel_rfl) ?_
  change wpAny _ _ _ _ _ _ _ (World.drew _)
  obtain ⟨W0, hW0⟩ : ∃ W0, W0 = w2.drew := ⟨_, rfl⟩
  rw [← hW0]
  have hk0 : Keep [] w2 W0 := by rw [hW0]; exact (Keep.refl [] w2).drew
  clear hW0
  go_simp
  refine wpAny_take (i := 0) (v := ?_) rfl (by kernel_rfl) (by kernel_rfl) (by kernel_rfl) (fun _ _ _ h => h) (Or.inl ⟨by rfl, ?_⟩) ?_
  rotate_left
  · intro y; go_simp; try (with_reducible rfl)
  rotate_left
  go_simp
  refine wpAny_take (i := 1) (v := ?_) rfl (by kernel_rfl) (by kernel_rfl) (by kernel_rfl) (fun _ _ _ h => h) (Or.inl ⟨by rfl, ?_⟩) ?_
  rotate_left
  · intro y; go_simp; try (with_reducible rfl)
  rotate_left
  go_simp
  refine wpAny_take (i := 2) (v := ?_) rfl (by kernel_rfl) (by kernel_rfl) (by kernel_rfl) (fun _ _ _ h => h) (Or.inl ⟨by rfl, ?_⟩) ?_
  rotate_left
  · intro y; go_simp; try (with_reducible rfl)
  rotate_left
  go_simp
  refine wpAny_take (i := 3) (v := ?_) rfl (by kernel_rfl) (by kernel_rfl) (by kernel_rfl) (fun _ _ _ h => h) (Or.inl ⟨by rfl, ?_⟩) ?_
  rotate_left
  · intro y; go_simp; try (with_reducible rfl)
  rotate_left
  go_simp
  refine wpAny_take (i := 4) (v := ?_) rfl (by kernel_rfl) (by kernel_rfl) (by kernel_rfl) (fun _ _ _ h => h) (Or.inl ⟨by rfl, ?_⟩) ?_
  rotate_left
  · intro y; go_simp; try (with_reducible rfl)
  rotate_left
  go_simp
  refine wpAny_take (i := 5) (v := ?_) rfl (by kernel_rfl) (by kernel_rfl) (by kernel_rfl) (fun _ _ _ h => h) (Or.inl ⟨by rfl, ?_⟩) ?_
  rotate_left
  · intro y; go_simp; try (with_reducible rfl)
  rotate_left
  go_simp
  refine wpAny_take (i := 6) (v := ?_) rfl (by kernel_rfl) (by kernel_rfl) (by kernel_rfl) (fun _ _ _ h => h) (Or.inl ⟨by rfl, ?_⟩) ?_
  rotate_left
  · intro y; go_simp; try (with_reducible rfl)
  rotate_left
  go_simp
  refine wpAny_take (i := 8) (v := ?_) rfl (by kernel_rfl) (by kernel_rfl) (by kernel_rfl) (fun _ _ _ h => h) (Or.inl ⟨by rfl, ?_⟩) ?_
  rotate_left
  · intro y; go_simp; try (with_reducible rfl)
  rotate_left
  go_simp
  refine wpAny_take (i := 9) (v := ?_) rfl (by kernel_rfl) (by kernel_rfl) (by kernel_rfl) (fun _ _ _ h => h) (Or.inl ⟨by rfl, ?_⟩) ?_
  rotate_left
  · intro y; go_simp; try (with_reducible rfl)
  rotate_left
  go_simp
  refine wpAny_take (i := 11) (v := ?_) rfl (by kernel_rfl) (by kernel_rfl) (by kernel_rfl) (fun _ _ _ h => h) (Or.inl ⟨by rfl, ?_⟩) ?_
  rotate_left
  · intro y; go_simp; try (with_reducible rfl)
  rotate_left
  go_simp
  refine wpAny_take (i := 12) (v := ?_) rfl (by kernel_rfl) (by kernel_rfl) (by kernel_rfl) (fun _ _ _ h => h) (Or.inl ⟨by rfl, ?_⟩) ?_
  rotate_left
  · intro y; go_simp; try (with_reducible rfl)
  rotate_left
  go_simp
  refine wpAny_ready (rs := [7, 10]) (by kernel_rfl) (by simp) ?_
  refine AllReady.cons rfl (fun K hK => ?_) ?_
  ·
    apply step_wp
    · rfl
    have q := LG _ hk0
    refine ow_load1 _ _ rfl _ rfl (.int .u8 (x : Int)) (by simp [go_sem, q]) ?_
    clear q
    apply hK
    clear hK K
    go_simp
    refine wpAny_ready (rs := [10]) (by kernel_rfl) (by simp) ?_
    refine AllReady.cons rfl (fun K hK => ?_) ?_
    ·
      apply step_wp
      · rfl
      refine ow_call _ _ _ (by kernel_rfl) (CA _ hk0) ?_
      rintro e W10 ⟨rfl, rfl⟩
      refine ⟨_, rfl, ?_⟩
      apply hK
      clear hK K
      go_simp
      refine wpAny_ready (rs := [13]) (by kernel_rfl) (by simp) ?_
      refine AllReady.cons rfl (fun K hK => ?_) ?_
      ·
        apply step_wp
        · rfl
        refine ow_call _ _ _ (by kernel_rfl) (CB _ hk0) ?_
        rintro e W13 ⟨rfl, rfl⟩
        refine ⟨_, rfl, ?_⟩
        apply hK
        clear hK K
        go_simp
        refine wpAny_take (i := 14) (v := ?_) rfl (by kernel_rfl) (by kernel_rfl) (by kernel_rfl) (fun _ _ _ h => h) (Or.inl ⟨by rfl, ?_⟩) ?_
        rotate_left
        · intro y; go_simp; try (with_reducible rfl)
        rotate_left
        go_simp
        refine wpAny_take (i := 15) (v := ?_) rfl (by kernel_rfl) (by kernel_rfl) (by kernel_rfl) (fun _ _ _ h => h) (Or.inl ⟨by rfl, ?_⟩) ?_
        rotate_left
        · intro y; go_simp; try (with_reducible rfl)
        rotate_left
        go_simp
        refine wpAny_take (i := 16) (v := ?_) rfl (by kernel_rfl) (by kernel_rfl) (by kernel_rfl) (fun _ _ _ h => h) (Or.inl ⟨by rfl, ?_⟩) ?_
        rotate_left
        · intro y; go_simp; try (with_reducible rfl)
        rotate_left
        go_simp
        refine wpAny_ready (rs := [17]) (by kernel_rfl) (by simp) ?_
        refine AllReady.cons rfl (fun K hK => ?_) ?_
        ·
          apply step_wp
          · rfl
          refine ow_store1 _ _ _ rfl ⟨P, i + k, none⟩ (.int .u8 (((x ^^^ (y &&& z) : Nat) : Int) : Int)) rfl rfl (sto1 (LG _ hk0) (hfG.out _ hk0)) ?_
          apply hK
          clear hK K
          go_simp
          refine wpAny_done (by kernel_rfl) ?_ _
          exact hR.out _ _ ⟨rfl, rfl, by repeat (first | exact trivial | refine ⟨rfl, ?_⟩)⟩ hk0
        exact AllReady.nil
      exact AllReady.nil
    exact AllReady.nil
  refine AllReady.cons rfl (fun K hK => ?_) ?_
  ·
    apply step_wp
    · rfl
    refine ow_call _ _ _ (by kernel_rfl) (CA _ hk0) ?_
    rintro e W10 ⟨rfl, rfl⟩
    refine ⟨_, rfl, ?_⟩
    apply hK
    clear hK K
    go_simp
    refine wpAny_ready (rs := [7, 13]) (by kernel_rfl) (by simp) ?_
    refine AllReady.cons rfl (fun K hK => ?_) ?_
    ·
      apply step_wp
      · rfl
      have q := LG _ hk0
      refine ow_load1 _ _ rfl _ rfl (.int .u8 (x : Int)) (by simp [go_sem, q]) ?_
      clear q
      apply hK
      clear hK K
      go_simp
      refine wpAny_ready (rs := [13]) (by kernel_rfl) (by simp) ?_
      refine AllReady.cons rfl (fun K hK => ?_) ?_
      ·
        apply step_wp
        · rfl
        refine ow_call _ _ _ (by kernel_rfl) (CB _ hk0) ?_
        rintro e W13 ⟨rfl, rfl⟩
        refine ⟨_, rfl, ?_⟩
        apply hK
        clear hK K
        go_simp
        refine wpAny_take (i := 14) (v := ?_) rfl (by kernel_rfl) (by kernel_rfl) (by kernel_rfl) (fun _ _ _ h => h) (Or.inl ⟨by rfl, ?_⟩) ?_
        rotate_left
        · intro y; go_simp; try (with_reducible rfl)
        rotate_left
        go_simp
        refine wpAny_take (i := 15) (v := ?_) rfl (by kernel_rfl) (by kernel_rfl) (by kernel_rfl) (fun _ _ _ h => h) (Or.inl ⟨by rfl, ?_⟩) ?_
        rotate_left
        · intro y; go_simp; try (with_reducible rfl)
        rotate_left
        go_simp
        refine wpAny_take (i := 16) (v := ?_) rfl (by kernel_rfl) (by kernel_rfl) (by kernel_rfl) (fun _ _ _ h => h) (Or.inl ⟨by rfl, ?_⟩) ?_
        rotate_left
        · intro y; go_simp; try (with_reducible rfl)
        rotate_left
        go_simp
        refine wpAny_ready (rs := [17]) (by kernel_rfl) (by simp) ?_
        refine AllReady.cons rfl (fun K hK => ?_) ?_
        ·
          apply step_wp
          · rfl
          refine ow_store1 _ _ _ rfl ⟨P, i + k, none⟩ (.int .u8 (((x ^^^ (y &&& z) : Nat) : Int) : Int)) rfl rfl (sto1 (LG _ hk0) (hfG.out _ hk0)) ?_
          apply hK
          clear hK K
          go_simp
          refine wpAny_done (by kernel_rfl) ?_ _
          exact hR.out _ _ ⟨rfl, rfl, by repeat (first | exact trivial | refine ⟨rfl, ?_⟩)⟩ hk0
        exact AllReady.nil
      exact AllReady.nil
    refine AllReady.cons rfl (fun K hK => ?_) ?_
    ·
      apply step_wp
      · rfl
      refine ow_call _ _ _ (by kernel_rfl) (CB _ hk0) ?_
      rintro e W13 ⟨rfl, rfl⟩
      refine ⟨_, rfl, ?_⟩
      apply hK
      clear hK K
      go_simp
      refine wpAny_take (i := 14) (v := ?_) rfl (by kernel_rfl) (by kernel_rfl) (by kernel_rfl) (fun _ _ _ h => h) (Or.inl ⟨by rfl, ?_⟩) ?_
      rotate_left
      · intro y; go_simp; try (with_reducible rfl)
      rotate_left
      go_simp
      refine wpAny_ready (rs := [7]) (by kernel_rfl) (by simp) ?_
      refine AllReady.cons rfl (fun K hK => ?_) ?_
      ·
        apply step_wp
        · rfl
        have q := LG _ hk0
        refine ow_load1 _ _ rfl _ rfl (.int .u8 (x : Int)) (by simp [go_sem, q]) ?_
        clear q
        apply hK
        clear hK K
        go_simp
        refine wpAny_take (i := 15) (v := ?_) rfl (by kernel_rfl) (by kernel_rfl) (by kernel_rfl) (fun _ _ _ h => h) (Or.inl ⟨by rfl, ?_⟩) ?_
        rotate_left
        · intro y; go_simp; try (with_reducible rfl)
        rotate_left
        go_simp
        refine wpAny_take (i := 16) (v := ?_) rfl (by kernel_rfl) (by kernel_rfl) (by kernel_rfl) (fun _ _ _ h => h) (Or.inl ⟨by rfl, ?_⟩) ?_
        rotate_left
        · intro y; go_simp; try (with_reducible rfl)
        rotate_left
        go_simp
        refine wpAny_ready (rs := [17]) (by kernel_rfl) (by simp) ?_
        refine AllReady.cons rfl (fun K hK => ?_) ?_
        ·
          apply step_wp
          · rfl
          refine ow_store1 _ _ _ rfl ⟨P, i + k, none⟩ (.int .u8 (((x ^^^ (y &&& z) : Nat) : Int) : Int)) rfl rfl (sto1 (LG _ hk0) (hfG.out _ hk0)) ?_
          apply hK
          clear hK K
          go_simp
          refine wpAny_done (by kernel_rfl) ?_ _
          exact hR.out _ _ ⟨rfl, rfl, by repeat (first | exact trivial | refine ⟨rfl, ?_⟩)⟩ hk0
        exact AllReady.nil
      exact AllReady.nil
    exact AllReady.nil
  exact AllReady.nil

noncomputable def hgm21 : Code := regionOf Try.f36 21
set_option maxRecDepth 100000 in
set_option maxHeartbeats 8000000 in
theorem gm_reg21 (R : Act → World → Prop) (a : Act) (w2 : World) (P G i q r x y : Nat) (hi : i < 128) (hq : i / 8 = q) (hr : i % 8 = r) (hx : x < 256) (hy : y < 2)
    (hcP : Hid (w2.cell? ⟨P, i, none⟩ = some (.int .u8 (y : Int)))) (hcG : Hid (w2.cell? ⟨G, q, none⟩ = some (.int .u8 (x : Int)))) (hfG : Hid (∀ W : World, Keep [] w2 W → W.frozen? ⟨G, q, none⟩ = false))
    (hF : Fr 99 [(5, .pointer (some ⟨P, 0, none⟩)), (9, .slice (some ⟨G, 0, none⟩) 16 16), (10, .int .i64 i)] a)
    (hR : Hid (∀ a' W, Fr 99 [(5, .pointer (some ⟨P, 0, none⟩)), (9, .slice (some ⟨G, 0, none⟩) 16 16), (10, .int .i64 i)] a' → Keep [] w2 W → R a' (W.setCell ⟨G, q, none⟩ (.int .u8 ((x ||| (y * 2 ^ (7 - r) % 256) : Nat) : Int))))) :
    Code.wp Try.prog hgm21 (OutN R) a w2 := by
  have LG : ∀ W, Keep [] w2 W → W.cell? ⟨G, q, none⟩ = some (.int .u8 (x : Int)) := fun W hk => (hk.cell (World.block_lt_of_cell? _ _ hcG.out) (by simp)).trans hcG.out
  have LP : ∀ W, Keep [] w2 W → W.cell? ⟨P, i, none⟩ = some (.int .u8 (y : Int)) := fun W hk => (hk.cell (World.block_lt_of_cell? _ _ hcP.out) (by simp)).trans hcP.out
  have d1 : Int.tdiv (i : Int) 8 = (q : Int) := by rw [Int.tdiv_eq_ediv_of_nonneg (by omega)]; omega
  have d2 : Int.tmod (i : Int) 8 = (r : Int) := by rw [Int.tmod_eq_emod_of_nonneg (by omega)]; omega
  have hr8 : r < 8 := by omega
  have wq : IntKind.i64.wrap (q : Int) = q := wf_i64' _ (by omega) (by omega)
  have b1 : (0 : Int) ≤ (i : Int) ∧ (i : Int) < 256 := ⟨by omega, by omega⟩
  have b2 : (0 : Int) ≤ (q : Int) ∧ (q : Int) < 16 := ⟨by omega, by omega⟩
  obtain ⟨z, hz⟩ : ∃ z, z = x ||| (y * 2 ^ (7 - r) % 256) := ⟨_, rfl⟩
  rw [← hz] at hR
  have HZ := Lib.hid hz
  clear hz
  obtain ⟨f, ⟨f5, f9, f10, -⟩, rfl⟩ := hF.open99
  simp only [f5, f9, f10]
  clear f5 f9 f10 hF
  conv => arg 2; whnf
  refine wp_region_any (by kernel_rfl) ?_
  change wpAny _ _ _ _ _ _ _ (World.drew _)
  obtain ⟨W0, hW0⟩ : ∃ W0, W0 = w2.drew := ⟨_, rfl⟩
  rw [← hW0]
  have hk0 : Keep [] w2 W0 := by rw [hW0]; exact (Keep.refl [] w2).drew
  clear hW0
  rcases (show r = 0 ∨ r = 1 ∨ r = 2 ∨ r = 3 ∨ r = 4 ∨ r = 5 ∨ r = 6 ∨ r = 7 by omega) with rfl | rfl | rfl | rfl | rfl | rfl | rfl | rfl
  ·
    have d2' : Int.tmod (i : Int) 8 = 0 := d2
    have k1 : IntKind.i64.wrap 0 = 0 := by decide
    have k3 : IntKind.i64.wrap 7 = 7 := by decide
    have k2 : IntKind.i64.wrap (7 - 0) = 7 := by decide
    have X : bits .or .u8 (x : Int) ((y : Int) * 128 % 256) = (z : Int) := by
      rw [HZ.out]
      have h := u8_or_nat x (y * 2 ^ (7 - 0) % 256) hx (Nat.mod_lt _ (by decide))
      rw [← h]
      congr 1 <;> omega
    have wy : IntKind.u8.wrap ((y : Int) * 128) = (y : Int) * 128 % 256 := by rw [IntKind.wrap_u8']
    clear d2
    go_simp
    refine wpAny_take (i := 0) (v := ?_) rfl (by kernel_rfl) (by kernel_rfl) (by kernel_rfl) (fun _ _ _ h => h) (Or.inl ⟨by rfl, ?_⟩) ?_
    rotate_left
    · intro y; go_simp; try (with_reducible rfl)
    rotate_left
    go_simp
    refine wpAny_take (i := 1) (v := ?_) rfl (by kernel_rfl) (by kernel_rfl) (by kernel_rfl) (fun _ _ _ h => h) (Or.inl ⟨by rfl, ?_⟩) ?_
    rotate_left
    · intro y; go_simp; try (with_reducible rfl)
    rotate_left
    go_simp
    refine wpAny_take (i := 2) (v := ?_) rfl (by kernel_rfl) (by kernel_rfl) (by kernel_rfl) (fun _ _ _ h => h) (Or.inl ⟨by rfl, ?_⟩) ?_
    rotate_left
    · intro y; go_simp; try (with_reducible rfl)
    rotate_left
    go_simp
    refine wpAny_take (i := 3) (v := ?_) rfl (by kernel_rfl) (by kernel_rfl) (by kernel_rfl) (fun _ _ _ h => h) (Or.inl ⟨by rfl, ?_⟩) ?_
    rotate_left
    · intro y; go_simp; try (with_reducible rfl)
    rotate_left
    go_simp
    refine wpAny_take (i := 4) (v := ?_) rfl (by kernel_rfl) (by kernel_rfl) (by kernel_rfl) (fun _ _ _ h => h) (Or.inl ⟨by rfl, ?_⟩) ?_
    rotate_left
    · intro y; go_simp; try (with_reducible rfl)
    rotate_left
    go_simp
    refine wpAny_take (i := 5) (v := ?_) rfl (by kernel_rfl) (by kernel_rfl) (by kernel_rfl) (fun _ _ _ h => h) (Or.inl ⟨by rfl, ?_⟩) ?_
    rotate_left
    · intro y; go_simp; try (with_reducible rfl)
    rotate_left
    go_simp
    refine wpAny_take (i := 6) (v := ?_) rfl (by kernel_rfl) (by kernel_rfl) (by kernel_rfl) (fun _ _ _ h => h) (Or.inl ⟨by rfl, ?_⟩) ?_
    rotate_left
    · intro y; go_simp; try (with_reducible rfl)
    rotate_left
    go_simp
    refine wpAny_take (i := 8) (v := ?_) rfl (by kernel_rfl) (by kernel_rfl) (by kernel_rfl) (fun _ _ _ h => h) (Or.inl ⟨by rfl, ?_⟩) ?_
    rotate_left
    · intro y; go_simp; try (with_reducible rfl)
    rotate_left
    go_simp
    refine wpAny_take (i := 9) (v := ?_) rfl (by kernel_rfl) (by kernel_rfl) (by kernel_rfl) (fun _ _ _ h => h) (Or.inl ⟨by rfl, ?_⟩) ?_
    rotate_left
    · intro y; go_simp; try (with_reducible rfl)
    rotate_left
    go_simp
    refine wpAny_take (i := 11) (v := ?_) rfl (by kernel_rfl) (by kernel_rfl) (by kernel_rfl) (fun _ _ _ h => h) (Or.inl ⟨by rfl, ?_⟩) ?_
    rotate_left
    · intro y; go_simp; try (with_reducible rfl)
    rotate_left
    go_simp
    refine wpAny_take (i := 12) (v := ?_) rfl (by kernel_rfl) (by kernel_rfl) (by kernel_rfl) (fun _ _ _ h => h) (Or.inl ⟨by rfl, ?_⟩) ?_
    rotate_left
    · intro y; go_simp; try (with_reducible rfl)
    rotate_left
    go_simp
    refine wpAny_take (i := 13) (v := ?_) rfl (by kernel_rfl) (by kernel_rfl) (by kernel_rfl) (fun _ _ _ h => h) (Or.inl ⟨by rfl, ?_⟩) ?_
    rotate_left
    · intro y; go_simp; try (with_reducible rfl)
    rotate_left
    go_simp
    refine wpAny_ready (rs := [7, 10]) (by kernel_rfl) (by simp) ?_
    refine AllReady.cons rfl (fun K hK => ?_) ?_
    ·
      apply step_wp
      · rfl
      have q := LG _ hk0
      refine ow_load1 _ _ rfl _ rfl (.int .u8 (x : Int)) (by simp [go_sem, q]) ?_
      clear q
      apply hK
      clear hK K
      go_simp
      refine wpAny_ready (rs := [10]) (by kernel_rfl) (by simp) ?_
      refine AllReady.cons rfl (fun K hK => ?_) ?_
      ·
        apply step_wp
        · rfl
        have q := LP _ hk0
        refine ow_load1 _ _ rfl _ rfl (.int .u8 (y : Int)) (by simp [go_sem, q]) ?_
        clear q
        apply hK
        clear hK K
        go_simp
        refine wpAny_take (i := 14) (v := ?_) rfl (by kernel_rfl) (by kernel_rfl) (by kernel_rfl) (fun _ _ _ h => h) (Or.inl ⟨by rfl, ?_⟩) ?_
        rotate_left
        · intro y; go_simp; try (with_reducible rfl)
        rotate_left
        go_simp
        refine wpAny_take (i := 15) (v := ?_) rfl (by kernel_rfl) (by kernel_rfl) (by kernel_rfl) (fun _ _ _ h => h) (Or.inl ⟨by rfl, ?_⟩) ?_
        rotate_left
        · intro y; go_simp; try (with_reducible rfl)
        rotate_left
        go_simp
        refine wpAny_take (i := 16) (v := ?_) rfl (by kernel_rfl) (by kernel_rfl) (by kernel_rfl) (fun _ _ _ h => h) (Or.inl ⟨by rfl, ?_⟩) ?_
        rotate_left
        · intro y; go_simp; try (with_reducible rfl)
        rotate_left
        go_simp
        refine wpAny_ready (rs := [17]) (by kernel_rfl) (by simp) ?_
        refine AllReady.cons rfl (fun K hK => ?_) ?_
        ·
          apply step_wp
          · rfl
          refine ow_store1 _ _ _ rfl ⟨G, q, none⟩ (.int .u8 (z : Int)) rfl rfl (sto1 (LG _ hk0) (hfG.out _ hk0)) ?_
          apply hK
          clear hK K
          go_simp
          refine wpAny_done (by kernel_rfl) ?_ _
          exact hR.out _ _ ⟨rfl, rfl, by repeat (first | exact trivial | refine ⟨rfl, ?_⟩)⟩ hk0
        exact AllReady.nil
      exact AllReady.nil
    refine AllReady.cons rfl (fun K hK => ?_) ?_
    ·
      apply step_wp
      · rfl
      have q := LP _ hk0
      refine ow_load1 _ _ rfl _ rfl (.int .u8 (y : Int)) (by simp [go_sem, q]) ?_
      clear q
      apply hK
      clear hK K
      go_simp
      refine wpAny_take (i := 14) (v := ?_) rfl (by kernel_rfl) (by kernel_rfl) (by kernel_rfl) (fun _ _ _ h => h) (Or.inl ⟨by rfl, ?_⟩) ?_
      rotate_left
      · intro y; go_simp; try (with_reducible rfl)
      rotate_left
      go_simp
      refine wpAny_ready (rs := [7]) (by kernel_rfl) (by simp) ?_
      refine AllReady.cons rfl (fun K hK => ?_) ?_
      ·
        apply step_wp
        · rfl
        have q := LG _ hk0
        refine ow_load1 _ _ rfl _ rfl (.int .u8 (x : Int)) (by simp [go_sem, q]) ?_
        clear q
        apply hK
        clear hK K
        go_simp
        refine wpAny_take (i := 15) (v := ?_) rfl (by kernel_rfl) (by kernel_rfl) (by kernel_rfl) (fun _ _ _ h => h) (Or.inl ⟨by rfl, ?_⟩) ?_
        rotate_left
        · intro y; go_simp; try (with_reducible rfl)
        rotate_left
        go_simp
        refine wpAny_take (i := 16) (v := ?_) rfl (by kernel_rfl) (by kernel_rfl) (by kernel_rfl) (fun _ _ _ h => h) (Or.inl ⟨by rfl, ?_⟩) ?_
        rotate_left
        · intro y; go_simp; try (with_reducible rfl)
        rotate_left
        go_simp
        refine wpAny_ready (rs := [17]) (by kernel_rfl) (by simp) ?_
        refine AllReady.cons rfl (fun K hK => ?_) ?_
        ·
          apply step_wp
          · rfl
          refine ow_store1 _ _ _ rfl ⟨G, q, none⟩ (.int .u8 (z : Int)) rfl rfl (sto1 (LG _ hk0) (hfG.out _ hk0)) ?_
          apply hK
          clear hK K
          go_simp
          refine wpAny_done (by kernel_rfl) ?_ _
          exact hR.out _ _ ⟨rfl, rfl, by repeat (first | exact trivial | refine ⟨rfl, ?_⟩)⟩ hk0
        exact AllReady.nil
      exact AllReady.nil
    exact AllReady.nil
  ·
    have d2' : Int.tmod (i : Int) 8 = 1 := d2
    have k1 : IntKind.i64.wrap 1 = 1 := by decide
    have k3 : IntKind.i64.wrap 6 = 6 := by decide
    have k2 : IntKind.i64.wrap (7 - 1) = 6 := by decide
    have X : bits .or .u8 (x : Int) ((y : Int) * 64 % 256) = (z : Int) := by
      rw [HZ.out]
      have h := u8_or_nat x (y * 2 ^ (7 - 1) % 256) hx (Nat.mod_lt _ (by decide))
      rw [← h]
      congr 1 <;> omega
    have wy : IntKind.u8.wrap ((y : Int) * 64) = (y : Int) * 64 % 256 := by rw [IntKind.wrap_u8']
    clear d2
    go_simp
    refine wpAny_take (i := 0) (v := ?_) rfl (by kernel_rfl) (by kernel_rfl) (by kernel_rfl) (fun _ _ _ h => h) (Or.inl ⟨by rfl, ?_⟩) ?_
    rotate_left
    · intro y; go_simp; try (with_reducible rfl)
    rotate_left
    go_simp
    refine wpAny_take (i := 1) (v := ?_) rfl (by kernel_rfl) (by kernel_rfl) (by kernel_rfl) (fun _ _ _ h => h) (Or.inl ⟨by rfl, ?_⟩) ?_
    rotate_left
    · intro y; go_simp; try (with_reducible rfl)
    rotate_left
    go_simp
    refine wpAny_take (i := 2) (v := ?_) rfl (by kernel_rfl) (by kernel_rfl) (by kernel_rfl) (fun _ _ _ h => h) (Or.inl ⟨by rfl, ?_⟩) ?_
    rotate_left
    · intro y; go_simp; try (with_reducible rfl)
    rotate_left
    go_simp
    refine wpAny_take (i := 3) (v := ?_) rfl (by kernel_rfl) (by kernel_rfl) (by kernel_rfl) (fun _ _ _ h => h) (Or.inl ⟨by rfl, ?_⟩) ?_
    rotate_left
    · intro y; go_simp; try (with_reducible rfl)
    rotate_left
    go_simp
    refine wpAny_take (i := 4) (v := ?_) rfl (by kernel_rfl) (by kernel_rfl) (by kernel_rfl) (fun _ _ _ h => h) (Or.inl ⟨by rfl, ?_⟩) ?_
    rotate_left
    · intro y; go_simp; try (with_reducible rfl)
    rotate_left
    go_simp
    refine wpAny_take (i := 5) (v := ?_) rfl (by kernel_rfl) (by kernel_rfl) (by kernel_rfl) (fun _ _ _ h => h) (Or.inl ⟨by rfl, ?_⟩) ?_
    rotate_left
    · intro y; go_simp; try (with_reducible rfl)
    rotate_left
    go_simp
    refine wpAny_take (i := 6) (v := ?_) rfl (by kernel_rfl) (by kernel_rfl) (by kernel_rfl) (fun _ _ _ h => h) (Or.inl ⟨by rfl, ?_⟩) ?_
    rotate_left
    · intro y; go_simp; try (with_reducible rfl)
    rotate_left
    go_simp
    refine wpAny_take (i := 8) (v := ?_) rfl (by kernel_rfl) (by kernel_rfl) (by kernel_rfl) (fun _ _ _ h => h) (Or.inl ⟨by rfl, ?_⟩) ?_
    rotate_left
    · intro y; go_simp; try (with_reducible rfl)
    rotate_left
    go_simp
    refine wpAny_take (i := 9) (v := ?_) rfl (by kernel_rfl) (by kernel_rfl) (by kernel_rfl) (fun _ _ _ h => h) (Or.inl ⟨by rfl, ?_⟩) ?_
    rotate_left
    · intro y; go_simp; try (with_reducible rfl)
    rotate_left
    go_simp
    refine wpAny_take (i := 11) (v := ?_) rfl (by kernel_rfl) (by kernel_rfl) (by kernel_rfl) (fun _ _ _ h => h) (Or.inl ⟨by rfl, ?_⟩) ?_
    rotate_left
    · intro y; go_simp; try (with_reducible rfl)
    rotate_left
    go_simp
    refine wpAny_take (i := 12) (v := ?_) rfl (by kernel_rfl) (by kernel_rfl) (by kernel_rfl) (fun _ _ _ h => h) (Or.inl ⟨by rfl, ?_⟩) ?_
    rotate_left
    · intro y; go_simp; try (with_reducible rfl)
    rotate_left
    go_simp
    refine wpAny_take (i := 13) (v := ?_) rfl (by kernel_rfl) (by kernel_rfl) (by kernel_rfl) (fun _ _ _ h => h) (Or.inl ⟨by rfl, ?_⟩) ?_
    rotate_left
    · intro y; go_simp; try (with_reducible rfl)
    rotate_left
    go_simp
    refine wpAny_ready (rs := [7, 10]) (by kernel_rfl) (by simp) ?_
    refine AllReady.cons rfl (fun K hK => ?_) ?_
    ·
      apply step_wp
      · rfl
      have q := LG _ hk0
      refine ow_load1 _ _ rfl _ rfl (.int .u8 (x : Int)) (by simp [go_sem, q]) ?_
      clear q
      apply hK
      clear hK K
      go_simp
      refine wpAny_ready (rs := [10]) (by kernel_rfl) (by simp) ?_
      refine AllReady.cons rfl (fun K hK => ?_) ?_
      ·
        apply step_wp
        · rfl
        have q := LP _ hk0
        refine ow_load1 _ _ rfl _ rfl (.int .u8 (y : Int)) (by simp [go_sem, q]) ?_
        clear q
        apply hK
        clear hK K
        go_simp
        refine wpAny_take (i := 14) (v := ?_) rfl (by kernel_rfl) (by kernel_rfl) (by kernel_rfl) (fun _ _ _ h => h) (Or.inl ⟨by rfl, ?_⟩) ?_
        rotate_left
        · intro y; go_simp; try (with_reducible rfl)
        rotate_left
        go_simp
        refine wpAny_take (i := 15) (v := ?_) rfl (by kernel_rfl) (by kernel_rfl) (by kernel_rfl) (fun _ _ _ h => h) (Or.inl ⟨by rfl, ?_⟩) ?_
        rotate_left
        · intro y; go_simp; try (with_reducible rfl)
        rotate_left
        go_simp
        refine wpAny_take (i := 16) (v := ?_) rfl (by kernel_rfl) (by kernel_rfl) (by kernel_rfl) (fun _ _ _ h => h) (Or.inl ⟨by rfl, ?_⟩) ?_
        rotate_left
        · intro y; go_simp; try (with_reducible rfl)
        rotate_left
        go_simp
        refine wpAny_ready (rs := [17]) (by kernel_rfl) (by simp) ?_
        refine AllReady.cons rfl (fun K hK => ?_) ?_
        ·
          apply step_wp
          · rfl
          refine ow_store1 _ _ _ rfl ⟨G, q, none⟩ (.int .u8 (z : Int)) rfl rfl (sto1 (LG _ hk0) (hfG.out _ hk0)) ?_
          apply hK
          clear hK K
          go_simp
          refine wpAny_done (by kernel_rfl) ?_ _
          exact hR.out _ _ ⟨rfl, rfl, by repeat (first | exact trivial | refine ⟨rfl, ?_⟩)⟩ hk0
        exact AllReady.nil
      exact AllReady.nil
    refine AllReady.cons rfl (fun K hK => ?_) ?_
    ·
      apply step_wp
      · rfl
      have q := LP _ hk0
      refine ow_load1 _ _ rfl _ rfl (.int .u8 (y : Int)) (by simp [go_sem, q]) ?_
      clear q
      apply hK
      clear hK K
      go_simp
      refine wpAny_take (i := 14) (v := ?_) rfl (by kernel_rfl) (by kernel_rfl) (by kernel_rfl) (fun _ _ _ h => h) (Or.inl ⟨by rfl, ?_⟩) ?_
      rotate_left
      · intro y; go_simp; try (with_reducible rfl)
      rotate_left
      go_simp
      refine wpAny_ready (rs := [7]) (by kernel_rfl) (by simp) ?_
      refine AllReady.cons rfl (fun K hK => ?_) ?_
      ·
        apply step_wp
        · rfl
        have q := LG _ hk0
        refine ow_load1 _ _ rfl _ rfl (.int .u8 (x : Int)) (by simp [go_sem, q]) ?_
        clear q
        apply hK
        clear hK K
        go_simp
        refine wpAny_take (i := 15) (v := ?_) rfl (by kernel_rfl) (by kernel_rfl) (by kernel_rfl) (fun _ _ _ h => h) (Or.inl ⟨by rfl, ?_⟩) ?_
        rotate_left
        · intro y; go_simp; try (with_reducible rfl)
        rotate_left
        go_simp
        refine wpAny_take (i := 16) (v := ?_) rfl (by kernel_rfl) (by kernel_rfl) (by kernel_rfl) (fun _ _ _ h => h) (Or.inl ⟨by rfl, ?_⟩) ?_
        rotate_left
        · intro y; go_simp; try (with_reducible rfl)
        rotate_left
        go_simp
        refine wpAny_ready (rs := [17]) (by kernel_rfl) (by simp) ?_
        refine AllReady.cons rfl (fun K hK => ?_) ?_
        ·
          apply step_wp
          · rfl
          refine ow_store1 _ _ _ rfl ⟨G, q, none⟩ (.int .u8 (z : Int)) rfl rfl (sto1 (LG _ hk0) (hfG.out _ hk0)) ?_
          apply hK
          clear hK K
          go_simp
          refine wpAny_done (by kernel_rfl) ?_ _
          exact hR.out _ _ ⟨rfl, rfl, by repeat (first | exact trivial | refine ⟨rfl, ?_⟩)⟩ hk0
        exact AllReady.nil
      exact AllReady.nil
    exact AllReady.nil
  ·
    have d2' : Int.tmod (i : Int) 8 = 2 := d2
    have k1 : IntKind.i64.wrap 2 = 2 := by decide
    have k3 : IntKind.i64.wrap 5 = 5 := by decide
    have k2 : IntKind.i64.wrap (7 - 2) = 5 := by decide
    have X : bits .or .u8 (x : Int) ((y : Int) * 32 % 256) = (z : Int) := by
      rw [HZ.out]
      have h := u8_or_nat x (y * 2 ^ (7 - 2) % 256) hx (Nat.mod_lt _ (by decide))
      rw [← h]
      congr 1 <;> omega
    have wy : IntKind.u8.wrap ((y : Int) * 32) = (y : Int) * 32 % 256 := by rw [IntKind.wrap_u8']
    clear d2
    go_simp
    refine wpAny_take (i := 0) (v := ?_) rfl (by kernel_rfl) (by kernel_rfl) (by kernel_rfl) (fun _ _ _ h => h) (Or.inl ⟨by rfl, ?_⟩) ?_
    rotate_left
    · intro y; go_simp; try (with_reducible rfl)
    rotate_left
    go_simp
    refine wpAny_take (i := 1) (v := ?_) rfl (by kernel_rfl) (by kernel_rfl) (by kernel_rfl) (fun _ _ _ h => h) (Or.inl ⟨by rfl, ?_⟩) ?_
    rotate_left
    · intro y; go_simp; try (with_reducible rfl)
    rotate_left
    go_simp
    refine wpAny_take (i := 2) (v := ?_) rfl (by kernel_rfl) (by kernel_rfl) (by kernel_rfl) (fun _ _ _ h => h) (Or.inl ⟨by rfl, ?_⟩) ?_
    rotate_left
    · intro y; go_simp; try (with_reducible rfl)
    rotate_left
    go_simp
    refine wpAny_take (i := 3) (v := ?_) rfl (by kernel_rfl) (by kernel_rfl) (by kernel_rfl) (fun _ _ _ h => h) (Or.inl ⟨by rfl, ?_⟩) ?_
    rotate_left
    · intro y; go_simp; try (with_reducible rfl)
    rotate_left
    go_simp
    refine wpAny_take (i := 4) (v := ?_) rfl (by kernel_rfl) (by kernel_rfl) (by kernel_rfl) (fun _ _ _ h => h) (Or.inl ⟨by rfl, ?_⟩) ?_
    rotate_left
    · intro y; go_simp; try (with_reducible rfl)
    rotate_left
    go_simp
    refine wpAny_take (i := 5) (v := ?_) rfl (by kernel_rfl) (by kernel_rfl) (by kernel_rfl) (fun _ _ _ h => h) (Or.inl ⟨by rfl, ?_⟩) ?_
    rotate_left
    · intro y; go_simp; try (with_reducible rfl)
    rotate_left
    go_simp
    refine wpAny_take (i := 6) (v := ?_) rfl (by kernel_rfl) (by kernel_rfl) (by kernel_rfl) (fun _ _ _ h => h) (Or.inl ⟨by rfl, ?_⟩) ?_
    rotate_left
    · intro y; go_simp; try (with_reducible rfl)
    rotate_left
    go_simp
    refine wpAny_take (i := 8) (v := ?_) rfl (by kernel_rfl) (by kernel_rfl) (by kernel_rfl) (fun _ _ _ h => h) (Or.inl ⟨by rfl, ?_⟩) ?_
    rotate_left
    · intro y; go_simp; try (with_reducible rfl)
    rotate_left
    go_simp
    refine wpAny_take (i := 9) (v := ?_) rfl (by kernel_rfl) (by kernel_rfl) (by kernel_rfl) (fun _ _ _ h => h) (Or.inl ⟨by rfl, ?_⟩) ?_
    rotate_left
    · intro y; go_simp; try (with_reducible rfl)
    rotate_left
    go_simp
    refine wpAny_take (i := 11) (v := ?_) rfl (by kernel_rfl) (by kernel_rfl) (by kernel_rfl) (fun _ _ _ h => h) (Or.inl ⟨by rfl, ?_⟩) ?_
    rotate_left
    · intro y; go_simp; try (with_reducible rfl)
    rotate_left
    go_simp
    refine wpAny_take (i := 12) (v := ?_) rfl (by kernel_rfl) (by kernel_rfl) (by kernel_rfl) (fun _ _ _ h => h) (Or.inl ⟨by rfl, ?_⟩) ?_
    rotate_left
    · intro y; go_simp; try (with_reducible rfl)
    rotate_left
    go_simp
    refine wpAny_take (i := 13) (v := ?_) rfl (by kernel_rfl) (by kernel_rfl) (by kernel_rfl) (fun _ _ _ h => h) (Or.inl ⟨by rfl, ?_⟩) ?_
    rotate_left
    · intro y; go_simp; try (with_reducible rfl)
    rotate_left
    go_simp
    refine wpAny_ready (rs := [7, 10]) (by kernel_rfl) (by simp) ?_
    refine AllReady.cons rfl (fun K hK => ?_) ?_
    ·
      apply step_wp
      · rfl
      have q := LG _ hk0
      refine ow_load1 _ _ rfl _ rfl (.int .u8 (x : Int)) (by simp [go_sem, q]) ?_
      clear q
      apply hK
      clear hK K
      go_simp
      refine wpAny_ready (rs := [10]) (by kernel_rfl) (by simp) ?_
      refine AllReady.cons rfl (fun K hK => ?_) ?_
      ·
        apply step_wp
        · rfl
        have q := LP _ hk0
        refine ow_load1 _ _ rfl _ rfl (.int .u8 (y : Int)) (by simp [go_sem, q]) ?_
        clear q
        apply hK
        clear hK K
        go_simp
        refine wpAny_take (i := 14) (v := ?_) rfl (by kernel_rfl) (by kernel_rfl) (by kernel_rfl) (fun _ _ _ h => h) (Or.inl ⟨by rfl, ?_⟩) ?_
        rotate_left
        · intro y; go_simp; try (with_reducible rfl)
        rotate_left
        go_simp
        refine wpAny_take (i := 15) (v := ?_) rfl (by kernel_rfl) (by kernel_rfl) (by kernel_rfl) (fun _ _ _ h => h) (Or.inl ⟨by rfl, ?_⟩) ?_
        rotate_left
        · intro y; go_simp; try (with_reducible rfl)
        rotate_left
        go_simp
        refine wpAny_take (i := 16) (v := ?_) rfl (by kernel_rfl) (by kernel_rfl) (by kernel_rfl) (fun _ _ _ h => h) (Or.inl ⟨by rfl, ?_⟩) ?_
        rotate_left
        · intro y; go_simp; try (with_reducible rfl)
        rotate_left
        go_simp
        refine wpAny_ready (rs := [17]) (by kernel_rfl) (by simp) ?_
        refine AllReady.cons rfl (fun K hK => ?_) ?_
        ·
          apply step_wp
          · rfl
          refine ow_store1 _ _ _ rfl ⟨G, q, none⟩ (.int .u8 (z : Int)) rfl rfl (sto1 (LG _ hk0) (hfG.out _ hk0)) ?_
          apply hK
          clear hK K
          go_simp
          refine wpAny_done (by kernel_rfl) ?_ _
          exact hR.out _ _ ⟨rfl, rfl, by repeat (first | exact trivial | refine ⟨rfl, ?_⟩)⟩ hk0
        exact AllReady.nil
      exact AllReady.nil
    refine AllReady.cons rfl (fun K hK => ?_) ?_
    ·
      apply step_wp
      · rfl
      have q := LP _ hk0
      refine ow_load1 _ _ rfl _ rfl (.int .u8 (y : Int)) (by simp [go_sem, q]) ?_
      clear q
      apply hK
      clear hK K
      go_simp
      refine wpAny_take (i := 14) (v := ?_) rfl (by kernel_rfl) (by kernel_rfl) (by kernel_rfl) (fun _ _ _ h => h) (Or.inl ⟨by rfl, ?_⟩) ?_
      rotate_left
      · intro y; go_simp; try (with_reducible rfl)
      rotate_left
      go_simp
      refine wpAny_ready (rs := [7]) (by kernel_rfl) (by simp) ?_
      refine AllReady.cons rfl (fun K hK => ?_) ?_
      ·
        apply step_wp
        · rfl
        have q := LG _ hk0
        refine ow_load1 _ _ rfl _ rfl (.int .u8 (x : Int)) (by simp [go_sem, q]) ?_
        clear q
        apply hK
        clear hK K
        go_simp
        refine wpAny_take (i := 15) (v := ?_) rfl (by kernel_rfl) (by kernel_rfl) (by kernel_rfl) (fun _ _ _ h => h) (Or.inl ⟨by rfl, ?_⟩) ?_
        rotate_left
        · intro y; go_simp; try (with_reducible rfl)
        rotate_left
        go_simp
        refine wpAny_take (i := 16) (v := ?_) rfl (by kernel_rfl) (by kernel_rfl) (by kernel_rfl) (fun _ _ _ h => h) (Or.inl ⟨by rfl, ?_⟩) ?_
        rotate_left
        · intro y; go_simp; try (with_reducible rfl)
        rotate_left
        go_simp
        refine wpAny_ready (rs := [17]) (by kernel_rfl) (by simp) ?_
        refine AllReady.cons rfl (fun K hK => ?_) ?_
        ·
          apply step_wp
          · rfl
          refine ow_store1 _ _ _ rfl ⟨G, q, none⟩ (.int .u8 (z : Int)) rfl rfl (sto1 (LG _ hk0) (hfG.out _ hk0)) ?_
          apply hK
          clear hK K
          go_simp
          refine wpAny_done (by kernel_rfl) ?_ _
          exact hR.out _ _ ⟨rfl, rfl, by repeat (first | exact trivial | refine ⟨rfl, ?_⟩)⟩ hk0
        exact AllReady.nil
      exact AllReady.nil
    exact AllReady.nil
  ·
    have d2' : Int.tmod (i : Int) 8 = 3 := d2
    have k1 : IntKind.i64.wrap 3 = 3 := by decide
    have k3 : IntKind.i64.wrap 4 = 4 := by decide
    have k2 : IntKind.i64.wrap (7 - 3) = 4 := by decide
    have X : bits .or .u8 (x : Int) ((y : Int) * 16 % 256) = (z : Int) := by
      rw [HZ.out]
      have h := u8_or_nat x (y * 2 ^ (7 - 3) % 256) hx (Nat.mod_lt _ (by decide))
      rw [← h]
      congr 1 <;> omega
    have wy : IntKind.u8.wrap ((y : Int) * 16) = (y : Int) * 16 % 256 := by rw [IntKind.wrap_u8']
    clear d2
    go_simp
    refine wpAny_take (i := 0) (v := ?_) rfl (by kernel_rfl) (by kernel_rfl) (by kernel_rfl) (fun _ _ _ h => h) (Or.inl ⟨by rfl, ?_⟩) ?_
    rotate_left
    · intro y; go_simp; try (with_reducible rfl)
    rotate_left
    go_simp
    refine wpAny_take (i := 1) (v := ?_) rfl (by kernel_rfl) (by kernel_rfl) (by kernel_rfl) (fun _ _ _ h => h) (Or.inl ⟨by rfl, ?_⟩) ?_
    rotate_left
    · intro y; go_simp; try (with_reducible rfl)
    rotate_left
    go_simp
    refine wpAny_take (i := 2) (v := ?_) rfl (by kernel_rfl) (by kernel_rfl) (by kernel_rfl) (fun _ _ _ h => h) (Or.inl ⟨by rfl, ?_⟩) ?_
    rotate_left
    · intro y; go_simp; try (with_reducible rfl)
    rotate_left
    go_simp
    refine wpAny_take (i := 3) (v := ?_) rfl (by kernel_rfl) (by kernel_rfl) (by kernel_rfl) (fun _ _ _ h => h) (Or.inl ⟨by rfl, ?_⟩) ?_
    rotate_left
    · intro y; go_simp; try (with_reducible rfl)
    rotate_left
    go_simp
    refine wpAny_take (i := 4) (v := ?_) rfl (by kernel_rfl) (by kernel_rfl) (by kernel_rfl) (fun _ _ _ h => h) (Or.inl ⟨by rfl, ?_⟩) ?_
    rotate_left
    · intro y; go_simp; try (with_reducible rfl)
    rotate_left
    go_simp
    refine wpAny_take (i := 5) (v := ?_) rfl (by kernel_rfl) (by kernel_rfl) (by kernel_rfl) (fun _ _ _ h => h) (Or.inl ⟨by rfl, ?_⟩) ?_
    rotate_left
    · intro y; go_simp; try (with_reducible rfl)
    rotate_left
    go_simp
    refine wpAny_take (i := 6) (v := ?_) rfl (by kernel_rfl) (by kernel_rfl) (by kernel_rfl) (fun _ _ _ h => h) (Or.inl ⟨by rfl, ?_⟩) ?_
    rotate_left
    · intro y; go_simp; try (with_reducible rfl)
    rotate_left
    go_simp
    refine wpAny_take (i := 8) (v := ?_) rfl (by kernel_rfl) (by kernel_rfl) (by kernel_rfl) (fun _ _ _ h => h) (Or.inl ⟨by rfl, ?_⟩) ?_
    rotate_left
    · intro y; go_simp; try (with_reducible rfl)
    rotate_left
    go_simp
    refine wpAny_take (i := 9) (v := ?_) rfl (by kernel_rfl) (by kernel_rfl) (by kernel_rfl) (fun _ _ _ h => h) (Or.inl ⟨by rfl, ?_⟩) ?_
    rotate_left
    · intro y; go_simp; try (with_reducible rfl)
    rotate_left
    go_simp
    refine wpAny_take (i := 11) (v := ?_) rfl (by kernel_rfl) (by kernel_rfl) (by kernel_rfl) (fun _ _ _ h => h) (Or.inl ⟨by rfl, ?_⟩) ?_
    rotate_left
    · intro y; go_simp; try (with_reducible rfl)
    rotate_left
    go_simp
    refine wpAny_take (i := 12) (v := ?_) rfl (by kernel_rfl) (by kernel_rfl) (by kernel_rfl) (fun _ _ _ h => h) (Or.inl ⟨by rfl, ?_⟩) ?_
    rotate_left
    · intro y; go_simp; try (with_reducible rfl)
    rotate_left
    go_simp
    refine wpAny_take (i := 13) (v := ?_) rfl (by kernel_rfl) (by kernel_rfl) (by kernel_rfl) (fun _ _ _ h => h) (Or.inl ⟨by rfl, ?_⟩) ?_
    rotate_left
    · intro y; go_simp; try (with_reducible rfl)
    rotate_left
    go_simp
    refine wpAny_ready (rs := [7, 10]) (by kernel_rfl) (by simp) ?_
    refine AllReady.cons rfl (fun K hK => ?_) ?_
    ·
      apply step_wp
      · rfl
      have q := LG _ hk0
      refine ow_load1 _ _ rfl _ rfl (.int .u8 (x : Int)) (by simp [go_sem, q]) ?_
      clear q
      apply hK
      clear hK K
      go_simp
      refine wpAny_ready (rs := [10]) (by kernel_rfl) (by simp) ?_
      refine AllReady.cons rfl (fun K hK => ?_) ?_
      ·
        apply step_wp
        · rfl
        have q := LP _ hk0
        refine ow_load1 _ _ rfl _ rfl (.int .u8 (y : Int)) (by simp [go_sem, q]) ?_
        clear q
        apply hK
        clear hK K
        go_simp
        refine wpAny_take (i := 14) (v := ?_) rfl (by kernel_rfl) (by kernel_rfl) (by kernel_rfl) (fun _ _ _ h => h) (Or.inl ⟨by rfl, ?_⟩) ?_
        rotate_left
        · intro y; go_simp; try (with_reducible rfl)
        rotate_left
        go_simp
        refine wpAny_take (i := 15) (v := ?_) rfl (by kernel_rfl) (by kernel_rfl) (by kernel_rfl) (fun _ _ _ h => h) (Or.inl ⟨by rfl, ?_⟩) ?_
        rotate_left
        · intro y; go_simp; try (with_reducible rfl)
        rotate_left
        go_simp
        refine wpAny_take (i := 16) (v := ?_) rfl (by kernel_rfl) (by kernel_rfl) (by kernel_rfl) (fun _ _ _ h => h) (Or.inl ⟨by rfl, ?_⟩) ?_
        rotate_left
        · intro y; go_simp; try (with_reducible rfl)
        rotate_left
        go_simp
        refine wpAny_ready (rs := [17]) (by kernel_rfl) (by simp) ?_
        refine AllReady.cons rfl (fun K hK => ?_) ?_
        ·
          apply step_wp
          · rfl
          refine ow_store1 _ _ _ rfl ⟨G, q, none⟩ (.int .u8 (z : Int)) rfl rfl (sto1 (LG _ hk0) (hfG.out _ hk0)) ?_
          apply hK
          clear hK K
          go_simp
          refine wpAny_done (by kernel_rfl) ?_ _
          exact hR.out _ _ ⟨rfl, rfl, by repeat (first | exact trivial | refine ⟨rfl, ?_⟩)⟩ hk0
        exact AllReady.nil
      exact AllReady.nil
    refine AllReady.cons rfl (fun K hK => ?_) ?_
    ·
      apply step_wp
      · rfl
      have q := LP _ hk0
      refine ow_load1 _ _ rfl _ rfl (.int .u8 (y : Int)) (by simp [go_sem, q]) ?_
      clear q
      apply hK
      clear hK K
      go_simp
      refine wpAny_take (i := 14) (v := ?_) rfl (by kernel_rfl) (by kernel_rfl) (by kernel_rfl) (fun _ _ _ h => h) (Or.inl ⟨by rfl, ?_⟩) ?_
      rotate_left
      · intro y; go_simp; try (with_reducible rfl)
      rotate_left
      go_simp
      refine wpAny_ready (rs := [7]) (by kernel_rfl) (by simp) ?_
      refine AllReady.cons rfl (fun K hK => ?_) ?_
      ·
        apply step_wp
        · rfl
        have q := LG _ hk0
        refine ow_load1 _ _ rfl _ rfl (.int .u8 (x : Int)) (by simp [go_sem, q]) ?_
        clear q
        apply hK
        clear hK K
        go_simp
        refine wpAny_take (i := 15) (v := ?_) rfl (by kernel_rfl) (by kernel_rfl) (by kernel_rfl) (fun _ _ _ h => h) (Or.inl ⟨by rfl, ?_⟩) ?_
        rotate_left
        · intro y; go_simp; try (with_reducible rfl)
        rotate_left
        go_simp
        refine wpAny_take (i := 16) (v := ?_) rfl (by kernel_rfl) (by kernel_rfl) (by kernel_rfl) (fun _ _ _ h => h) (Or.inl ⟨by rfl, ?_⟩) ?_
        rotate_left
        · intro y; go_simp; try (with_reducible rfl)
        rotate_left
        go_simp
        refine wpAny_ready (rs := [17]) (by kernel_rfl) (by simp) ?_
        refine AllReady.cons rfl (fun K hK => ?_) ?_
        ·
          apply step_wp
          · rfl
          refine ow_store1 _ _ _ rfl ⟨G, q, none⟩ (.int .u8 (z : Int)) rfl rfl (sto1 (LG _ hk0) (hfG.out _ hk0)) ?_
          apply hK
          clear hK K
          go_simp
          refine wpAny_done (by kernel_rfl) ?_ _
          exact hR.out _ _ ⟨rfl, rfl, by repeat (first | exact trivial | refine ⟨rfl, ?_⟩)⟩ hk0
        exact AllReady.nil
      exact AllReady.nil
    exact AllReady.nil
  ·
    have d2' : Int.tmod (i : Int) 8 = 4 := d2
    have k1 : IntKind.i64.wrap 4 = 4 := by decide
    have k3 : IntKind.i64.wrap 3 = 3 := by decide
    have k2 : IntKind.i64.wrap (7 - 4) = 3 := by decide
    have X : bits .or .u8 (x : Int) ((y : Int) * 8 % 256) = (z : Int) := by
      rw [HZ.out]
      have h := u8_or_nat x (y * 2 ^ (7 - 4) % 256) hx (Nat.mod_lt _ (by decide))
      rw [← h]
      congr 1 <;> omega
    have wy : IntKind.u8.wrap ((y : Int) * 8) = (y : Int) * 8 % 256 := by rw [IntKind.wrap_u8']
    clear d2
    go_simp
    refine wpAny_take (i := 0) (v := ?_) rfl (by kernel_rfl) (by kernel_rfl) (by kernel_rfl) (fun _ _ _ h => h) (Or.inl ⟨by rfl, ?_⟩) ?_
    rotate_left
    · intro y; go_simp; try (with_reducible rfl)
    rotate_left
    go_simp
    refine wpAny_take (i := 1) (v := ?_) rfl (by kernel_rfl) (by kernel_rfl) (by kernel_rfl) (fun _ _ _ h => h) (Or.inl ⟨by rfl, ?_⟩) ?_
    rotate_left
    · intro y; go_simp; try (with_reducible rfl)
    rotate_left
    go_simp
    refine wpAny_take (i := 2) (v := ?_) rfl (by kernel_rfl) (by kernel_rfl) (by kernel_rfl) (fun _ _ _ h => h) (Or.inl ⟨by rfl, ?_⟩) ?_
    rotate_left
    · intro y; go_simp; try (with_reducible rfl)
    rotate_left
    go_simp
    refine wpAny_take (i := 3) (v := ?_) rfl (by kernel_rfl) (by kernel_rfl) (by kernel_rfl) (fun _ _ _ h => h) (Or.inl ⟨by rfl, ?_⟩) ?_
    rotate_left
    · intro y; go_simp; try (with_reducible rfl)
    rotate_left
    go_simp
    refine wpAny_take (i := 4) (v := ?_) rfl (by kernel_rfl) (by kernel_rfl) (by kernel_rfl) (fun _ _ _ h => h) (Or.inl ⟨by rfl, ?_⟩) ?_
    rotate_left
    · intro y; go_simp; try (with_reducible rfl)
    rotate_left
    go_simp
    refine wpAny_take (i := 5) (v := ?_) rfl (by kernel_rfl) (by kernel_rfl) (by kernel_rfl) (fun _ _ _ h => h) (Or.inl ⟨by rfl, ?_⟩) ?_
    rotate_left
    · intro y; go_simp; try (with_reducible rfl)
    rotate_left
    go_simp
    refine wpAny_take (i := 6) (v := ?_) rfl (by kernel_rfl) (by kernel_rfl) (by kernel_rfl) (fun _ _ _ h => h) (Or.inl ⟨by rfl, ?_⟩) ?_
    rotate_left
    · intro y; go_simp; try (with_reducible rfl)
    rotate_left
    go_simp
    refine wpAny_take (i := 8) (v := ?_) rfl (by kernel_rfl) (by kernel_rfl) (by kernel_rfl) (fun _ _ _ h => h) (Or.inl ⟨by rfl, ?_⟩) ?_
    rotate_left
    · intro y; go_simp; try (with_reducible rfl)
    rotate_left
    go_simp
    refine wpAny_take (i := 9) (v := ?_) rfl (by kernel_rfl) (by kernel_rfl) (by kernel_rfl) (fun _ _ _ h => h) (Or.inl ⟨by rfl, ?_⟩) ?_
    rotate_left
    · intro y; go_simp; try (with_reducible rfl)
    rotate_left
    go_simp
    refine wpAny_take (i := 11) (v := ?_) rfl (by kernel_rfl) (by kernel_rfl) (by kernel_rfl) (fun _ _ _ h => h) (Or.inl ⟨by rfl, ?_⟩) ?_
    rotate_left
    · intro y; go_simp; try (with_reducible rfl)
    rotate_left
    go_simp
    refine wpAny_take (i := 12) (v := ?_) rfl (by kernel_rfl) (by kernel_rfl) (by kernel_rfl) (fun _ _ _ h => h) (Or.inl ⟨by rfl, ?_⟩) ?_
    rotate_left
    · intro y; go_simp; try (with_reducible rfl)
    rotate_left
    go_simp
    refine wpAny_take (i := 13) (v := ?_) rfl (by kernel_rfl) (by kernel_rfl) (by kernel_rfl) (fun _ _ _ h => h) (Or.inl ⟨by rfl, ?_⟩) ?_
    rotate_left
    · intro y; go_simp; try (with_reducible rfl)
    rotate_left
    go_simp
    refine wpAny_ready (rs := [7, 10]) (by kernel_rfl) (by simp) ?_
    refine AllReady.cons rfl (fun K hK => ?_) ?_
    ·
      apply step_wp
      · rfl
      have q := LG _ hk0
      refine ow_load1 _ _ rfl _ rfl (.int .u8 (x : Int)) (by simp [go_sem, q]) ?_
      clear q
      apply hK
      clear hK K
      go_simp
      refine wpAny_ready (rs := [10]) (by kernel_rfl) (by simp) ?_
      refine AllReady.cons rfl (fun K hK => ?_) ?_
      ·
        apply step_wp
        · rfl
        have q := LP _ hk0
        refine ow_load1 _ _ rfl _ rfl (.int .u8 (y : Int)) (by simp [go_sem, q]) ?_
        clear q
        apply hK
        clear hK K
        go_simp
        refine wpAny_take (i := 14) (v := ?_) rfl (by kernel_rfl) (by kernel_rfl) (by kernel_rfl) (fun _ _ _ h => h) (Or.inl ⟨by rfl, ?_⟩) ?_
        rotate_left
        · intro y; go_simp; try (with_reducible rfl)
        rotate_left
        go_simp
        refine wpAny_take (i := 15) (v := ?_) rfl (by kernel_rfl) (by kernel_rfl) (by kernel_rfl) (fun _ _ _ h => h) (Or.inl ⟨by rfl, ?_⟩) ?_
        rotate_left
        · intro y; go_simp; try (with_reducible rfl)
        rotate_left
        go_simp
        refine wpAny_take (i := 16) (v := ?_) rfl (by kernel_rfl) (by kernel_rfl) (by kernel_rfl) (fun _ _ _ h => h) (Or.inl ⟨by rfl, ?_⟩) ?_
        rotate_left
        · intro y; go_simp; try (with_reducible rfl)
        rotate_left
        go_simp
        refine wpAny_ready (rs := [17]) (by kernel_rfl) (by simp) ?_
        refine AllReady.cons rfl (fun K hK => ?_) ?_
        ·
          apply step_wp
          · rfl
          refine ow_store1 _ _ _ rfl ⟨G, q, none⟩ (.int .u8 (z : Int)) rfl rfl (sto1 (LG _ hk0) (hfG.out _ hk0)) ?_
          apply hK
          clear hK K
          go_simp
          refine wpAny_done (by kernel_rfl) ?_ _
          exact hR.out _ _ ⟨rfl, rfl, by repeat (first | exact trivial | refine ⟨rfl, ?_⟩)⟩ hk0
        exact AllReady.nil
      exact AllReady.nil
    refine AllReady.cons rfl (fun K hK => ?_) ?_
    ·
      apply step_wp
      · rfl
      have q := LP _ hk0
      refine ow_load1 _ _ rfl _ rfl (.int .u8 (y : Int)) (by simp [go_sem, q]) ?_
      clear q
      apply hK
      clear hK K
      go_simp
      refine wpAny_take (i := 14) (v := ?_) rfl (by kernel_rfl) (by kernel_rfl) (by kernel_rfl) (fun _ _ _ h => h) (Or.inl ⟨by rfl, ?_⟩) ?_
      rotate_left
      · intro y; go_simp; try (with_reducible rfl)
      rotate_left
      go_simp
      refine wpAny_ready (rs := [7]) (by kernel_rfl) (by simp) ?_
      refine AllReady.cons rfl (fun K hK => ?_) ?_
      ·
        apply step_wp
        · rfl
        have q := LG _ hk0
        refine ow_load1 _ _ rfl _ rfl (.int .u8 (x : Int)) (by simp [go_sem, q]) ?_
        clear q
        apply hK
        clear hK K
        go_simp
        refine wpAny_take (i := 15) (v := ?_) rfl (by kernel_rfl) (by kernel_rfl) (by kernel_rfl) (fun _ _ _ h => h) (Or.inl ⟨by rfl, ?_⟩) ?_
        rotate_left
        · intro y; go_simp; try (with_reducible rfl)
        rotate_left
        go_simp
        refine wpAny_take (i := 16) (v := ?_) rfl (by kernel_rfl) (by kernel_rfl) (by kernel_rfl) (fun _ _ _ h => h) (Or.inl ⟨by rfl, ?_⟩) ?_
        rotate_left
        · intro y; go_simp; try (with_reducible rfl)
        rotate_left
        go_simp
        refine wpAny_ready (rs := [17]) (by kernel_rfl) (by simp) ?_
        refine AllReady.cons rfl (fun K hK => ?_) ?_
        ·
          apply step_wp
          · rfl
          refine ow_store1 _ _ _ rfl ⟨G, q, none⟩ (.int .u8 (z : Int)) rfl rfl (sto1 (LG _ hk0) (hfG.out _ hk0)) ?_
          apply hK
          clear hK K
          go_simp
          refine wpAny_done (by kernel_rfl) ?_ _
          exact hR.out _ _ ⟨rfl, rfl, by repeat (first | exact trivial | refine ⟨rfl, ?_⟩)⟩ hk0
        exact AllReady.nil
      exact AllReady.nil
    exact AllReady.nil
  ·
    have d2' : Int.tmod (i : Int) 8 = 5 := d2
    have k1 : IntKind.i64.wrap 5 = 5 := by decide
    have k3 : IntKind.i64.wrap 2 = 2 := by decide
    have k2 : IntKind.i64.wrap (7 - 5) = 2 := by decide
    have X : bits .or .u8 (x : Int) ((y : Int) * 4 % 256) = (z : Int) := by
      rw [HZ.out]
      have h := u8_or_nat x (y * 2 ^ (7 - 5) % 256) hx (Nat.mod_lt _ (by decide))
      rw [← h]
      congr 1 <;> omega
    have wy : IntKind.u8.wrap ((y : Int) * 4) = (y : Int) * 4 % 256 := by rw [IntKind.wrap_u8']
    clear d2
    go_simp
    refine wpAny_take (i := 0) (v := ?_) rfl (by kernel_rfl) (by kernel_rfl) (by kernel_rfl) (fun _ _ _ h => h) (Or.inl ⟨by rfl, ?_⟩) ?_
    rotate_left
    · intro y; go_simp; try (with_reducible rfl)
    rotate_left
    go_simp
    refine wpAny_take (i := 1) (v := ?_) rfl (by kernel_rfl) (by kernel_rfl) (by kernel_rfl) (fun _ _ _ h => h) (Or.inl ⟨by rfl, ?_⟩) ?_
    rotate_left
    · intro y; go_simp; try (with_reducible rfl)
    rotate_left
    go_simp
    refine wpAny_take (i := 2) (v := ?_) rfl (by kernel_rfl) (by kernel_rfl) (by kernel_rfl) (fun _ _ _ h => h) (Or.inl ⟨by rfl, ?_⟩) ?_
    rotate_left
    · intro y; go_simp; try (with_reducible rfl)
    rotate_left
    go_simp
    refine wpAny_take (i := 3) (v := ?_) rfl (by kernel_rfl) (by kernel_rfl) (by kernel_rfl) (fun _ _ _ h => h) (Or.inl ⟨by rfl, ?_⟩) ?_
    rotate_left
    · intro y; go_simp; try (with_reducible rfl)
    rotate_left
    go_simp
    refine wpAny_take (i := 4) (v := ?_) rfl (by kernel_rfl) (by kernel_rfl) (by kernel_rfl) (fun _ _ _ h => h) (Or.inl ⟨by rfl, ?_⟩) ?_
    rotate_left
    · intro y; go_simp; try (with_reducible rfl)
    rotate_left
    go_simp
    refine wpAny_take (i := 5) (v := ?_) rfl (by kernel_rfl) (by kernel_rfl) (by kernel_rfl) (fun _ _ _ h => h) (Or.inl ⟨by rfl, ?_⟩) ?_
    rotate_left
    · intro y; go_simp; try (with_reducible rfl)
    rotate_left
    go_simp
    refine wpAny_take (i := 6) (v := ?_) rfl (by kernel_rfl) (by kernel_rfl) (by kernel_rfl) (fun _ _ _ h => h) (Or.inl ⟨by rfl, ?_⟩) ?_
    rotate_left
    · intro y; go_simp; try (with_reducible rfl)
    rotate_left
    go_simp
    refine wpAny_take (i := 8) (v := ?_) rfl (by kernel_rfl) (by kernel_rfl) (by kernel_rfl) (fun _ _ _ h => h) (Or.inl ⟨by rfl, ?_⟩) ?_
    rotate_left
    · intro y; go_simp; try (with_reducible rfl)
    rotate_left
    go_simp
    refine wpAny_take (i := 9) (v := ?_) rfl (by kernel_rfl) (by kernel_rfl) (by kernel_rfl) (fun _ _ _ h => h) (Or.inl ⟨by rfl, ?_⟩) ?_
    rotate_left
    · intro y; go_simp; try (with_reducible rfl)
    rotate_left
    go_simp
    refine wpAny_take (i := 11) (v := ?_) rfl (by kernel_rfl) (by kernel_rfl) (by kernel_rfl) (fun _ _ _ h => h) (Or.inl ⟨by rfl, ?_⟩) ?_
    rotate_left
    · intro y; go_simp; try (with_reducible rfl)
    rotate_left
    go_simp
    refine wpAny_take (i := 12) (v := ?_) rfl (by kernel_rfl) (by kernel_rfl) (by kernel_rfl) (fun _ _ _ h => h) (Or.inl ⟨by rfl, ?_⟩) ?_
    rotate_left
    · intro y; go_simp; try (with_reducible rfl)
    rotate_left
    go_simp
    refine wpAny_take (i := 13) (v := ?_) rfl (by kernel_rfl) (by kernel_rfl) (by kernel_rfl) (fun _ _ _ h => h) (Or.inl ⟨by rfl, ?_⟩) ?_
    rotate_left
    · intro y; go_simp; try (with_reducible rfl)
    rotate_left
    go_simp
    refine wpAny_ready (rs := [7, 10]) (by kernel_rfl) (by simp) ?_
    refine AllReady.cons rfl (fun K hK => ?_) ?_
    ·
      apply step_wp
      · rfl
      have q := LG _ hk0
      refine ow_load1 _ _ rfl _ rfl (.int .u8 (x : Int)) (by simp [go_sem, q]) ?_
      clear q
      apply hK
      clear hK K
      go_simp
      refine wpAny_ready (rs := [10]) (by kernel_rfl) (by simp) ?_
      refine AllReady.cons rfl (fun K hK => ?_) ?_
      ·
        apply step_wp
        · rfl
        have q := LP _ hk0
        refine ow_load1 _ _ rfl _ rfl (.int .u8 (y : Int)) (by simp [go_sem, q]) ?_
        clear q
        apply hK
        clear hK K
        go_simp
        refine wpAny_take (i := 14) (v := ?_) rfl (by kernel_rfl) (by kernel_rfl) (by kernel_rfl) (fun _ _ _ h => h) (Or.inl ⟨by rfl, ?_⟩) ?_
        rotate_left
        · intro y; go_simp; try (with_reducible rfl)
        rotate_left
        go_simp
        refine wpAny_take (i := 15) (v := ?_) rfl (by kernel_rfl) (by kernel_rfl) (by kernel_rfl) (fun _ _ _ h => h) (Or.inl ⟨by rfl, ?_⟩) ?_
        rotate_left
        · intro y; go_simp; try (with_reducible rfl)
        rotate_left
        go_simp
        refine wpAny_take (i := 16) (v := ?_) rfl (by kernel_rfl) (by kernel_rfl) (by kernel_rfl) (fun _ _ _ h => h) (Or.inl ⟨by rfl, ?_⟩) ?_
        rotate_left
        · intro y; go_simp; try (with_reducible rfl)
        rotate_left
        go_simp
        refine wpAny_ready (rs := [17]) (by kernel_rfl) (by simp) ?_
        refine AllReady.cons rfl (fun K hK => ?_) ?_
        ·
          apply step_wp
          · rfl
          refine ow_store1 _ _ _ rfl ⟨G, q, none⟩ (.int .u8 (z : Int)) rfl rfl (sto1 (LG _ hk0) (hfG.out _ hk0)) ?_
          apply hK
          clear hK K
          go_simp
          refine wpAny_done (by kernel_rfl) ?_ _
          exact hR.out _ _ ⟨rfl, rfl, by repeat (first | exact trivial | refine ⟨rfl, ?_⟩)⟩ hk0
        exact AllReady.nil
      exact AllReady.nil
    refine AllReady.cons rfl (fun K hK => ?_) ?_
    ·
      apply step_wp
      · rfl
      have q := LP _ hk0
      refine ow_load1 _ _ rfl _ rfl (.int .u8 (y : Int)) (by simp [go_sem, q]) ?_
      clear q
      apply hK
      clear hK K
      go_simp
      refine wpAny_take (i := 14) (v := ?_) rfl (by kernel_rfl) (by kernel_rfl) (by kernel_rfl) (fun _ _ _ h => h) (Or.inl ⟨by rfl, ?_⟩) ?_
      rotate_left
      · intro y; go_simp; try (with_reducible rfl)
      rotate_left
      go_simp
      refine wpAny_ready (rs := [7]) (by kernel_rfl) (by simp) ?_
      refine AllReady.cons rfl (fun K hK => ?_) ?_
      ·
        apply step_wp
        · rfl
        have q := LG _ hk0
        refine ow_load1 _ _ rfl _ rfl (.int .u8 (x : Int)) (by simp [go_sem, q]) ?_
        clear q
        apply hK
        clear hK K
        go_simp
        refine wpAny_take (i := 15) (v := ?_) rfl (by kernel_rfl) (by kernel_rfl) (by kernel_rfl) (fun _ _ _ h => h) (Or.inl ⟨by rfl, ?_⟩) ?_
        rotate_left
        · intro y; go_simp; try (with_reducible rfl)
        rotate_left
        go_simp
        refine wpAny_take (i := 16) (v := ?_) rfl (by kernel_rfl) (by kernel_rfl) (by kernel_rfl) (fun _ _ _ h => h) (Or.inl ⟨by rfl, ?_⟩) ?_
        rotate_left
        · intro y; go_simp; try (with_reducible rfl)
        rotate_left
        go_simp
        refine wpAny_ready (rs := [17]) (by kernel_rfl) (by simp) ?_
        refine AllReady.cons rfl (fun K hK => ?_) ?_
        ·
          apply step_wp
          · rfl
          refine ow_store1 _ _ _ rfl ⟨G, q, none⟩ (.int .u8 (z : Int)) rfl rfl (sto1 (LG _ hk0) (hfG.out _ hk0)) ?_
          apply hK
          clear hK K
          go_simp
          refine wpAny_done (by kernel_rfl) ?_ _
          exact hR.out _ _ ⟨rfl, rfl, by repeat (first | exact trivial | refine ⟨rfl, ?_⟩)⟩ hk0
        exact AllReady.nil
      exact AllReady.nil
    exact AllReady.nil
  ·
    have d2' : Int.tmod (i : Int) 8 = 6 := d2
    have k1 : IntKind.i64.wrap 6 = 6 := by decide
    have k3 : IntKind.i64.wrap 1 = 1 := by decide
    have k2 : IntKind.i64.wrap (7 - 6) = 1 := by decide
    have X : bits .or .u8 (x : Int) ((y : Int) * 2 % 256) = (z : Int) := by
      rw [HZ.out]
      have h := u8_or_nat x (y * 2 ^ (7 - 6) % 256) hx (Nat.mod_lt _ (by decide))
      rw [← h]
      congr 1 <;> omega
    have wy : IntKind.u8.wrap ((y : Int) * 2) = (y : Int) * 2 % 256 := by rw [IntKind.wrap_u8']
    clear d2
    go_simp
    refine wpAny_take (i := 0) (v := ?_) rfl (by kernel_rfl) (by kernel_rfl) (by kernel_rfl) (fun _ _ _ h => h) (Or.inl ⟨by rfl, ?_⟩) ?_
    rotate_left
    · intro y; go_simp; try (with_reducible rfl)
    rotate_left
    go_simp
    refine wpAny_take (i := 1) (v := ?_) rfl (by kernel_rfl) (by kernel_rfl) (by kernel_rfl) (fun _ _ _ h => h) (Or.inl ⟨by rfl, ?_⟩) ?_
    rotate_left
    · intro y; go_simp; try (with_reducible rfl)
    rotate_left
    go_simp
    refine wpAny_take (i := 2) (v := ?_) rfl (by kernel_rfl) (by kernel_rfl) (by kernel_rfl) (fun _ _ _ h => h) (Or.inl ⟨by rfl, ?_⟩) ?_
    rotate_left
    · intro y; go_simp; try (with_reducible rfl)
    rotate_left
    go_simp
    refine wpAny_take (i := 3) (v := ?_) rfl (by kernel_rfl) (by kernel_rfl) (by kernel_rfl) (fun _ _ _ h => h) (Or.inl ⟨by rfl, ?_⟩) ?_
    rotate_left
    · intro y; go_simp; try (with_reducible rfl)
    rotate_left
    go_simp
    refine wpAny_take (i := 4) (v := ?_) rfl (by kernel_rfl) (by kernel_rfl) (by kernel_rfl) (fun _ _ _ h => h) (Or.inl ⟨by rfl, ?_⟩) ?_
    rotate_left
    · intro y; go_simp; try (with_reducible rfl)
    rotate_left
    go_simp
    refine wpAny_take (i := 5) (v := ?_) rfl (by kernel_rfl) (by kernel_rfl) (by kernel_rfl) (fun _ _ _ h => h) (Or.inl ⟨by rfl, ?_⟩) ?_
    rotate_left
    · intro y; go_simp; try (with_reducible rfl)
    rotate_left
    go_simp
    refine wpAny_take (i := 6) (v := ?_) rfl (by kernel_rfl) (by kernel_rfl) (by kernel_rfl) (fun _ _ _ h => h) (Or.inl ⟨by rfl, ?_⟩) ?_
    rotate_left
    · intro y; go_simp; try (with_reducible rfl)
    rotate_left
    go_simp
    refine wpAny_take (i := 8) (v := ?_) rfl (by kernel_rfl) (by kernel_rfl) (by kernel_rfl) (fun _ _ _ h => h) (Or.inl ⟨by rfl, ?_⟩) ?_
    rotate_left
    · intro y; go_simp; try (with_reducible rfl)
    rotate_left
    go_simp
    refine wpAny_take (i := 9) (v := ?_) rfl (by kernel_rfl) (by kernel_rfl) (by kernel_rfl) (fun _ _ _ h => h) (Or.inl ⟨by rfl, ?_⟩) ?_
    rotate_left
    · intro y; go_simp; try (with_reducible rfl)
    rotate_left
    go_simp
    refine wpAny_take (i := 11) (v := ?_) rfl (by kernel_rfl) (by kernel_rfl) (by kernel_rfl) (fun _ _ _ h => h) (Or.inl ⟨by rfl, ?_⟩) ?_
    rotate_left
    · intro y; go_simp; try (with_reducible rfl)
    rotate_left
    go_simp
    refine wpAny_take (i := 12) (v := ?_) rfl (by kernel_rfl) (by kernel_rfl) (by kernel_rfl) (fun _ _ _ h => h) (Or.inl ⟨by rfl, ?_⟩) ?_
    rotate_left
    · intro y; go_simp; try (with_reducible rfl)
    rotate_left
    go_simp
    refine wpAny_take (i := 13) (v := ?_) rfl (by kernel_rfl) (by kernel_rfl) (by kernel_rfl) (fun _ _ _ h => h) (Or.inl ⟨by rfl, ?_⟩) ?_
    rotate_left
    · intro y; go_simp; try (with_reducible rfl)
    rotate_left
    go_simp
    refine wpAny_ready (rs := [7, 10]) (by kernel_rfl) (by simp) ?_
    refine AllReady.cons rfl (fun K hK => ?_) ?_
    ·
      apply step_wp
      · rfl
      have q := LG _ hk0
      refine ow_load1 _ _ rfl _ rfl (.int .u8 (x : Int)) (by simp [go_sem, q]) ?_
      clear q
      apply hK
      clear hK K
      go_simp
      refine wpAny_ready (rs := [10]) (by kernel_rfl) (by simp) ?_
      refine AllReady.cons rfl (fun K hK => ?_) ?_
      ·
        apply step_wp
        · rfl
        have q := LP _ hk0
        refine ow_load1 _ _ rfl _ rfl (.int .u8 (y : Int)) (by simp [go_sem, q]) ?_
        clear q
        apply hK
        clear hK K
        go_simp
        refine wpAny_take (i := 14) (v := ?_) rfl (by kernel_rfl) (by kernel_rfl) (by kernel_rfl) (fun _ _ _ h => h) (Or.inl ⟨by rfl, ?_⟩) ?_
        rotate_left
        · intro y; go_simp; try (with_reducible rfl)
        rotate_left
        go_simp
        refine wpAny_take (i := 15) (v := ?_) rfl (by kernel_rfl) (by kernel_rfl) (by kernel_rfl) (fun _ _ _ h => h) (Or.inl ⟨by rfl, ?_⟩) ?_
        rotate_left
        · intro y; go_simp; try (with_reducible rfl)
        rotate_left
        go_simp
        refine wpAny_take (i := 16) (v := ?_) rfl (by kernel_rfl) (by kernel_rfl) (by kernel_rfl) (fun _ _ _ h => h) (Or.inl ⟨by rfl, ?_⟩) ?_
        rotate_left
        · intro y; go_simp; try (with_reducible rfl)
        rotate_left
        go_simp
        refine wpAny_ready (rs := [17]) (by kernel_rfl) (by simp) ?_
        refine AllReady.cons rfl (fun K hK => ?_) ?_
        ·
          apply step_wp
          · rfl
          refine ow_store1 _ _ _ rfl ⟨G, q, none⟩ (.int .u8 (z : Int)) rfl rfl (sto1 (LG _ hk0) (hfG.out _ hk0)) ?_
          apply hK
          clear hK K
          go_simp
          refine wpAny_done (by kernel_rfl) ?_ _
          exact hR.out _ _ ⟨rfl, rfl, by repeat (first | exact trivial | refine ⟨rfl, ?_⟩)⟩ hk0
        exact AllReady.nil
      exact AllReady.nil
    refine AllReady.cons rfl (fun K hK => ?_) ?_
    ·
      apply step_wp
      · rfl
      have q := LP _ hk0
      refine ow_load1 _ _ rfl _ rfl (.int .u8 (y : Int)) (by simp [go_sem, q]) ?_
      clear q
      apply hK
      clear hK K
      go_simp
      refine wpAny_take (i := 14) (v := ?_) rfl (by kernel_rfl) (by kernel_rfl) (by kernel_rfl) (fun _ _ _ h => h) (Or.inl ⟨by rfl, ?_⟩) ?_
      rotate_left
      · intro y; go_simp; try (with_reducible rfl)
      rotate_left
      go_simp
      refine wpAny_ready (rs := [7]) (by kernel_rfl) (by simp) ?_
      refine AllReady.cons rfl (fun K hK => ?_) ?_
      ·
        apply step_wp
        · rfl
        have q := LG _ hk0
        refine ow_load1 _ _ rfl _ rfl (.int .u8 (x : Int)) (by simp [go_sem, q]) ?_
        clear q
        apply hK
        clear hK K
        go_simp
        refine wpAny_take (i := 15) (v := ?_) rfl (by kernel_rfl) (by kernel_rfl) (by kernel_rfl) (fun _ _ _ h => h) (Or.inl ⟨by rfl, ?_⟩) ?_
        rotate_left
        · intro y; go_simp; try (with_reducible rfl)
        rotate_left
        go_simp
        refine wpAny_take (i := 16) (v := ?_) rfl (by kernel_rfl) (by kernel_rfl) (by kernel_rfl) (fun _ _ _ h => h) (Or.inl ⟨by rfl, ?_⟩) ?_
        rotate_left
        · intro y; go_simp; try (with_reducible rfl)
        rotate_left
        go_simp
        refine wpAny_ready (rs := [17]) (by kernel_rfl) (by simp) ?_
        refine AllReady.cons rfl (fun K hK => ?_) ?_
        ·
          apply step_wp
          · rfl
          refine ow_store1 _ _ _ rfl ⟨G, q, none⟩ (.int .u8 (z : Int)) rfl rfl (sto1 (LG _ hk0) (hfG.out _ hk0)) ?_
          apply hK
          clear hK K
          go_simp
          refine wpAny_done (by kernel_rfl) ?_ _
          exact hR.out _ _ ⟨rfl, rfl, by repeat (first | exact trivial | refine ⟨rfl, ?_⟩)⟩ hk0
        exact AllReady.nil
      exact AllReady.nil
    exact AllReady.nil
  ·
    have d2' : Int.tmod (i : Int) 8 = 7 := d2
    have k1 : IntKind.i64.wrap 7 = 7 := by decide
    have k3 : IntKind.i64.wrap 0 = 0 := by decide
    have k2 : IntKind.i64.wrap (7 - 7) = 0 := by decide
    have X : bits .or .u8 (x : Int) ((y : Int)) = (z : Int) := by
      rw [HZ.out]
      have h := u8_or_nat x (y * 2 ^ (7 - 7) % 256) hx (Nat.mod_lt _ (by decide))
      rw [← h]
      congr 1 <;> omega
    have wy : IntKind.u8.wrap ((y : Int)) = (y : Int) := by rw [IntKind.wrap_u8']; omega
    clear d2
    go_simp
    refine wpAny_take (i := 0) (v := ?_) rfl (by kernel_rfl) (by kernel_rfl) (by kernel_rfl) (fun _ _ _ h => h) (Or.inl ⟨by rfl, ?_⟩) ?_
    rotate_left
    · intro y; go_simp; try (with_reducible rfl)
    rotate_left
    go_simp
    refine wpAny_take (i := 1) (v := ?_) rfl (by kernel_rfl) (by kernel_rfl) (by kernel_rfl) (fun _ _ _ h => h) (Or.inl ⟨by rfl, ?_⟩) ?_
    rotate_left
    · intro y; go_simp; try (with_reducible rfl)
    rotate_left
    go_simp
    refine wpAny_take (i := 2) (v := ?_) rfl (by kernel_rfl) (by kernel_rfl) (by kernel_rfl) (fun _ _ _ h => h) (Or.inl ⟨by rfl, ?_⟩) ?_
    rotate_left
    · intro y; go_simp; try (with_reducible rfl)
    rotate_left
    go_simp
    refine wpAny_take (i := 3) (v := ?_) rfl (by kernel_rfl) (by kernel_rfl) (by kernel_rfl) (fun _ _ _ h => h) (Or.inl ⟨by rfl, ?_⟩) ?_
    rotate_left
    · intro y; go_simp; try (with_reducible rfl)
    rotate_left
    go_simp
    refine wpAny_take (i := 4) (v := ?_) rfl (by kernel_rfl) (by kernel_rfl) (by kernel_rfl) (fun _ _ _ h => h) (Or.inl ⟨by rfl, ?_⟩) ?_
    rotate_left
    · intro y; go_simp; try (with_reducible rfl)
    rotate_left
    go_simp
    refine wpAny_take (i := 5) (v := ?_) rfl (by kernel_rfl) (by kernel_rfl) (by kernel_rfl) (fun _ _ _ h => h) (Or.inl ⟨by rfl, ?_⟩) ?_
    rotate_left
    · intro y; go_simp; try (with_reducible rfl)
    rotate_left
    go_simp
    refine wpAny_take (i := 6) (v := ?_) rfl (by kernel_rfl) (by kernel_rfl) (by kernel_rfl) (fun _ _ _ h => h) (Or.inl ⟨by rfl, ?_⟩) ?_
    rotate_left
    · intro y; go_simp; try (with_reducible rfl)
    rotate_left
    go_simp
    refine wpAny_take (i := 8) (v := ?_) rfl (by kernel_rfl) (by kernel_rfl) (by kernel_rfl) (fun _ _ _ h => h) (Or.inl ⟨by rfl, ?_⟩) ?_
    rotate_left
    · intro y; go_simp; try (with_reducible rfl)
    rotate_left
    go_simp
    refine wpAny_take (i := 9) (v := ?_) rfl (by kernel_rfl) (by kernel_rfl) (by kernel_rfl) (fun _ _ _ h => h) (Or.inl ⟨by rfl, ?_⟩) ?_
    rotate_left
    · intro y; go_simp; try (with_reducible rfl)
    rotate_left
    go_simp
    refine wpAny_take (i := 11) (v := ?_) rfl (by kernel_rfl) (by kernel_rfl) (by kernel_rfl) (fun _ _ _ h => h) (Or.inl ⟨by rfl, ?_⟩) ?_
    rotate_left
    · intro y; go_simp; try (with_reducible rfl)
    rotate_left
    go_simp
    refine wpAny_take (i := 12) (v := ?_) rfl (by kernel_rfl) (by kernel_rfl) (by kernel_rfl) (fun _ _ _ h => h) (Or.inl ⟨by rfl, ?_⟩) ?_
    rotate_left
    · intro y; go_simp; try (with_reducible rfl)
    rotate_left
    go_simp
    refine wpAny_take (i := 13) (v := ?_) rfl (by kernel_rfl) (by kernel_rfl) (by kernel_rfl) (fun _ _ _ h => h) (Or.inl ⟨by rfl, ?_⟩) ?_
    rotate_left
    · intro y; go_simp; try (with_reducible rfl)
    rotate_left
    go_simp
    refine wpAny_ready (rs := [7, 10]) (by kernel_rfl) (by simp) ?_
    refine AllReady.cons rfl (fun K hK => ?_) ?_
    ·
      apply step_wp
      · rfl
      have q := LG _ hk0
      refine ow_load1 _ _ rfl _ rfl (.int .u8 (x : Int)) (by simp [go_sem, q]) ?_
      clear q
      apply hK
      clear hK K
      go_simp
      refine wpAny_ready (rs := [10]) (by kernel_rfl) (by simp) ?_
      refine AllReady.cons rfl (fun K hK => ?_) ?_
      ·
        apply step_wp
        · rfl
        have q := LP _ hk0
        refine ow_load1 _ _ rfl _ rfl (.int .u8 (y : Int)) (by simp [go_sem, q]) ?_
        clear q
        apply hK
        clear hK K
        go_simp
        refine wpAny_take (i := 14) (v := ?_) rfl (by kernel_rfl) (by kernel_rfl) (by kernel_rfl) (fun _ _ _ h => h) (Or.inl ⟨by rfl, ?_⟩) ?_
        rotate_left
        · intro y; go_simp; try (with_reducible rfl)
        rotate_left
        go_simp
        refine wpAny_take (i := 15) (v := ?_) rfl (by kernel_rfl) (by kernel_rfl) (by kernel_rfl) (fun _ _ _ h => h) (Or.inl ⟨by rfl, ?_⟩) ?_
        rotate_left
        · intro y; go_simp; try (with_reducible rfl)
        rotate_left
        go_simp
        refine wpAny_take (i := 16) (v := ?_) rfl (by kernel_rfl) (by kernel_rfl) (by kernel_rfl) (fun _ _ _ h => h) (Or.inl ⟨by rfl, ?_⟩) ?_
        rotate_left
        · intro y; go_simp; try (with_reducible rfl)
        rotate_left
        go_simp
        refine wpAny_ready (rs := [17]) (by kernel_rfl) (by simp) ?_
        refine AllReady.cons rfl (fun K hK => ?_) ?_
        ·
          apply step_wp
          · rfl
          refine ow_store1 _ _ _ rfl ⟨G, q, none⟩ (.int .u8 (z : Int)) rfl rfl (sto1 (LG _ hk0) (hfG.out _ hk0)) ?_
          apply hK
          clear hK K
          go_simp
          refine wpAny_done (by kernel_rfl) ?_ _
          exact hR.out _ _ ⟨rfl, rfl, by repeat (first | exact trivial | refine ⟨rfl, ?_⟩)⟩ hk0
        exact AllReady.nil
      exact AllReady.nil
    refine AllReady.cons rfl (fun K hK => ?_) ?_
    ·
      apply step_wp
      · rfl
      have q := LP _ hk0
      refine ow_load1 _ _ rfl _ rfl (.int .u8 (y : Int)) (by simp [go_sem, q]) ?_
      clear q
      apply hK
      clear hK K
      go_simp
      refine wpAny_take (i := 14) (v := ?_) rfl (by kernel_rfl) (by kernel_rfl) (by kernel_rfl) (fun _ _ _ h => h) (Or.inl ⟨by rfl, ?_⟩) ?_
      rotate_left
      · intro y; go_simp; try (with_reducible rfl)
      rotate_left
      go_simp
      refine wpAny_ready (rs := [7]) (by kernel_rfl) (by simp) ?_
      refine AllReady.cons rfl (fun K hK => ?_) ?_
      ·
        apply step_wp
        · rfl
        have q := LG _ hk0
        refine ow_load1 _ _ rfl _ rfl (.int .u8 (x : Int)) (by simp [go_sem, q]) ?_
        clear q
        apply hK
        clear hK K
        go_simp
        refine wpAny_take (i := 15) (v := ?_) rfl (by kernel_rfl) (by kernel_rfl) (by kernel_rfl) (fun _ _ _ h => h) (Or.inl ⟨by rfl, ?_⟩) ?_
        rotate_left
        · intro y; go_simp; try (with_reducible rfl)
        rotate_left
        go_simp
        refine wpAny_take (i := 16) (v := ?_) rfl (by kernel_rfl) (by kernel_rfl) (by kernel_rfl) (fun _ _ _ h => h) (Or.inl ⟨by rfl, ?_⟩) ?_
        rotate_left
        · intro y; go_simp; try (with_reducible rfl)
        rotate_left
        go_simp
        refine wpAny_ready (rs := [17]) (by kernel_rfl) (by simp) ?_
        refine AllReady.cons rfl (fun K hK => ?_) ?_
        ·
          apply step_wp
          · rfl
          refine ow_store1 _ _ _ rfl ⟨G, q, none⟩ (.int .u8 (z : Int)) rfl rfl (sto1 (LG _ hk0) (hfG.out _ hk0)) ?_
          apply hK
          clear hK K
          go_simp
          refine wpAny_done (by kernel_rfl) ?_ _
          exact hR.out _ _ ⟨rfl, rfl, by repeat (first | exact trivial | refine ⟨rfl, ?_⟩)⟩ hk0
        exact AllReady.nil
      exact AllReady.nil
    exact AllReady.nil

theorem cells_blk {w : World} {P ty : Nat} {p : List Nat} (h : Blk w P ty (cells8 p)) (j : Nat) (hj : j < p.length) : w.cell? ⟨P, j, none⟩ = some (.int .u8 ((p.getD j 0 : Nat) : Int)) := by
  rw [h.cell]; exact cells8_get p j hj
theorem cells_set {w : World} {P ty : Nat} {p : List Nat} (h : Blk w P ty (cells8 p)) (j n : Nat) : Blk (w.setCell ⟨P, j, none⟩ (.int .u8 (n : Int))) P ty (cells8 (p.set j n)) := by
  have := h.set_ j (.int .u8 (n : Int))
  rwa [cells8_set] at this

noncomputable def hgmI : Code := loopOf Try.f36 1
set_option maxRecDepth 100000 in
set_option maxHeartbeats 4000000 in
theorem gm_inner (R : Act → World → Prop) (a : Act) (w : World) (ga oa ca gb ob cb P i : Nat) (al bl : List Int) (p : List Nat) (hal : al.length = 16) (hbl : bl.length = 16) (hi : i < 128) (hp : Hid (Gcm.Bits p))
    (hA : Hid (∀ W, Keep [P] w W → Sl .u8 W (.slice (some ⟨ga, oa, none⟩) 16 ca) al)) (hB : Hid (∀ W, Keep [P] w W → Sl .u8 W (.slice (some ⟨gb, ob, none⟩) 16 cb) bl)) (hP : Hid (Blk w P 60 (cells8 p)))
    (hF : Fr 99 [(0, .slice (some ⟨ga, oa, none⟩) 16 ca), (1, .slice (some ⟨gb, ob, none⟩) 16 cb), (5, .pointer (some ⟨P, 0, none⟩)), (6, .int .i64 i), (7, .int .i64 0)] a)
    (hQ : ∀ a' w', Fr 99 [(0, .slice (some ⟨ga, oa, none⟩) 16 ca), (1, .slice (some ⟨gb, ob, none⟩) 16 cb), (5, .pointer (some ⟨P, 0, none⟩)), (6, .int .i64 i)] a' → Blk w' P 60 (cells8 (Gcm.row al bl i p 128)) → Keep [P] w w' → R a' w') :
    Code.wp Try.prog (.loop hgmI) (OutX 2 R) a w := by
  refine wp_loop_ghost_k (fun m a wr => ∃ k : Nat, m + k = 128 ∧ Fr 99 [(0, .slice (some ⟨ga, oa, none⟩) 16 ca), (1, .slice (some ⟨gb, ob, none⟩) 16 cb), (5, .pointer (some ⟨P, 0, none⟩)), (6, .int .i64 i), (7, .int .i64 k)] a ∧ Blk wr P 60 (cells8 (Gcm.row al bl i p k)) ∧ Keep [P] w wr)
    128 ⟨0, rfl, hF, hP.out, Keep.refl _ _⟩ ?_
  clear hF
  rintro m a wr ⟨k, hmk, hFr, hb, hk⟩ J K hJ hK1
  have HJ := Lib.hid hJ
  have HMK := Lib.hid hmk
  have HB := Lib.hid hb
  have HK := Lib.hid hk
  have HQ := Lib.hid hQ
  obtain ⟨f, ⟨f0, f1, f5, f6, f7, -⟩, rfl⟩ := hFr.open99
  by_cases hlt : k < 128
  · obtain ⟨q, hq⟩ : ∃ q, q = Gcm.row al bl i p k := ⟨_, rfl⟩
    have hqb : Gcm.Bits q := by rw [hq]; exact Gcm.bits_row hp.out al bl i k
    have HNX := Lib.hid (show Gcm.row al bl i p (k + 1) = q.set (i + k) (q.getD (i + k) 0 ^^^ (Gcm.bitN al i &&& Gcm.bitN bl k)) by rw [hq]; rfl)
    rw [← hq] at HB
    have HCP := Lib.hid (cells_blk HB.out (i + k) (by rw [hqb.1]; omega))
    have hx : q.getD (i + k) 0 < 256 := by have := hqb.2 (i + k); omega
    have HFZ := Lib.hid (show ∀ W : World, Keep [] wr W → W.frozen? ⟨P, i + k, none⟩ = false from fun W h => (HB.out.keep h (by simp)).frozen _)
    have HA := Lib.hid (hA.out wr hk)
    have HBB := Lib.hid (hB.out wr hk)
    simp only [f0, f1, f5, f6, f7]
    clear f0 f1 f5 f6 f7 hFr hJ hb hk hQ hmk hq hqb
    conv => arg 2; whnf
    go_upto_region 8 with fail
    refine OutN.use (gm_reg8 (fun a' w' => ∃ W, w' = W.setCell ⟨P, i + k, none⟩ (.int .u8 ((q.getD (i + k) 0 ^^^ (Gcm.bitN al i &&& Gcm.bitN bl k) : Nat) : Int)) ∧ Fr 99 [(0, .slice (some ⟨ga, oa, none⟩) 16 ca), (1, .slice (some ⟨gb, ob, none⟩) 16 cb), (5, .pointer (some ⟨P, 0, none⟩)), (6, .int .i64 i), (7, .int .i64 k)] a' ∧ Keep [] wr W) _ wr ga oa ca gb ob cb P i k _ al bl hal hbl HA HBB hi hlt hx HCP HFZ
      ⟨rfl, rfl, by repeat (first | exact trivial | refine ⟨rfl, ?_⟩)⟩ (Lib.hid fun a' W h1 h2 => ⟨W, rfl, h1, h2⟩)) ?_
    rintro a' w3 ⟨W, rfl, hF3, hkW⟩
    have HB3 := Lib.hid (cells_set (HB.out.keep hkW (by simp)) (i + k) (q.getD (i + k) 0 ^^^ (Gcm.bitN al i &&& Gcm.bitN bl k)))
    have HK3 := Lib.hid ((HK.out.trans0 hkW).cellset (List.mem_singleton.2 rfl) (G := P) (j := i + k) (.int .u8 ((q.getD (i + k) 0 ^^^ (Gcm.bitN al i &&& Gcm.bitN bl k) : Nat) : Int)))
    obtain ⟨f, ⟨f0, f1, f5, f6, f7, -⟩, rfl⟩ := hF3.open99
    obtain ⟨W', hW'⟩ : ∃ W', W' = W.setCell ⟨P, i + k, none⟩ (.int .u8 ((q.getD (i + k) 0 ^^^ (Gcm.bitN al i &&& Gcm.bitN bl k) : Nat) : Int)) := ⟨_, rfl⟩
    rw [← hW'] at HB3 HK3 ⊢
    simp only [f0, f1, f5, f6, f7]
    clear f0 f1 f5 f6 f7 hF3 hkW hW'
    go_wp2_with fail
    exact Handed.intro (m - 1) (by have := HMK.out; omega) (HJ.out _ _ _ ⟨k + 1, by have := HMK.out; omega, ⟨rfl, rfl, by repeat (first | exact trivial | refine ⟨rfl, ?_⟩)⟩, by rw [HNX.out]; exact HB3.out, HK3.out⟩)
  · obtain rfl : k = 128 := by omega
    simp only [f0, f1, f5, f6, f7]
    clear f0 f1 f5 f6 f7 hFr hJ hb hk hQ hmk
    conv => arg 2; whnf
    go_wp2_with fail
    exact ⟨rfl, HQ.out _ _ ⟨rfl, rfl, by repeat (first | exact trivial | refine ⟨rfl, ?_⟩)⟩ HB.out HK.out⟩

noncomputable def hgmO : Code := loopOf Try.f36 0
set_option maxRecDepth 100000 in
set_option maxHeartbeats 4000000 in
theorem gm_outer (R : Act → World → Prop) (a : Act) (w : World) (ga oa ca gb ob cb P : Nat) (al bl : List Int) (hal : al.length = 16) (hbl : bl.length = 16)
    (hA : Hid (∀ W, Keep [P] w W → Sl .u8 W (.slice (some ⟨ga, oa, none⟩) 16 ca) al)) (hB : Hid (∀ W, Keep [P] w W → Sl .u8 W (.slice (some ⟨gb, ob, none⟩) 16 cb) bl)) (hP : Hid (Blk w P 60 (cells8 (List.replicate 256 0))))
    (hF : Fr 99 [(0, .slice (some ⟨ga, oa, none⟩) 16 ca), (1, .slice (some ⟨gb, ob, none⟩) 16 cb), (5, .pointer (some ⟨P, 0, none⟩)), (6, .int .i64 0)] a)
    (hQ : ∀ a' w', Fr 99 [(5, .pointer (some ⟨P, 0, none⟩))] a' → Blk w' P 60 (cells8 (Gcm.rows al bl 128)) → Keep [P] w w' → R a' w') :
    Code.wp Try.prog (.loop hgmO) (OutX 0 R) a w := by
  refine wp_loop_ghost_k (fun m a wr => ∃ k : Nat, m + k = 128 ∧ Fr 99 [(0, .slice (some ⟨ga, oa, none⟩) 16 ca), (1, .slice (some ⟨gb, ob, none⟩) 16 cb), (5, .pointer (some ⟨P, 0, none⟩)), (6, .int .i64 k)] a ∧ Blk wr P 60 (cells8 (Gcm.rows al bl k)) ∧ Keep [P] w wr)
    128 ⟨0, rfl, hF, hP.out, Keep.refl _ _⟩ ?_
  clear hF
  rintro m a wr ⟨k, hmk, hFr, hb, hk⟩ J K hJ hK1
  have HJ := Lib.hid hJ
  have HMK := Lib.hid hmk
  have HB := Lib.hid hb
  have HK := Lib.hid hk
  have HQ := Lib.hid hQ
  obtain ⟨f, ⟨f0, f1, f5, f6, -⟩, rfl⟩ := hFr.open99
  by_cases hlt : k < 128
  · have HA := Lib.hid (show ∀ W, Keep [P] wr W → Sl .u8 W (.slice (some ⟨ga, oa, none⟩) 16 ca) al from fun W h => hA.out W (HK.out.trans h))
    have HBB := Lib.hid (show ∀ W, Keep [P] wr W → Sl .u8 W (.slice (some ⟨gb, ob, none⟩) 16 cb) bl from fun W h => hB.out W (HK.out.trans h))
    simp only [f0, f1, f5, f6]
    clear f0 f1 f5 f6 hFr hJ hb hk hQ hmk
    conv => arg 2; whnf
    go_upto_block 2 with fail
    go_wp2_with fail
    refine OutX.use (gm_inner (fun a' w' => Fr 99 [(0, .slice (some ⟨ga, oa, none⟩) 16 ca), (1, .slice (some ⟨gb, ob, none⟩) 16 cb), (5, .pointer (some ⟨P, 0, none⟩)), (6, .int .i64 k)] a' ∧ Blk w' P 60 (cells8 (Gcm.rows al bl (k + 1))) ∧ Keep [P] wr w') _ wr ga oa ca gb ob cb P k al bl (Gcm.rows al bl k) hal hbl hlt (Lib.hid (Gcm.bits_rows al bl k)) HA HBB HB
      ⟨rfl, rfl, by repeat (first | exact trivial | refine ⟨rfl, ?_⟩)⟩ (fun a' w' h1 h2 h3 => ⟨h1, h2, h3⟩)) ?_
    rintro a' w3 ⟨hF3, hb3, hk3⟩
    have HB3 := Lib.hid hb3
    have HK3 := Lib.hid (HK.out.trans hk3)
    obtain ⟨f, ⟨f0, f1, f5, f6, -⟩, rfl⟩ := hF3.open99
    simp only [f0, f1, f5, f6]
    clear f0 f1 f5 f6 hF3 hb3 hk3
    go_wp2_with fail
    exact Handed.intro (m - 1) (by have := HMK.out; omega) (HJ.out _ _ _ ⟨k + 1, by have := HMK.out; omega, ⟨rfl, rfl, by repeat (first | exact trivial | refine ⟨rfl, ?_⟩)⟩, HB3.out, HK3.out⟩)
  · obtain rfl : k = 128 := by omega
    simp only [f0, f1, f5, f6]
    clear f0 f1 f5 f6 hFr hJ hb hk hQ hmk
    conv => arg 2; whnf
    go_wp2_with fail
    exact ⟨rfl, HQ.out _ _ ⟨rfl, rfl, by repeat (first | exact trivial | refine ⟨rfl, ?_⟩)⟩ HB.out HK.out⟩

theorem bit_flip (x : Nat) (hx : x < 2) : bits .xor .u8 (x : Int) 1 = ((x ^^^ 1 : Nat) : Int) := u8_xor_nat x 1 (by omega) (by decide)

noncomputable def hgmR : Code := loopOf Try.f36 2
set_option maxRecDepth 100000 in
set_option maxHeartbeats 8000000 in
theorem gm_red (R : Act → World → Prop) (a : Act) (w : World) (P : Nat) (p : List Nat) (hp : Hid (Gcm.Bits p)) (hP : Hid (Blk w P 60 (cells8 p)))
    (hF : Fr 99 [(5, .pointer (some ⟨P, 0, none⟩)), (8, .int .i64 254)] a)
    (hQ : ∀ a' w', Fr 99 [(5, .pointer (some ⟨P, 0, none⟩))] a' → Blk w' P 60 (cells8 (Gcm.reds p 127)) → Keep [P] w w' → R a' w') :
    Code.wp Try.prog (.loop hgmR) (OutX 4 R) a w := by
  refine wp_loop_ghost_k (fun m a wr => ∃ j : Nat, m + j = 127 ∧ Fr 99 [(5, .pointer (some ⟨P, 0, none⟩)), (8, .int .i64 (254 - (j : Int)))] a ∧ Blk wr P 60 (cells8 (Gcm.reds p j)) ∧ Keep [P] w wr)
    127 ⟨0, rfl, by simpa using hF, hP.out, Keep.refl _ _⟩ ?_
  clear hF
  rintro m a wr ⟨j, hmj, hFr, hb, hk⟩ J K hJ hK1
  have HJ := Lib.hid hJ
  have HMJ := Lib.hid hmj
  have HB := Lib.hid hb
  have HK := Lib.hid hk
  have HQ := Lib.hid hQ
  obtain ⟨f, ⟨f5, f8, -⟩, rfl⟩ := hFr.open99
  by_cases hlt : j < 127
  · obtain ⟨i, hi⟩ : ∃ i, i = 254 - j := ⟨_, rfl⟩
    have hi1 : 128 ≤ i := by omega
    have hi2 : i ≤ 254 := by omega
    have hiI : (254 - (j : Int)) = (i : Int) := by omega
    rw [hiI] at f8
    obtain ⟨q, hq⟩ : ∃ q, q = Gcm.reds p j := ⟨_, rfl⟩
    have hqb : Gcm.Bits q := by rw [hq]; exact Gcm.bits_reds hp.out j
    have HQB := Lib.hid hqb
    have HNX := Lib.hid (show Gcm.reds p (j + 1) = Gcm.redS q i by rw [hq, hi]; rfl)
    rw [← hq] at HB
    have HI := Lib.hid hi
    have ci := cells_blk HB.out i (by rw [hqb.1]; omega)
    have bi : (0 : Int) ≤ (i : Int) ∧ (i : Int) < 256 := ⟨by omega, by omega⟩
    simp only [f5, f8]
    clear f5 f8 hFr hJ hb hk hQ hmj hq hqb hi hiI
    conv => arg 2; whnf
    by_cases hbit : q.getD i 0 = 1
    · have HNY := Lib.hid (show Gcm.reds p (j + 1) = Gcm.flip (Gcm.flip (Gcm.flip (Gcm.flip q (i - 128)) (i - 127)) (i - 126)) (i - 121) by rw [HNX.out]; unfold Gcm.redS; rw [if_pos hbit])
      rw [hbit] at ci
      go_upto_region 13 with fail
      have c0 := cells_blk HB.out (i - 128) (by rw [HQB.out.1]; omega)
      have fr0 := HB.out.frozen (i - 128)
      have hx0 := HQB.out.2 (i - 128)
      have HB1 := Lib.hid (cells_set HB.out (i - 128) (q.getD (i - 128) 0 ^^^ 1))
      have HK1 := Lib.hid (HK.out.cellset (List.mem_singleton.2 rfl) (G := P) (j := i - 128) (.int .u8 ((q.getD (i - 128) 0 ^^^ 1 : Nat) : Int)))
      have HQB1 := Lib.hid (Gcm.bits_flip HQB.out (i - 128))
      obtain ⟨q1, hq1⟩ : ∃ q1, q1 = Gcm.flip q (i - 128) := ⟨_, rfl⟩
      obtain ⟨w1, hw1⟩ : ∃ w1, w1 = wr.setCell ⟨P, i - 128, none⟩ (.int .u8 ((q.getD (i - 128) 0 ^^^ 1 : Nat) : Int)) := ⟨_, rfl⟩
      rw [← hw1] at HB1 HK1
      rw [show q.set (i - 128) (q.getD (i - 128) 0 ^^^ 1) = q1 from hq1.symm] at HB1
      rw [← hq1] at HQB1
      rw [← hq1] at HNY
      have xx0 := bit_flip _ hx0
      have hs0 : IntKind.i64.wrap ((i : Int) - 128) = (i : Int) - 128 := wf_i64' _ (by omega) (by omega)
      have he0 : ((i : Int) - 128).toNat = i - 128 := by omega
      have hb0 : (0 : Int) ≤ (i : Int) - 128 ∧ (i : Int) - 128 < 256 := ⟨by omega, by omega⟩
      have hg0 : (128 : Int) ≤ (i : Int) := by omega
      generalize q.getD (i - 128) 0 ^^^ 1 = y0 at *
      generalize q.getD (i - 128) 0 = x0 at *
      have HW1 := Lib.hid hw1
      clear hw1
      go_upto_region 14 with fail
      rw [← HW1.out]
      clear c0 fr0 hx0 xx0 hs0 he0 hb0 hg0 hq1
      have c1 := cells_blk HB1.out (i - 127) (by rw [HQB1.out.1]; omega)
      have fr1 := HB1.out.frozen (i - 127)
      have hx1 := HQB1.out.2 (i - 127)
      have HB2 := Lib.hid (cells_set HB1.out (i - 127) (q1.getD (i - 127) 0 ^^^ 1))
      have HK2 := Lib.hid (HK1.out.cellset (List.mem_singleton.2 rfl) (G := P) (j := i - 127) (.int .u8 ((q1.getD (i - 127) 0 ^^^ 1 : Nat) : Int)))
      have HQB2 := Lib.hid (Gcm.bits_flip HQB1.out (i - 127))
      obtain ⟨q2, hq2⟩ : ∃ q2, q2 = Gcm.flip q1 (i - 127) := ⟨_, rfl⟩
      obtain ⟨w2, hw2⟩ : ∃ w2, w2 = w1.setCell ⟨P, i - 127, none⟩ (.int .u8 ((q1.getD (i - 127) 0 ^^^ 1 : Nat) : Int)) := ⟨_, rfl⟩
      rw [← hw2] at HB2 HK2
      rw [show q1.set (i - 127) (q1.getD (i - 127) 0 ^^^ 1) = q2 from hq2.symm] at HB2
      rw [← hq2] at HQB2
      rw [← hq2] at HNY
      have xx1 := bit_flip _ hx1
      have hs1 : IntKind.i64.wrap ((i : Int) - 127) = (i : Int) - 127 := wf_i64' _ (by omega) (by omega)
      have he1 : ((i : Int) - 127).toNat = i - 127 := by omega
      have hb1 : (0 : Int) ≤ (i : Int) - 127 ∧ (i : Int) - 127 < 256 := ⟨by omega, by omega⟩
      have hg1 : (127 : Int) ≤ (i : Int) := by omega
      generalize q1.getD (i - 127) 0 ^^^ 1 = y1 at *
      generalize q1.getD (i - 127) 0 = x1 at *
      have HW2 := Lib.hid hw2
      clear hw2
      go_upto_region 15 with fail
      rw [← HW2.out]
      clear c1 fr1 hx1 xx1 hs1 he1 hb1 hg1 hq2
      have c2 := cells_blk HB2.out (i - 126) (by rw [HQB2.out.1]; omega)
      have fr2 := HB2.out.frozen (i - 126)
      have hx2 := HQB2.out.2 (i - 126)
      have HB3 := Lib.hid (cells_set HB2.out (i - 126) (q2.getD (i - 126) 0 ^^^ 1))
      have HK3 := Lib.hid (HK2.out.cellset (List.mem_singleton.2 rfl) (G := P) (j := i - 126) (.int .u8 ((q2.getD (i - 126) 0 ^^^ 1 : Nat) : Int)))
      have HQB3 := Lib.hid (Gcm.bits_flip HQB2.out (i - 126))
      obtain ⟨q3, hq3⟩ : ∃ q3, q3 = Gcm.flip q2 (i - 126) := ⟨_, rfl⟩
      obtain ⟨w3, hw3⟩ : ∃ w3, w3 = w2.setCell ⟨P, i - 126, none⟩ (.int .u8 ((q2.getD (i - 126) 0 ^^^ 1 : Nat) : Int)) := ⟨_, rfl⟩
      rw [← hw3] at HB3 HK3
      rw [show q2.set (i - 126) (q2.getD (i - 126) 0 ^^^ 1) = q3 from hq3.symm] at HB3
      rw [← hq3] at HQB3
      rw [← hq3] at HNY
      have xx2 := bit_flip _ hx2
      have hs2 : IntKind.i64.wrap ((i : Int) - 126) = (i : Int) - 126 := wf_i64' _ (by omega) (by omega)
      have he2 : ((i : Int) - 126).toNat = i - 126 := by omega
      have hb2 : (0 : Int) ≤ (i : Int) - 126 ∧ (i : Int) - 126 < 256 := ⟨by omega, by omega⟩
      have hg2 : (126 : Int) ≤ (i : Int) := by omega
      generalize q2.getD (i - 126) 0 ^^^ 1 = y2 at *
      generalize q2.getD (i - 126) 0 = x2 at *
      have HW3 := Lib.hid hw3
      clear hw3
      go_upto_region 16 with fail
      rw [← HW3.out]
      clear c2 fr2 hx2 xx2 hs2 he2 hb2 hg2 hq3
      have c3 := cells_blk HB3.out (i - 121) (by rw [HQB3.out.1]; omega)
      have fr3 := HB3.out.frozen (i - 121)
      have hx3 := HQB3.out.2 (i - 121)
      have HB4 := Lib.hid (cells_set HB3.out (i - 121) (q3.getD (i - 121) 0 ^^^ 1))
      have HK4 := Lib.hid (HK3.out.cellset (List.mem_singleton.2 rfl) (G := P) (j := i - 121) (.int .u8 ((q3.getD (i - 121) 0 ^^^ 1 : Nat) : Int)))
      have HQB4 := Lib.hid (Gcm.bits_flip HQB3.out (i - 121))
      obtain ⟨q4, hq4⟩ : ∃ q4, q4 = Gcm.flip q3 (i - 121) := ⟨_, rfl⟩
      obtain ⟨w4, hw4⟩ : ∃ w4, w4 = w3.setCell ⟨P, i - 121, none⟩ (.int .u8 ((q3.getD (i - 121) 0 ^^^ 1 : Nat) : Int)) := ⟨_, rfl⟩
      rw [← hw4] at HB4 HK4
      rw [show q3.set (i - 121) (q3.getD (i - 121) 0 ^^^ 1) = q4 from hq4.symm] at HB4
      rw [← hq4] at HQB4
      rw [← hq4] at HNY
      have xx3 := bit_flip _ hx3
      have hs3 : IntKind.i64.wrap ((i : Int) - 121) = (i : Int) - 121 := wf_i64' _ (by omega) (by omega)
      have he3 : ((i : Int) - 121).toNat = i - 121 := by omega
      have hb3 : (0 : Int) ≤ (i : Int) - 121 ∧ (i : Int) - 121 < 256 := ⟨by omega, by omega⟩
      have hg3 : (121 : Int) ≤ (i : Int) := by omega
      generalize q3.getD (i - 121) 0 ^^^ 1 = y3 at *
      generalize q3.getD (i - 121) 0 = x3 at *
      have HW4 := Lib.hid hw4
      clear hw4
      go_wp2_with fail
      rw [← HW4.out]
      clear c3 fr3 hx3 xx3 hs3 he3 hb3 hg3 hq4
      exact Handed.intro (m - 1) (by have := HMJ.out; omega) (HJ.out _ _ _ ⟨j + 1, by have := HMJ.out; omega, ⟨rfl, rfl, rfl, by show Value.int .i64 _ = Value.int .i64 _; congr 1; have := HI.out; omega, trivial⟩, by rw [HNY.out]; exact HB4.out, HK4.out⟩)
    · have HNY := Lib.hid (show Gcm.reds p (j + 1) = q by rw [HNX.out]; unfold Gcm.redS; rw [if_neg hbit])
      have hz : q.getD i 0 = 0 := by have := HQB.out.2 i; omega
      rw [hz] at ci
      go_wp2_with fail
      exact Handed.intro (m - 1) (by have := HMJ.out; omega) (HJ.out _ _ _ ⟨j + 1, by have := HMJ.out; omega, ⟨rfl, rfl, rfl, by show Value.int .i64 _ = Value.int .i64 _; congr 1; have := HI.out; omega, trivial⟩, by rw [HNY.out]; exact HB.out, HK.out⟩)
  · obtain rfl : j = 127 := by omega
    simp only [f5, f8]
    clear f5 f8 hFr hJ hb hk hQ hmj
    conv => arg 2; whnf
    go_wp2_with fail
    exact ⟨rfl, HQ.out _ _ ⟨rfl, rfl, rfl, trivial⟩ HB.out HK.out⟩

noncomputable def hgmU : Code := loopOf Try.f36 3
set_option maxRecDepth 100000 in
set_option maxHeartbeats 4000000 in
theorem gm_out (R : Act → World → Prop) (a : Act) (w : World) (P G : Nat) (p : List Nat) (hp : Hid (Gcm.Bits p)) (hP : Hid (Blk w P 60 (cells8 p))) (hG : Hid (Blk w G 5 (cells8 (List.replicate 16 0)))) (hne : Hid (P ≠ G))
    (hF : Fr 99 [(5, .pointer (some ⟨P, 0, none⟩)), (9, .slice (some ⟨G, 0, none⟩) 16 16), (10, .int .i64 0)] a)
    (hQ : ∀ a' w', Fr 99 [(9, .slice (some ⟨G, 0, none⟩) 16 16)] a' → Blk w' G 5 (cells8 (Gcm.outS p 128)) → Keep [G] w w' → R a' w') :
    Code.wp Try.prog (.loop hgmU) (OutX 6 R) a w := by
  refine wp_loop_ghost_k (fun m a wr => ∃ j : Nat, m + j = 128 ∧ Fr 99 [(5, .pointer (some ⟨P, 0, none⟩)), (9, .slice (some ⟨G, 0, none⟩) 16 16), (10, .int .i64 j)] a ∧ Blk wr G 5 (cells8 (Gcm.outS p j)) ∧ Keep [G] w wr)
    128 ⟨0, rfl, hF, hG.out, Keep.refl _ _⟩ ?_
  clear hF
  rintro m a wr ⟨j, hmj, hFr, hb, hk⟩ J K hJ hK1
  have HJ := Lib.hid hJ
  have HMJ := Lib.hid hmj
  have HB := Lib.hid hb
  have HK := Lib.hid hk
  have HQ := Lib.hid hQ
  obtain ⟨f, ⟨f5, f9, f10, -⟩, rfl⟩ := hFr.open99
  by_cases hlt : j < 128
  · have HPR := Lib.hid (hP.out.keep hk (by simpa using hne.out))
    obtain ⟨o, ho⟩ : ∃ o, o = Gcm.outS p j := ⟨_, rfl⟩
    have hok := Gcm.outS_ok p j
    rw [← ho] at hok HB
    have HNX := Lib.hid (show Gcm.outS p (j + 1) = o.set (j / 8) (o.getD (j / 8) 0 ||| (p.getD j 0 * 2 ^ (7 - j % 8) % 256)) by rw [ho]; rfl)
    have HCP := Lib.hid (cells_blk HPR.out j (by rw [hp.out.1]; omega))
    have HCG := Lib.hid (cells_blk HB.out (j / 8) (by rw [hok.1]; omega))
    have HFZ := Lib.hid (show ∀ W : World, Keep [] wr W → W.frozen? ⟨G, j / 8, none⟩ = false from fun W h => (HB.out.keep h (by simp)).frozen _)
    have hx := hok.2 (j / 8)
    have hy := hp.out.2 j
    simp only [f5, f9, f10]
    clear f5 f9 f10 hFr hJ hb hk hQ hmj ho hok
    conv => arg 2; whnf
    go_upto_region 21 with fail
    refine OutN.use (gm_reg21 (fun a' w' => ∃ W, w' = W.setCell ⟨G, j / 8, none⟩ (.int .u8 ((o.getD (j / 8) 0 ||| (p.getD j 0 * 2 ^ (7 - j % 8) % 256) : Nat) : Int)) ∧ Fr 99 [(5, .pointer (some ⟨P, 0, none⟩)), (9, .slice (some ⟨G, 0, none⟩) 16 16), (10, .int .i64 j)] a' ∧ Keep [] wr W) _ wr P G j (j / 8) (j % 8) _ _ hlt rfl rfl hx hy HCP HCG HFZ
      ⟨rfl, rfl, by repeat (first | exact trivial | refine ⟨rfl, ?_⟩)⟩ (Lib.hid fun a' W h1 h2 => ⟨W, rfl, h1, h2⟩)) ?_
    rintro a' w3 ⟨W, rfl, hF3, hkW⟩
    have HB3 := Lib.hid (cells_set (HB.out.keep hkW (by simp)) (j / 8) (o.getD (j / 8) 0 ||| (p.getD j 0 * 2 ^ (7 - j % 8) % 256)))
    have HK3 := Lib.hid ((HK.out.trans0 hkW).cellset (List.mem_singleton.2 rfl) (G := G) (j := j / 8) (.int .u8 ((o.getD (j / 8) 0 ||| (p.getD j 0 * 2 ^ (7 - j % 8) % 256) : Nat) : Int)))
    obtain ⟨f, ⟨f5, f9, f10, -⟩, rfl⟩ := hF3.open99
    obtain ⟨W', hW'⟩ : ∃ W', W' = W.setCell ⟨G, j / 8, none⟩ (.int .u8 ((o.getD (j / 8) 0 ||| (p.getD j 0 * 2 ^ (7 - j % 8) % 256) : Nat) : Int)) := ⟨_, rfl⟩
    rw [← hW'] at HB3 HK3 ⊢
    simp only [f5, f9, f10]
    clear f5 f9 f10 hF3 hkW hW'
    go_wp2_with fail
    exact Handed.intro (m - 1) (by have := HMJ.out; omega) (HJ.out _ _ _ ⟨j + 1, by have := HMJ.out; omega, ⟨rfl, rfl, by repeat (first | exact trivial | refine ⟨rfl, ?_⟩)⟩, by rw [HNX.out]; exact HB3.out, HK3.out⟩)
  · obtain rfl : j = 128 := by omega
    simp only [f5, f9, f10]
    clear f5 f9 f10 hFr hJ hb hk hQ hmj
    conv => arg 2; whnf
    go_wp2_with fail
    exact ⟨rfl, HQ.out _ _ ⟨rfl, rfl, rfl, trivial⟩ HB.out HK.out⟩

theorem arr256 : ∃ Z : Array Value, Z = cells8 (List.replicate 256 0) ∧ (Try.prog.info? 60).map (fun i => (i.zero, i.size)) = some (some (.agg Z), 256) := ⟨_, rfl, by kernel_rfl⟩
theorem product_length (a b : List Int) : (Gcm.product a b).length = 16 := by simp [Gcm.product, (Gcm.outS_ok _ _).1]
theorem nats_wf (o : List Nat) (h : ∀ j, o.getD j 0 < 256) : ∀ x ∈ o.map (fun (n : Nat) => (n : Int)), (Lit.int .u8 x).wf = true := by
  intro x hx
  simp only [List.mem_map] at hx
  obtain ⟨n, hn, rfl⟩ := hx
  obtain ⟨i, hi, rfl⟩ := List.getElem_of_mem hn
  have := h i
  rw [List.getD_eq_getElem?_getD, List.getElem?_eq_getElem hi, Option.getD_some] at this
  exact u8_wf (by omega) (by omega)
theorem product_wf (a b : List Int) : ∀ x ∈ Gcm.product a b, (Lit.int .u8 x).wf = true := nats_wf _ (Gcm.outS_ok _ _).2

set_option maxRecDepth 100000 in
set_option maxHeartbeats 4000000 in
theorem rproduct_any (av bv : Value) (al bl : List Int) (w : World) (ha : Sl .u8 w av al) (hb : Sl .u8 w bv bl) (hal : al.length = 16) (hbl : bl.length = 16) :
    Calls Try.prog 36 #[av, bv] w fun e w' => ∃ g, e = .returned (.slice (some ⟨g, 0, none⟩) 16 16) ∧ w.heap.size ≤ g ∧ Blk w' g 5 (cells8 (Gcm.outS (Gcm.reds (Gcm.rows al bl 128) 127) 128)) ∧ Keep [] w w' := by
  obtain ⟨Z, hZ, hZi⟩ := arr256
  have HZI := Lib.hid hZi
  have HZ := Lib.hid hZ
  obtain ⟨ga, oa, ca, rfl, -, -, -⟩ := ha.cells (by omega)
  obtain ⟨gb, ob, cb, rfl, -, -, -⟩ := hb.cells (by omega)
  rw [hal] at ha ⊢
  rw [hbl] at hb ⊢
  have HA := Lib.hid ha
  have HB := Lib.hid hb
  clear ha hb hZ hZi
  go_enter Try.func36, Try.ntmps36
  obtain ⟨P, hP⟩ : ∃ P, P = w.heap.size := ⟨_, rfl⟩
  go_upto_block 0 with (refine wl_alloc_rowZ rfl _ rfl Z 256 HZI.out ?_; intro w1 hB1 hk1 hz1; have HB1 := Lib.hid hB1; have HK1 := Lib.hid hk1; clear hB1 hk1 hz1)
  have HP := Lib.hid (show w.heap.size ≤ P by omega)
  have HBP := Lib.hid (show Blk w1 P 60 (cells8 (List.replicate 256 0)) by rw [hP, ← HZ.out]; exact HB1.out)
  have HA1 := Lib.hid (show ∀ W, Keep [P] w1 W → Sl .u8 W (.slice (some ⟨ga, oa, none⟩) 16 ca) al from fun W h => HA.out.keep0 (HK1.out.trans' h (fun x hx => by right; have := HP.out; simp at hx; omega)))
  have HB1' := Lib.hid (show ∀ W, Keep [P] w1 W → Sl .u8 W (.slice (some ⟨gb, ob, none⟩) 16 cb) bl from fun W h => HB.out.keep0 (HK1.out.trans' h (fun x hx => by right; have := HP.out; simp at hx; omega)))
  rw [← hP]
  clear hP HB1
  go_wp2_with fail
  refine OutX.use (gm_outer (fun a' w' => Fr 99 [(5, .pointer (some ⟨P, 0, none⟩))] a' ∧ Blk w' P 60 (cells8 (Gcm.rows al bl 128)) ∧ Keep [P] w1 w') _ w1 ga oa ca gb ob cb P al bl hal hbl HA1 HB1' HBP
    ⟨rfl, rfl, by repeat (first | exact trivial | refine ⟨rfl, ?_⟩)⟩ (fun a' w' h1 h2 h3 => ⟨h1, h2, h3⟩)) ?_
  rintro a' w2 ⟨hF2, hb2, hk2⟩
  have HB2 := Lib.hid hb2
  have HK2 := Lib.hid (show Keep [] w w2 from HK1.out.trans' hk2 (fun x hx => by right; have := HP.out; simp at hx; omega))
  obtain ⟨f, ⟨f5, -⟩, rfl⟩ := hF2.open99
  simp only [f5]
  clear f5 hF2 hb2 hk2
  go_upto_block 4 with fail
  go_wp2_with fail
  refine OutX.use (gm_red (fun a' w' => Fr 99 [(5, .pointer (some ⟨P, 0, none⟩))] a' ∧ Blk w' P 60 (cells8 (Gcm.reds (Gcm.rows al bl 128) 127)) ∧ Keep [P] w2 w') _ w2 P (Gcm.rows al bl 128) (Lib.hid (Gcm.bits_rows al bl 128)) HB2
    ⟨rfl, rfl, by repeat (first | exact trivial | refine ⟨rfl, ?_⟩)⟩ (fun a' w' h1 h2 h3 => ⟨h1, h2, h3⟩)) ?_
  rintro a' w3 ⟨hF3, hb3, hk3⟩
  have HB3 := Lib.hid hb3
  have HK3 := Lib.hid (show Keep [] w w3 from HK2.out.trans' hk3 (fun x hx => by right; have := HP.out; simp at hx; omega))
  obtain ⟨f, ⟨f5, -⟩, rfl⟩ := hF3.open99
  simp only [f5]
  clear f5 hF3 hb3 hk3
  go_upto_block 6 with (at_make; refine wl_make _ rfl _ _ 26 rfl 5 (.int .u8 0) 1 Try.underlying26 u8infB rfl _ _ _ _ 16 16 rfl rfl rfl rfl (Nat.le_refl _) (by omega) (by omega) ?_; intro w4 hB4 hk4 hz4; have HB4 := Lib.hid hB4; have HK4 := Lib.hid hk4; clear hB4 hk4 hz4)
  obtain ⟨G, hG⟩ : ∃ G, G = w3.heap.size := ⟨_, rfl⟩
  have HG := Lib.hid (show P ≠ G ∧ w.heap.size ≤ G from ⟨by have := HB3.out.lt; omega, by have := HK3.out.size; omega⟩)
  have HBG := Lib.hid (show Blk w4 G 5 (cells8 (List.replicate 16 0)) by rw [hG]; simpa [cells8] using HB4.out)
  have HBP4 := Lib.hid (HB3.out.keep HK4.out (by simp))
  have HK04 := Lib.hid (HK3.out.trans HK4.out)
  rw [← hG]
  clear hG HB4
  go_wp2_with fail
  refine OutX.use (gm_out (fun a' w' => Fr 99 [(9, .slice (some ⟨G, 0, none⟩) 16 16)] a' ∧ Blk w' G 5 (cells8 (Gcm.outS (Gcm.reds (Gcm.rows al bl 128) 127) 128)) ∧ Keep [G] w4 w') _ w4 P G (Gcm.reds (Gcm.rows al bl 128) 127) (Lib.hid (Gcm.bits_reds (Gcm.bits_rows al bl 128) 127)) HBP4 HBG (Lib.hid HG.out.1)
    ⟨rfl, rfl, by repeat (first | exact trivial | refine ⟨rfl, ?_⟩)⟩ (fun a' w' h1 h2 h3 => ⟨h1, h2, h3⟩)) ?_
  rintro a' w5 ⟨hF5, hb5, hk5⟩
  have HB5 := Lib.hid hb5
  have HK5 := Lib.hid (show Keep [] w w5 from HK04.out.trans' hk5 (fun x hx => by right; have := HG.out.2; simp at hx; omega))
  obtain ⟨f, ⟨f9, -⟩, rfl⟩ := hF5.open99
  simp only [f9]
  clear f9 hF5 hb5 hk5
  go_wp2_with fail
  go_ret
  exact ⟨G, rfl, HG.out.2, HB5.out, HK5.out⟩
end Go.Proofs.Ytlkjngbelckgkaa
