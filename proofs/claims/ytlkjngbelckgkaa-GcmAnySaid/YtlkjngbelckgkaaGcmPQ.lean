/-
  The field of 2^128: the document's product as pure functions, and that it is the product by shifts and sums; nothing of the program.
  A known block, reckoned by the kernel; a key's rounds leave unlike blocks unlike; nothing of the program.
  The document's sealing as pure functions, and what holds of them; nothing of the program.
-/
import Derived.Test.YtlkjngbelckgkaaAesT
namespace Go.Proofs.Ytlkjngbelckgkaa
open Go.RowKit

namespace Gcm
/-- A block's bit, from the first byte's highest on. -/
def bitN (l : List Int) (i : Nat) : Nat := nb l (i / 8) / 2 ^ (7 - i % 8) % 2
theorem bitN_lt (l : List Int) (i : Nat) : bitN l i < 2 := Nat.mod_lt _ (by decide)
def mulS (a b : List Int) (i k : Nat) (p : List Nat) : List Nat := p.set (i + k) (p.getD (i + k) 0 ^^^ (bitN a i &&& bitN b k))
def row (a b : List Int) (i : Nat) (p : List Nat) : Nat → List Nat
  | 0 => p
  | k + 1 => mulS a b i k (row a b i p k)
def rows (a b : List Int) : Nat → List Nat
  | 0 => List.replicate 256 0
  | i + 1 => row a b i (rows a b i) 128
def flip (p : List Nat) (j : Nat) : List Nat := p.set j (p.getD j 0 ^^^ 1)
def redS (p : List Nat) (i : Nat) : List Nat := if p.getD i 0 = 1 then flip (flip (flip (flip p (i - 128)) (i - 127)) (i - 126)) (i - 121) else p
def reds (p : List Nat) : Nat → List Nat
  | 0 => p
  | j + 1 => redS (reds p j) (254 - j)
def outS (p : List Nat) : Nat → List Nat
  | 0 => List.replicate 16 0
  | i + 1 => (outS p i).set (i / 8) ((outS p i).getD (i / 8) 0 ||| (p.getD i 0 * 2 ^ (7 - i % 8) % 256))
def product (a b : List Int) : List Int := (outS (reds (rows a b 128) 127) 128).map fun (n : Nat) => (n : Int)
/-- 256 bits. -/
def Bits (p : List Nat) : Prop := p.length = 256 ∧ ∀ j, p.getD j 0 < 2
theorem getD_set (p : List Nat) (i j x : Nat) : (p.set i x).getD j 0 = if i = j ∧ i < p.length then x else p.getD j 0 := by
  rw [List.getD_eq_getElem?_getD, List.getD_eq_getElem?_getD, List.getElem?_set]
  by_cases h : i = j
  · subst h
    by_cases hl : i < p.length
    · simp [hl]
    · simp [hl]
  · simp [h]
theorem Bits.set {p : List Nat} (h : Bits p) (j x : Nat) (hx : x < 2) : Bits (p.set j x) := by
  refine ⟨by simpa using h.1, fun k => ?_⟩
  rw [getD_set]
  split
  · exact hx
  · exact h.2 k
theorem bits_mulS {p : List Nat} (h : Bits p) (a b : List Int) (i k : Nat) : Bits (mulS a b i k p) :=
  h.set _ _ (Nat.xor_lt_two_pow (n := 1) (h.2 _) (Nat.and_lt_two_pow (n := 1) _ (bitN_lt b k)))
theorem bits_row {p : List Nat} (h : Bits p) (a b : List Int) (i k : Nat) : Bits (row a b i p k) := by
  induction k with
  | zero => exact h
  | succ k ih => exact bits_mulS ih a b i k
theorem bits_zero : Bits (List.replicate 256 0) := ⟨List.length_replicate, fun j => by
  rw [List.getD_eq_getElem?_getD, List.getElem?_replicate]
  split <;> decide⟩
theorem bits_rows (a b : List Int) (i : Nat) : Bits (rows a b i) := by
  induction i with
  | zero => exact bits_zero
  | succ i ih => exact bits_row ih a b i 128
theorem bits_flip {p : List Nat} (h : Bits p) (j : Nat) : Bits (flip p j) := h.set _ _ (Nat.xor_lt_two_pow (n := 1) (h.2 _) (by decide))
theorem bits_redS {p : List Nat} (h : Bits p) (i : Nat) : Bits (redS p i) := by
  unfold redS
  split
  · exact bits_flip (bits_flip (bits_flip (bits_flip h _) _) _) _
  · exact h
theorem bits_reds {p : List Nat} (h : Bits p) (j : Nat) : Bits (reds p j) := by
  induction j with
  | zero => exact h
  | succ j ih => exact bits_redS ih _
theorem outS_ok (p : List Nat) (i : Nat) : (outS p i).length = 16 ∧ ∀ j, (outS p i).getD j 0 < 256 := by
  induction i with
  | zero => exact ⟨by simp [outS], fun j => by
      show (List.replicate 16 0).getD j 0 < 256
      rw [List.getD_eq_getElem?_getD, List.getElem?_replicate]
      split <;> decide⟩
  | succ i ih =>
    refine ⟨by simpa [outS] using ih.1, fun j => ?_⟩
    show ((outS p i).set (i / 8) _).getD j 0 < 256
    rw [getD_set]
    split
    · exact Nat.or_lt_two_pow (n := 8) (ih.2 _) (Nat.mod_lt _ (by decide))
    · exact ih.2 j
end Gcm

namespace Gcm
open Aes (clm xor_bit clm_xor clm_xor' lin_ext)
/-- Multiplied by x. -/
def mx (a : Nat) : Nat := if a / 2 ^ 127 % 2 = 1 then (a * 2 % 2 ^ 128) ^^^ 135 else a * 2 % 2 ^ 128
def mxi (a : Nat) : Nat → Nat
  | 0 => a
  | k + 1 => mx (mxi a k)
/-- The product, by shifts and sums: so many bits of b. -/
def gm (a b : Nat) : Nat → Nat
  | 0 => 0
  | i + 1 => if b / 2 ^ i % 2 = 1 then gm a b i ^^^ mxi a i else gm a b i
/-- What is left of a product, from bit 254 on downwards: so many steps. -/
def rg (n : Nat) : Nat → Nat
  | 0 => n
  | j + 1 => if rg n j / 2 ^ (254 - j) % 2 = 1 then rg n j ^^^ (135 * 2 ^ (126 - j)) else rg n j
theorem mod_xor (a b n : Nat) : (a ^^^ b) % 2 ^ n = (a % 2 ^ n) ^^^ (b % 2 ^ n) := Nat.xor_mod_two_pow (n := n)
theorem mul2_xor (a b : Nat) : (a ^^^ b) * 2 = (a * 2) ^^^ (b * 2) := by have := Aes.mul_xor a b 1; simpa using this
theorem mx_xor (a b : Nat) : mx (a ^^^ b) = mx a ^^^ mx b := by
  unfold mx
  have := xor_bit a b 127
  rw [mul2_xor, mod_xor]
  generalize a * 2 % 2 ^ 128 = x
  generalize b * 2 % 2 ^ 128 = y
  by_cases h1 : a / 2 ^ 127 % 2 = 1 <;> by_cases h2 : b / 2 ^ 127 % 2 = 1 <;> simp only [h1, h2, if_true, if_false] <;> simp only [h1, h2] at this <;> simp only [this]
  · simp only [not_true_eq_false, if_false]
    rw [show x ^^^ 135 ^^^ (y ^^^ 135) = x ^^^ y ^^^ (135 ^^^ 135) by ac_rfl, Nat.xor_self, Nat.xor_zero]
  · simp; ac_rfl
  · simp; ac_rfl
  · simp
theorem mxi_xor (a b k : Nat) : mxi (a ^^^ b) k = mxi a k ^^^ mxi b k := by
  induction k with
  | zero => rfl
  | succ k ih => simp only [mxi, ih, mx_xor]
theorem mx_lt (a : Nat) : mx a < 2 ^ 128 := by
  unfold mx
  split
  · exact Nat.xor_lt_two_pow (Nat.mod_lt _ (by decide)) (by decide)
  · exact Nat.mod_lt _ (by decide)
theorem mxi_lt (a k : Nat) (ha : a < 2 ^ 128) : mxi a k < 2 ^ 128 := by
  cases k with
  | zero => exact ha
  | succ k => exact mx_lt _
theorem gm_lt (a b i : Nat) (ha : a < 2 ^ 128) : gm a b i < 2 ^ 128 := by
  induction i with
  | zero => exact (by decide : (0 : Nat) < 2 ^ 128)
  | succ i ih =>
    unfold gm
    split
    · exact Nat.xor_lt_two_pow ih (mxi_lt a i ha)
    · exact ih
theorem gm_xor (a b c i : Nat) : gm a (b ^^^ c) i = gm a b i ^^^ gm a c i := by
  induction i with
  | zero => simp [gm]
  | succ i ih =>
    simp only [gm, ih]
    have := xor_bit b c i
    by_cases h1 : b / 2 ^ i % 2 = 1 <;> by_cases h2 : c / 2 ^ i % 2 = 1 <;> simp only [h1, h2, if_true, if_false] <;> simp only [h1, h2] at this <;> simp only [this]
    · simp only [not_true_eq_false, if_false]
      rw [show gm a b i ^^^ mxi a i ^^^ (gm a c i ^^^ mxi a i) = gm a b i ^^^ gm a c i ^^^ (mxi a i ^^^ mxi a i) by ac_rfl, Nat.xor_self, Nat.xor_zero]
    · simp; ac_rfl
    · simp; ac_rfl
    · simp
theorem gm_xor' (a b c i : Nat) : gm (a ^^^ b) c i = gm a c i ^^^ gm b c i := by
  induction i with
  | zero => simp [gm]
  | succ i ih =>
    simp only [gm, ih, mxi_xor]
    by_cases h1 : c / 2 ^ i % 2 = 1
    · simp only [h1, if_true]; ac_rfl
    · simp only [h1, if_false]
theorem rg_xor (n m j : Nat) : rg (n ^^^ m) j = rg n j ^^^ rg m j := by
  induction j with
  | zero => rfl
  | succ j ih =>
    simp only [rg, ih]
    have := xor_bit (rg n j) (rg m j) (254 - j)
    generalize 135 * 2 ^ (126 - j) = y
    by_cases h1 : rg n j / 2 ^ (254 - j) % 2 = 1 <;> by_cases h2 : rg m j / 2 ^ (254 - j) % 2 = 1 <;> simp only [h1, h2, if_true, if_false] <;> simp only [h1, h2] at this <;> simp only [this]
    · simp only [not_true_eq_false, if_false]
      rw [show rg n j ^^^ y ^^^ (rg m j ^^^ y) = rg n j ^^^ rg m j ^^^ (y ^^^ y) by ac_rfl, Nat.xor_self, Nat.xor_zero]
    · simp; ac_rfl
    · simp; ac_rfl
    · simp
theorem bit_pow (k i : Nat) : (2 ^ k / 2 ^ i % 2 = 1) ↔ i = k := by
  have h := Nat.testBit_two_pow (n := k) (m := i)
  rw [Nat.testBit_eq_decide_div_mod_eq] at h
  by_cases h1 : 2 ^ k / 2 ^ i % 2 = 1 <;> by_cases h2 : k = i <;> simp_all
  exact fun h3 => h2 h3.symm
theorem clm_pow (a k n : Nat) : clm a (2 ^ k) n = if k < n then a * 2 ^ k else 0 := by
  induction n with
  | zero => simp [clm]
  | succ n ih =>
    simp only [clm, bit_pow, ih]
    by_cases h : n = k
    · subst h; simp
    · rw [if_neg h]
      by_cases h2 : k < n
      · rw [if_pos h2, if_pos (by omega)]
      · rw [if_neg h2, if_neg (by omega)]
theorem gm_pow (a k n : Nat) : gm a (2 ^ k) n = if k < n then mxi a k else 0 := by
  induction n with
  | zero => simp [gm]
  | succ n ih =>
    simp only [gm, bit_pow, ih]
    by_cases h : n = k
    · subst h; simp
    · rw [if_neg h]
      by_cases h2 : k < n
      · rw [if_pos h2, if_pos (by omega)]
      · rw [if_neg h2, if_neg (by omega)]
theorem mxi_add (a i k : Nat) : mxi (mxi a i) k = mxi a (i + k) := by
  induction k with
  | zero => rfl
  | succ k ih => simp only [mxi, ih]; rfl
theorem mx_pow (i : Nat) (h : i < 127) : mx (2 ^ i) = 2 ^ (i + 1) := by
  unfold mx
  rw [if_neg (by rw [bit_pow]; omega), ← Nat.pow_succ, Nat.mod_eq_of_lt (Nat.pow_lt_pow_right (by decide) (by omega))]
theorem mxi_one (i : Nat) (h : i < 128) : mxi 1 i = 2 ^ i := by
  induction i with
  | zero => rfl
  | succ i ih => simp only [mxi, ih (by omega)]; exact mx_pow i (by omega)
theorem rg_pows : ∀ m, m < 255 → rg (2 ^ m) 127 % 2 ^ 128 = mxi 1 m := by decide +kernel
theorem rg_gm (a b : Nat) (ha : a < 2 ^ 128) (hb : b < 2 ^ 128) : rg (clm a b 128) 127 % 2 ^ 128 = gm a b 128 := by
  refine lin_ext (fun x => rg (clm x b 128) 127 % 2 ^ 128) (fun x => gm x b 128) (fun x y => by simp only [clm_xor', rg_xor, mod_xor]) (fun x y => gm_xor' x y b 128) 128 (fun i hi => ?_) a ha
  refine lin_ext (fun y => rg (clm (2 ^ i) y 128) 127 % 2 ^ 128) (fun y => gm (2 ^ i) y 128) (fun x y => by simp only [clm_xor, rg_xor, mod_xor]) (fun x y => gm_xor _ x y 128) 128 (fun k hk => ?_) b hb
  simp only [clm_pow, gm_pow, if_pos hk]
  rw [← Nat.pow_add, rg_pows (i + k) (by omega), ← mxi_one i hi, mxi_add]
theorem gm_comm (a b : Nat) (ha : a < 2 ^ 128) (hb : b < 2 ^ 128) : gm a b 128 = gm b a 128 := by
  refine lin_ext (fun x => gm x b 128) (fun x => gm b x 128) (fun x y => gm_xor' x y b 128) (fun x y => gm_xor b x y 128) 128 (fun i hi => ?_) a ha
  refine lin_ext (fun y => gm (2 ^ i) y 128) (fun y => gm y (2 ^ i) 128) (fun x y => gm_xor _ x y 128) (fun x y => gm_xor' x y _ 128) 128 (fun k hk => ?_) b hb
  simp only [gm_pow, if_pos hk, if_pos hi]
  rw [← mxi_one i hi, mxi_add, ← mxi_one k hk, mxi_add, Nat.add_comm]

/-- The bit of a number. -/
theorem bit_xor (a b j : Nat) : (a ^^^ b) / 2 ^ j % 2 = ((a / 2 ^ j % 2) ^^^ (b / 2 ^ j % 2)) := by
  have h := xor_bit a b j
  rcases Nat.mod_two_eq_zero_or_one (a / 2 ^ j) with h1 | h1 <;> rcases Nat.mod_two_eq_zero_or_one (b / 2 ^ j) with h2 | h2 <;> rcases Nat.mod_two_eq_zero_or_one ((a ^^^ b) / 2 ^ j) with h3 | h3 <;> simp_all
theorem bit_mul_pow (a i j : Nat) : a * 2 ^ i / 2 ^ j % 2 = if i ≤ j then a / 2 ^ (j - i) % 2 else 0 := by
  have h := Nat.testBit_mul_two_pow a j i
  rw [Nat.testBit_eq_decide_div_mod_eq, Nat.testBit_eq_decide_div_mod_eq] at h
  by_cases hi : i ≤ j
  · rw [if_pos hi]
    simp [hi] at h
    rcases Nat.mod_two_eq_zero_or_one (a * 2 ^ i / 2 ^ j) with h1 | h1 <;> rcases Nat.mod_two_eq_zero_or_one (a / 2 ^ (j - i)) with h2 | h2 <;> simp_all
  · rw [if_neg hi]
    simp [hi] at h
    omega
/-- A block's first n bits as a number. -/
def pnk (l : List Int) : Nat → Nat
  | 0 => 0
  | n + 1 => pnk l n ^^^ (bitN l n * 2 ^ n)
def pn (l : List Int) : Nat := pnk l 128
theorem pnk_lt (l : List Int) (n : Nat) : pnk l n < 2 ^ n := by
  induction n with
  | zero => exact (by decide : (0 : Nat) < 1)
  | succ n ih =>
    have h1 := bitN_lt l n
    refine Nat.xor_lt_two_pow (Nat.lt_of_lt_of_le ih (Nat.pow_le_pow_right (by decide) (by omega))) ?_
    rw [Nat.pow_succ]
    have : bitN l n * 2 ^ n ≤ 1 * 2 ^ n := Nat.mul_le_mul_right _ (by omega)
    have h2 : 0 < 2 ^ n := Nat.pow_pos (by decide)
    omega
theorem pnk_bit (l : List Int) (n j : Nat) : pnk l n / 2 ^ j % 2 = if j < n then bitN l j else 0 := by
  induction n with
  | zero => simp [pnk]
  | succ n ih =>
    rw [pnk, bit_xor, ih, bit_mul_pow]
    by_cases h : j < n
    · rw [if_pos h, if_neg (by omega), if_pos (by omega), Nat.xor_zero]
    · rw [if_neg h]
      by_cases h2 : j = n
      · subst h2
        rw [if_pos (Nat.le_refl _), if_pos (by omega), Nat.sub_self, Nat.pow_zero, Nat.div_one, Nat.zero_xor, Nat.mod_eq_of_lt (bitN_lt l j)]
      · rw [if_pos (by omega), if_neg (by omega), Nat.zero_xor]
        have h1 := bitN_lt l n
        rw [Nat.div_eq_of_lt (Nat.lt_of_lt_of_le h1 (by
          have : 2 ^ 1 ≤ 2 ^ (j - n) := Nat.pow_le_pow_right (by decide) (by omega)
          simpa using this))]
theorem pn_bit (l : List Int) (j : Nat) (h : j < 128) : pn l / 2 ^ j % 2 = bitN l j := by unfold pn; rw [pnk_bit, if_pos h]
theorem pn_lt (l : List Int) : pn l < 2 ^ 128 := pnk_lt l 128

/-- The list holds the number's bits. -/
def BR (p : List Nat) (n : Nat) : Prop := p.length = 256 ∧ ∀ j, j < 256 → p.getD j 0 = n / 2 ^ j % 2
theorem BR.bits {p : List Nat} {n : Nat} (h : BR p n) : Bits p := ⟨h.1, fun j => by
  by_cases hj : j < 256
  · rw [h.2 j hj]; exact Nat.mod_lt _ (by decide)
  · rw [List.getD_eq_getElem?_getD, List.getElem?_eq_none (by rw [h.1]; omega)]; decide⟩
theorem BR.flip {p : List Nat} {n : Nat} (h : BR p n) (i x : Nat) (hi : i < 256) (hx : x < 2) : BR (p.set i (p.getD i 0 ^^^ x)) (n ^^^ (x * 2 ^ i)) := by
  refine ⟨by simpa using h.1, fun j hj => ?_⟩
  rw [getD_set, bit_xor, bit_mul_pow]
  by_cases hij : i = j
  · subst hij
    rw [if_pos ⟨rfl, by rw [h.1]; exact hi⟩, if_pos (Nat.le_refl _), h.2 i hi, Nat.sub_self, Nat.pow_zero, Nat.div_one, Nat.mod_eq_of_lt hx]
  · rw [if_neg (fun hh => hij hh.1), h.2 j hj]
    by_cases h2 : i ≤ j
    · rw [if_pos h2, Nat.div_eq_of_lt (Nat.lt_of_lt_of_le hx (by
        have : 2 ^ 1 ≤ 2 ^ (j - i) := Nat.pow_le_pow_right (by decide) (by omega)
        simpa using this)), Nat.zero_mod, Nat.xor_zero]
    · rw [if_neg h2, Nat.xor_zero]
theorem and_bit (x y : Nat) (hx : x < 2) (hy : y < 2) : x &&& y = x * y := by
  rcases (show x = 0 ∨ x = 1 by omega) with rfl | rfl <;> rcases (show y = 0 ∨ y = 1 by omega) with rfl | rfl <;> rfl
theorem row_br (a b : List Int) (i : Nat) (hi : i < 128) {p : List Nat} {n : Nat} (h : BR p n) (k : Nat) (hk : k ≤ 128) : BR (row a b i p k) (n ^^^ (bitN a i * pnk b k * 2 ^ i)) := by
  induction k with
  | zero => simpa [row, pnk] using h
  | succ k ih =>
    have h1 := (ih (by omega)).flip (i + k) (bitN a i &&& bitN b k) (by omega) (Nat.and_lt_two_pow (n := 1) _ (bitN_lt b k))
    have ha := bitN_lt a i
    have e : n ^^^ (bitN a i * pnk b k * 2 ^ i) ^^^ ((bitN a i &&& bitN b k) * 2 ^ (i + k)) = n ^^^ (bitN a i * pnk b (k + 1) * 2 ^ i) := by
      rw [and_bit _ _ ha (bitN_lt b k), Nat.xor_assoc]
      congr 1
      rcases (show bitN a i = 0 ∨ bitN a i = 1 by omega) with h0 | h0
      · simp [h0]
      · rw [h0, Nat.one_mul, Nat.one_mul, Nat.one_mul, pnk, Aes.mul_xor, Nat.mul_assoc, ← Nat.pow_add, Nat.add_comm k i]
    rw [e] at h1
    exact h1
theorem rows_br (a b : List Int) (i : Nat) (hi : i ≤ 128) : BR (rows a b i) (clm (pn b) (pn a) i) := by
  induction i with
  | zero => exact ⟨List.length_replicate, fun j hj => by
      show (List.replicate 256 0).getD j 0 = 0 / 2 ^ j % 2
      rw [List.getD_eq_getElem?_getD, List.getElem?_replicate, if_pos hj, Nat.zero_div]; rfl⟩
  | succ i ih =>
    have h1 := row_br a b i (by omega) (ih (by omega)) 128 (Nat.le_refl _)
    have ha := bitN_lt a i
    rw [clm, pn_bit a i (by omega)]
    rcases (show bitN a i = 0 ∨ bitN a i = 1 by omega) with h0 | h0
    · rw [h0, Nat.zero_mul, Nat.zero_mul, Nat.xor_zero] at h1
      rw [h0, if_neg (by decide)]
      exact h1
    · rw [h0, Nat.one_mul] at h1
      rw [h0, if_pos rfl]
      exact h1
theorem red_br {p : List Nat} {n : Nat} (h : BR p n) (j : Nat) (hj : j < 127) : BR (redS p (254 - j)) (if n / 2 ^ (254 - j) % 2 = 1 then n ^^^ (135 * 2 ^ (126 - j)) else n) := by
  unfold redS
  rw [h.2 (254 - j) (by omega)]
  by_cases h1 : n / 2 ^ (254 - j) % 2 = 1
  · rw [if_pos h1, if_pos h1]
    have h2 := (((h.flip (254 - j - 128) 1 (by omega) (by decide)).flip (254 - j - 127) 1 (by omega) (by decide)).flip (254 - j - 126) 1 (by omega) (by decide)).flip (254 - j - 121) 1 (by omega) (by decide)
    have e : n ^^^ 1 * 2 ^ (254 - j - 128) ^^^ 1 * 2 ^ (254 - j - 127) ^^^ 1 * 2 ^ (254 - j - 126) ^^^ 1 * 2 ^ (254 - j - 121) = n ^^^ 135 * 2 ^ (126 - j) := by
      rw [show 254 - j - 128 = 126 - j by omega, show 254 - j - 127 = 1 + (126 - j) by omega, show 254 - j - 126 = 2 + (126 - j) by omega, show 254 - j - 121 = 7 + (126 - j) by omega]
      rw [Nat.one_mul, Nat.one_mul, Nat.one_mul, Nat.one_mul, Nat.pow_add 2 1, Nat.pow_add 2 2, Nat.pow_add 2 7]
      have : (135 : Nat) = 1 ^^^ 2 ^ 1 ^^^ 2 ^ 2 ^^^ 2 ^ 7 := by decide
      rw [this, Aes.mul_xor, Aes.mul_xor, Aes.mul_xor, Nat.one_mul]
      ac_rfl
    rw [e] at h2
    exact h2
  · rw [if_neg h1, if_neg h1]
    exact h
theorem reds_br {p : List Nat} {n : Nat} (h : BR p n) (j : Nat) (hj : j ≤ 127) : BR (reds p j) (rg n j) := by
  induction j with
  | zero => exact h
  | succ j ih => exact red_br (ih (by omega)) j (by omega)
theorem bit_or (a b j : Nat) : (a ||| b) / 2 ^ j % 2 = ((a / 2 ^ j % 2) ||| (b / 2 ^ j % 2)) := by
  have h := Nat.testBit_or a b j
  simp only [Nat.testBit_eq_decide_div_mod_eq] at h
  rcases Nat.mod_two_eq_zero_or_one (a / 2 ^ j) with h1 | h1 <;> rcases Nat.mod_two_eq_zero_or_one (b / 2 ^ j) with h2 | h2 <;> rcases Nat.mod_two_eq_zero_or_one ((a ||| b) / 2 ^ j) with h3 | h3 <;> simp_all
theorem bit_mod (a n j : Nat) (h : j < n) : a % 2 ^ n / 2 ^ j % 2 = a / 2 ^ j % 2 := by
  have h1 := Nat.testBit_mod_two_pow a n j
  simp only [Nat.testBit_eq_decide_div_mod_eq, h, decide_true, Bool.true_and] at h1
  rcases Nat.mod_two_eq_zero_or_one (a % 2 ^ n / 2 ^ j) with h2 | h2 <;> rcases Nat.mod_two_eq_zero_or_one (a / 2 ^ j) with h3 | h3 <;> simp_all
theorem bit_one (x k j : Nat) (hx : x < 2) : x * 2 ^ k / 2 ^ j % 2 = if k = j then x else 0 := by
  rw [bit_mul_pow]
  by_cases h : k = j
  · subst h
    rw [if_pos (Nat.le_refl _), if_pos rfl, Nat.sub_self, Nat.pow_zero, Nat.div_one, Nat.mod_eq_of_lt hx]
  · rw [if_neg h]
    by_cases h2 : k ≤ j
    · rw [if_pos h2, Nat.div_eq_of_lt (Nat.lt_of_lt_of_le hx (by
        have : 2 ^ 1 ≤ 2 ^ (j - k) := Nat.pow_le_pow_right (by decide) (by omega)
        simpa using this))]
    · rw [if_neg h2]
theorem outS_bit {p : List Nat} (hp : Bits p) (q r : Nat) (hq : q < 16) (hr : r < 8) (i : Nat) (hi : i ≤ 128) : (outS p i).getD q 0 / 2 ^ (7 - r) % 2 = if 8 * q + r < i then p.getD (8 * q + r) 0 else 0 := by
  induction i with
  | zero =>
    show (List.replicate 16 0).getD q 0 / 2 ^ (7 - r) % 2 = 0
    rw [List.getD_eq_getElem?_getD, List.getElem?_replicate, if_pos hq]
    show 0 / 2 ^ (7 - r) % 2 = 0
    rw [Nat.zero_div]
  | succ i ih =>
    have ih := ih (by omega)
    show ((outS p i).set (i / 8) ((outS p i).getD (i / 8) 0 ||| (p.getD i 0 * 2 ^ (7 - i % 8) % 256))).getD q 0 / 2 ^ (7 - r) % 2 = _
    rw [getD_set]
    by_cases h : i / 8 = q
    · rw [if_pos ⟨h, by rw [(outS_ok p i).1]; omega⟩, h, bit_or, ih, show (256 : Nat) = 2 ^ 8 from rfl, bit_mod _ _ _ (by omega), bit_one _ _ _ (hp.2 i)]
      by_cases h2 : i % 8 = r
      · have e : i = 8 * q + r := by omega
        rw [if_neg (by omega), if_pos (by omega), if_pos (by omega), ← e, Nat.zero_or]
      · rw [if_neg (show ¬ 7 - i % 8 = 7 - r by omega), Nat.or_zero]
        by_cases h3 : 8 * q + r < i
        · rw [if_pos h3, if_pos (by omega)]
        · rw [if_neg h3, if_neg (by omega)]
    · rw [if_neg (fun hh => h hh.1), ih]
      by_cases h3 : 8 * q + r < i
      · rw [if_pos h3, if_pos (by omega)]
      · rw [if_neg h3, if_neg (by omega)]
theorem product_bit (a b : List Int) (i : Nat) (hi : i < 128) : bitN (product a b) i = gm (pn b) (pn a) 128 / 2 ^ i % 2 := by
  have hb := reds_br (rows_br a b 128 (Nat.le_refl _)) 127 (Nat.le_refl _)
  have h1 : nb (product a b) (i / 8) = (outS (reds (rows a b 128) 127) 128).getD (i / 8) 0 := by
    unfold nb product
    have hl := (outS_ok (reds (rows a b 128) 127) 128).1
    simp [show i / 8 < (outS (reds (rows a b 128) 127) 128).length by rw [hl]; omega]
  unfold bitN
  rw [h1, outS_bit hb.bits (i / 8) (i % 8) (by omega) (by omega) 128 (Nat.le_refl _), if_pos (by omega), show 8 * (i / 8) + i % 8 = i by omega, hb.2 i (by omega), ← bit_mod _ 128 i hi, rg_gm _ _ (pn_lt b) (pn_lt a)]
/-- The block of a number. -/
def blkAt (n q : Nat) : Nat := ((((((n / 2 ^ (8 * q) % 2 * 2 + n / 2 ^ (8 * q + 1) % 2) * 2 + n / 2 ^ (8 * q + 2) % 2) * 2 + n / 2 ^ (8 * q + 3) % 2) * 2 + n / 2 ^ (8 * q + 4) % 2) * 2 + n / 2 ^ (8 * q + 5) % 2) * 2 + n / 2 ^ (8 * q + 6) % 2) * 2 + n / 2 ^ (8 * q + 7) % 2
def blk (n : Nat) : List Int := (List.range 16).map fun q => ((blkAt n q : Nat) : Int)
theorem blkAt_lt (n q : Nat) : blkAt n q < 256 := by
  unfold blkAt
  omega
theorem blk_length (n : Nat) : (blk n).length = 16 := by simp [blk]
theorem blk_wf (n : Nat) : ∀ x ∈ blk n, (Lit.int .u8 x).wf = true := map_wf _ _ fun q => by
  have := blkAt_lt n q
  exact u8_wf (by omega) (by omega)
theorem blk_nb (n q : Nat) (hq : q < 16) : nb (blk n) q = blkAt n q := by
  unfold blk
  unfold nb
  simp [hq]
theorem blkAt_bit (n q r : Nat) (hr : r < 8) : blkAt n q / 2 ^ (7 - r) % 2 = n / 2 ^ (8 * q + r) % 2 := by
  unfold blkAt
  rcases (show r = 0 ∨ r = 1 ∨ r = 2 ∨ r = 3 ∨ r = 4 ∨ r = 5 ∨ r = 6 ∨ r = 7 by omega) with rfl | rfl | rfl | rfl | rfl | rfl | rfl | rfl
  all_goals
    simp only [Nat.add_zero, Nat.sub_zero, Nat.reduceSub, Nat.reducePow, Nat.div_one]
    omega
theorem blk_bit (n i : Nat) (hi : i < 128) : bitN (blk n) i = n / 2 ^ i % 2 := by
  unfold bitN
  rw [blk_nb _ _ (by omega), blkAt_bit _ _ _ (by omega), show 8 * (i / 8) + i % 8 = i by omega]
theorem byte_ext (x y : Nat) (hx : x < 256) (hy : y < 256) (h : ∀ j, j < 8 → x / 2 ^ j % 2 = y / 2 ^ j % 2) : x = y := by
  have h0 := h 0 (by decide)
  have h1 := h 1 (by decide)
  have h2 := h 2 (by decide)
  have h3 := h 3 (by decide)
  have h4 := h 4 (by decide)
  have h5 := h 5 (by decide)
  have h6 := h 6 (by decide)
  have h7 := h 7 (by decide)
  omega
theorem bits_ext {a b : List Int} (ha : a.length = 16) (hb : b.length = 16) (haw : ∀ x ∈ a, (Lit.int .u8 x).wf = true) (hbw : ∀ x ∈ b, (Lit.int .u8 x).wf = true) (h : ∀ i, i < 128 → bitN a i = bitN b i) : a = b := by
  apply List.ext_getElem (by omega)
  intro q h1 h2
  have e : nb a q = nb b q := byte_ext _ _ (nb_lt haw q) (nb_lt hbw q) (fun j hj => by
    have := h (8 * q + (7 - j)) (by omega)
    unfold bitN at this
    rw [show (8 * q + (7 - j)) / 8 = q by omega, show 7 - (8 * q + (7 - j)) % 8 = j by omega] at this
    exact this)
  have ia := nb_int haw q
  have ib := nb_int hbw q
  rw [List.getD_eq_getElem?_getD, List.getElem?_eq_getElem h1] at ia
  rw [List.getD_eq_getElem?_getD, List.getElem?_eq_getElem h2] at ib
  simp only [Option.getD_some] at ia ib
  rw [ia, ib, e]
theorem product_wf (a b : List Int) : ∀ x ∈ product a b, (Lit.int .u8 x).wf = true := by
  intro x hx
  obtain ⟨n, hn, rfl⟩ := List.mem_map.1 hx
  obtain ⟨j, hj, rfl⟩ := List.getElem_of_mem hn
  have h2 := (outS_ok (reds (rows a b 128) 127) 128).2 j
  rw [List.getD_eq_getElem?_getD, List.getElem?_eq_getElem hj] at h2
  simp only [Option.getD_some] at h2
  exact u8_wf (by omega) (by omega)
/-- THE PRODUCT: the block of the product by shifts and sums. -/
theorem product_blk (a b : List Int) : product a b = blk (gm (pn b) (pn a) 128) :=
  bits_ext (by simp [product, (outS_ok _ _).1]) (blk_length _) (product_wf a b) (blk_wf _) fun i hi => by rw [product_bit a b i hi, blk_bit _ i hi]
theorem nat_ext (m n k : Nat) (hm : m < 2 ^ k) (hn : n < 2 ^ k) (h : ∀ j, j < k → m / 2 ^ j % 2 = n / 2 ^ j % 2) : m = n := by
  apply Nat.eq_of_testBit_eq
  intro j
  rw [Nat.testBit_eq_decide_div_mod_eq, Nat.testBit_eq_decide_div_mod_eq]
  by_cases hj : j < k
  · rw [h j hj]
  · have h1 : 2 ^ k ≤ 2 ^ j := Nat.pow_le_pow_right (by decide) (by omega)
    rw [Nat.div_eq_of_lt (by omega), Nat.div_eq_of_lt (by omega)]
theorem pn_blk (n : Nat) (hn : n < 2 ^ 128) : pn (blk n) = n := nat_ext _ _ 128 (pn_lt _) hn fun j hj => by rw [pn_bit _ j hj, blk_bit _ j hj]
theorem blk_pn {l : List Int} (hl : l.length = 16) (hw : ∀ x ∈ l, (Lit.int .u8 x).wf = true) : blk (pn l) = l := bits_ext (blk_length _) hl (blk_wf _) hw fun i hi => by rw [blk_bit _ i hi, pn_bit _ i hi]
end Gcm

namespace Aes
/-! the S-box from its table -/
def bT (x : Nat) : Nat := boxT.getD x 0
def subAtT (s : List Int) (p : Nat) : Int := ((bT (nb s (4 * ((p / 4 + p % 4) % 4) + p % 4)) : Nat) : Int)
def roundT (w : List Int) (r : Nat) (s : List Int) : List Int := add (if r < 10 then mixed ((List.range 16).map (subAtT s)) else (List.range 16).map (subAtT s)) w (16 * r)
def ktT (w : List Int) (i k : Nat) : Nat :=
  if i % 4 = 0 then (if k = 0 then bT (nb w (4 * i - 3)) ^^^ rcon (i / 4 - 1) else if k = 1 then bT (nb w (4 * i - 2)) else if k = 2 then bT (nb w (4 * i - 1)) else bT (nb w (4 * i - 4)))
  else nb w (4 * i - 4 + k)
def keysT (key : List Int) : Nat → List Int
  | 0 => key
  | n + 1 => keysT key n ++ (List.range 4).map fun k => ((nb (keysT key n) (4 * (n + 4) - 16 + k) ^^^ ktT (keysT key n) (n + 4) k : Nat) : Int)
def roundsT (w : List Int) (s : List Int) : Nat → List Int
  | 0 => s
  | r + 1 => roundT w (r + 1) (roundsT w s r)
def turnT (key block : List Int) : List Int := roundsT (keysT key 40) (add block (keysT key 40) 0) 10
theorem bT_eq (x : Nat) (h : x < 256) : box x = bT x := box_all x h
theorem kt_eq {w : List Int} (h : ∀ x ∈ w, (Lit.int .u8 x).wf = true) (i k : Nat) : kt w i k = ktT w i k := by
  unfold kt ktT
  simp only [bT_eq _ (nb_lt h _)]
theorem keys_eq {key : List Int} (h : ∀ x ∈ key, (Lit.int .u8 x).wf = true) (n : Nat) : keys key n = keysT key n := by
  induction n with
  | zero => rfl
  | succ n ih =>
    unfold keys keysT
    rw [← ih]
    congr 1
    apply List.map_congr_left
    intro k _
    unfold kword
    rw [kt_eq (keys_wf h n)]
theorem sub_eq {s : List Int} (h : ∀ x ∈ s, (Lit.int .u8 x).wf = true) : sub s = (List.range 16).map (subAtT s) := by
  unfold sub
  apply List.map_congr_left
  intro p _
  unfold subAt subAtT
  rw [bT_eq _ (nb_lt h _)]
theorem rounds_eq {w s : List Int} (hw : ∀ x ∈ w, (Lit.int .u8 x).wf = true) (hs : ∀ x ∈ s, (Lit.int .u8 x).wf = true) (n : Nat) : rounds w s n = roundsT w s n := by
  induction n with
  | zero => rfl
  | succ n ih =>
    unfold rounds roundsT
    rw [← ih]
    unfold round roundT
    rw [sub_eq (rounds_wf hw hs n)]
theorem turn_eq {k b : List Int} (hk : ∀ x ∈ k, (Lit.int .u8 x).wf = true) (hb : ∀ x ∈ b, (Lit.int .u8 x).wf = true) : turn k b = turnT k b := by
  unfold turn turnT
  rw [← keys_eq hk 40]
  exact rounds_eq (keys_wf hk 40) (add_wf hb (keys_wf hk 40) 0) 10
def key5 : List Int := (List.range 16).map fun i => ((i : Nat) : Int)
def block5 : List Int := (List.range 16).map fun i => ((17 * i : Nat) : Int)
theorem key5_wf : ∀ x ∈ key5, (Lit.int .u8 x).wf = true := by decide
theorem block5_wf : ∀ x ∈ block5, (Lit.int .u8 x).wf = true := by decide
theorem turn5_all : let t := turnT key5 block5; t[0]? = some 105 ∧ t[1]? = some 196 ∧ t[15]? = some 90 := by decide +kernel
theorem turn5 : (turn key5 block5)[0]? = some 105 ∧ (turn key5 block5)[1]? = some 196 ∧ (turn key5 block5)[15]? = some 90 := by
  rw [turn_eq key5_wf block5_wf]
  exact turn5_all

/-! unlike blocks stay unlike -/
theorem get16 (f : Nat → Int) (i : Nat) (h : i < 16) : ((List.range 16).map f).getD i 0 = f i := by
  rw [List.getD_eq_getElem?_getD, List.getElem?_map, List.getElem?_range h]; rfl
theorem nb16 (f : Nat → Nat) (i : Nat) (h : i < 16) : nb ((List.range 16).map fun j => ((f j : Nat) : Int)) i = f i := by
  unfold nb; rw [get16 _ i h]; rfl
theorem ext16 {s t : List Int} (hs : s.length = 16) (ht : t.length = 16) (hsw : ∀ x ∈ s, (Lit.int .u8 x).wf = true) (htw : ∀ x ∈ t, (Lit.int .u8 x).wf = true) (h : ∀ i, i < 16 → nb s i = nb t i) : s = t := by
  apply List.ext_getElem?
  intro i
  by_cases hi : i < 16
  · have h1 := nb_int hsw i
    have h2 := nb_int htw i
    rw [List.getD_eq_getElem?_getD] at h1 h2
    rw [List.getElem?_eq_getElem (by omega)] at h1 ⊢
    rw [List.getElem?_eq_getElem (by omega)] at h2 ⊢
    have h3 := h i hi
    simp only [Option.getD_some] at h1 h2
    rw [h1, h2, h3]
  · rw [List.getElem?_eq_none (by omega), List.getElem?_eq_none (by omega)]
theorem xor_cancel (a b c : Nat) (h : a ^^^ c = b ^^^ c) : a = b := by
  have := congrArg (· ^^^ c) h
  simpa [Nat.xor_assoc, Nat.xor_self, Nat.xor_zero] using this
theorem add_inj {s t w : List Int} {o : Nat} (hs : s.length = 16) (ht : t.length = 16) (hsw : ∀ x ∈ s, (Lit.int .u8 x).wf = true) (htw : ∀ x ∈ t, (Lit.int .u8 x).wf = true) (h : add s w o = add t w o) : s = t := by
  refine ext16 hs ht hsw htw fun i hi => ?_
  have h1 := congrArg (fun l => l.getD i 0) h
  simp only [add, get16 _ i hi, xorAt] at h1
  exact xor_cancel _ _ (nb w (o + i)) (by omega)
theorem sub_inj {s t : List Int} (hs : s.length = 16) (ht : t.length = 16) (hsw : ∀ x ∈ s, (Lit.int .u8 x).wf = true) (htw : ∀ x ∈ t, (Lit.int .u8 x).wf = true) (h : sub s = sub t) : s = t := by
  refine ext16 hs ht hsw htw fun i hi => ?_
  -- the byte i = 4 c + r of the block lies at 4 ((c + 4 - r) % 4) + r behind
  obtain ⟨p, hp⟩ : ∃ p, p = 4 * ((i / 4 + 4 - i % 4) % 4) + i % 4 := ⟨_, rfl⟩
  have h1 := congrArg (fun l => l.getD p 0) h
  simp only [sub, get16 _ p (show p < 16 by omega), subAt] at h1
  have h2 : 4 * ((p / 4 + p % 4) % 4) + p % 4 = i := by omega
  rw [h2] at h1
  exact box_inj _ _ (nb_lt hsw _) (nb_lt htw _) (by omega)
/-- A column's byte, mixed back. -/
def unN (a b c d : Nat) : Nat := ((tm 14 a ^^^ tm 11 b) ^^^ tm 13 c) ^^^ tm 9 d
theorem tm_zero' (x : Nat) : tm x 0 = 0 := by
  have := tm_xor x 0 0
  rw [Nat.xor_self, Nat.xor_self] at this
  exact this
theorem col_bits : ∀ i, i < 8 →
    (unN (mixN (2 ^ i) 0 0 0) (mixN 0 0 0 (2 ^ i)) (mixN 0 0 (2 ^ i) 0) (mixN 0 (2 ^ i) 0 0) = 2 ^ i) ∧
    (unN (mixN 0 (2 ^ i) 0 0) (mixN (2 ^ i) 0 0 0) (mixN 0 0 0 (2 ^ i)) (mixN 0 0 (2 ^ i) 0) = 0) ∧
    (unN (mixN 0 0 (2 ^ i) 0) (mixN 0 (2 ^ i) 0 0) (mixN (2 ^ i) 0 0 0) (mixN 0 0 0 (2 ^ i)) = 0) ∧
    (unN (mixN 0 0 0 (2 ^ i)) (mixN 0 0 (2 ^ i) 0) (mixN 0 (2 ^ i) 0 0) (mixN (2 ^ i) 0 0 0) = 0) := by decide +kernel
theorem mixN_xor (a b c d a' b' c' d' : Nat) : mixN (a ^^^ a') (b ^^^ b') (c ^^^ c') (d ^^^ d') = mixN a b c d ^^^ mixN a' b' c' d' := by
  unfold mixN
  rw [tm_xor, tm_xor]
  ac_rfl
theorem unN_xor (a b c d a' b' c' d' : Nat) : unN (a ^^^ a') (b ^^^ b') (c ^^^ c') (d ^^^ d') = unN a b c d ^^^ unN a' b' c' d' := by
  unfold unN
  rw [tm_xor, tm_xor, tm_xor, tm_xor]
  ac_rfl
/-- Mixed, then mixed back. -/
def colN (a b c d : Nat) : Nat := unN (mixN a b c d) (mixN b c d a) (mixN c d a b) (mixN d a b c)
theorem colN_xor (a b c d a' b' c' d' : Nat) : colN (a ^^^ a') (b ^^^ b') (c ^^^ c') (d ^^^ d') = colN a b c d ^^^ colN a' b' c' d' := by
  unfold colN
  rw [mixN_xor, mixN_xor, mixN_xor, mixN_xor, unN_xor]
theorem colN_id (a b c d : Nat) (ha : a < 256) (hb : b < 256) (hc : c < 256) (hd : d < 256) : colN a b c d = a := by
  have e1 : colN a 0 0 0 = a := lin_ext (fun x => colN x 0 0 0) (fun x => x) (fun x y => by have := colN_xor x 0 0 0 y 0 0 0; simpa using this) (fun _ _ => rfl) 8 (fun i hi => (col_bits i hi).1) a ha
  have e2 : colN 0 b 0 0 = 0 := lin_ext (fun x => colN 0 x 0 0) (fun _ => 0) (fun x y => by have := colN_xor 0 x 0 0 0 y 0 0; simpa using this) (fun _ _ => rfl) 8 (fun i hi => (col_bits i hi).2.1) b hb
  have e3 : colN 0 0 c 0 = 0 := lin_ext (fun x => colN 0 0 x 0) (fun _ => 0) (fun x y => by have := colN_xor 0 0 x 0 0 0 y 0; simpa using this) (fun _ _ => rfl) 8 (fun i hi => (col_bits i hi).2.2.1) c hc
  have e4 : colN 0 0 0 d = 0 := lin_ext (fun x => colN 0 0 0 x) (fun _ => 0) (fun x y => by have := colN_xor 0 0 0 x 0 0 0 y; simpa using this) (fun _ _ => rfl) 8 (fun i hi => (col_bits i hi).2.2.2) d hd
  have h1 := colN_xor a 0 0 0 0 b 0 0
  have h2 := colN_xor a b 0 0 0 0 c 0
  have h3 := colN_xor a b c 0 0 0 0 d
  simp only [Nat.xor_zero, Nat.zero_xor] at h1 h2 h3
  rw [h3, h2, h1, e1, e2, e3, e4]
  simp
theorem nb_mixed (t : List Int) (p : Nat) (h : p < 16) : nb (mixed t) p = mixN (nb t (p / 4 * 4 + p % 4)) (nb t (p / 4 * 4 + (p % 4 + 1) % 4)) (nb t (p / 4 * 4 + (p % 4 + 2) % 4)) (nb t (p / 4 * 4 + (p % 4 + 3) % 4)) := by
  unfold mixed nb
  rw [get16 _ p h]
  rfl
theorem mixed_inj {s t : List Int} (hs : s.length = 16) (ht : t.length = 16) (hsw : ∀ x ∈ s, (Lit.int .u8 x).wf = true) (htw : ∀ x ∈ t, (Lit.int .u8 x).wf = true) (h : mixed s = mixed t) : s = t := by
  refine ext16 hs ht hsw htw fun i hi => ?_
  have key : ∀ (t : List Int), (∀ x ∈ t, (Lit.int .u8 x).wf = true) → nb t i = unN (nb (mixed t) i) (nb (mixed t) (i / 4 * 4 + (i % 4 + 1) % 4)) (nb (mixed t) (i / 4 * 4 + (i % 4 + 2) % 4)) (nb (mixed t) (i / 4 * 4 + (i % 4 + 3) % 4)) := by
    intro t htw
    obtain ⟨c, hc⟩ : ∃ c, c = i / 4 * 4 := ⟨_, rfl⟩
    have hm := colN_id (nb t (c + i % 4)) (nb t (c + (i % 4 + 1) % 4)) (nb t (c + (i % 4 + 2) % 4)) (nb t (c + (i % 4 + 3) % 4)) (nb_lt htw _) (nb_lt htw _) (nb_lt htw _) (nb_lt htw _)
    rw [← hc, nb_mixed t i hi, nb_mixed t (c + (i % 4 + 1) % 4) (by omega), nb_mixed t (c + (i % 4 + 2) % 4) (by omega), nb_mixed t (c + (i % 4 + 3) % 4) (by omega)]
    rw [show (c + (i % 4 + 1) % 4) / 4 * 4 = c by omega, show (c + (i % 4 + 2) % 4) / 4 * 4 = c by omega, show (c + (i % 4 + 3) % 4) / 4 * 4 = c by omega, ← hc]
    rw [show (c + (i % 4 + 1) % 4) % 4 = (i % 4 + 1) % 4 by omega, show (c + (i % 4 + 2) % 4) % 4 = (i % 4 + 2) % 4 by omega, show (c + (i % 4 + 3) % 4) % 4 = (i % 4 + 3) % 4 by omega]
    rw [show ((i % 4 + 1) % 4 + 1) % 4 = (i % 4 + 2) % 4 by omega, show ((i % 4 + 1) % 4 + 2) % 4 = (i % 4 + 3) % 4 by omega, show ((i % 4 + 1) % 4 + 3) % 4 = i % 4 by omega]
    rw [show ((i % 4 + 2) % 4 + 1) % 4 = (i % 4 + 3) % 4 by omega, show ((i % 4 + 2) % 4 + 2) % 4 = i % 4 by omega, show ((i % 4 + 2) % 4 + 3) % 4 = (i % 4 + 1) % 4 by omega]
    rw [show ((i % 4 + 3) % 4 + 1) % 4 = i % 4 by omega, show ((i % 4 + 3) % 4 + 2) % 4 = (i % 4 + 1) % 4 by omega, show ((i % 4 + 3) % 4 + 3) % 4 = (i % 4 + 2) % 4 by omega]
    rw [show c + i % 4 = i by omega] at hm ⊢
    exact hm.symm
  rw [key s hsw, key t htw, h]
theorem round_inj {w s t : List Int} (r : Nat) (hs : s.length = 16) (ht : t.length = 16) (hsw : ∀ x ∈ s, (Lit.int .u8 x).wf = true) (htw : ∀ x ∈ t, (Lit.int .u8 x).wf = true) (h : round w r s = round w r t) : s = t := by
  unfold round at h
  refine sub_inj hs ht hsw htw ?_
  by_cases hr : r < 10
  · rw [if_pos hr, if_pos hr] at h
    exact mixed_inj (by simp [sub]) (by simp [sub]) (sub_wf s) (sub_wf t) (add_inj (by simp [mixed]) (by simp [mixed]) (mixed_wf (sub_wf s)) (mixed_wf (sub_wf t)) h)
  · rw [if_neg hr, if_neg hr] at h
    exact add_inj (by simp [sub]) (by simp [sub]) (sub_wf s) (sub_wf t) h
theorem rounds_inj {w s t : List Int} (hw : ∀ x ∈ w, (Lit.int .u8 x).wf = true) (n : Nat) (hs : s.length = 16) (ht : t.length = 16) (hsw : ∀ x ∈ s, (Lit.int .u8 x).wf = true) (htw : ∀ x ∈ t, (Lit.int .u8 x).wf = true) (h : rounds w s n = rounds w t n) : s = t := by
  induction n with
  | zero => exact h
  | succ n ih => exact ih (round_inj (n + 1) (rounds_length hs n) (rounds_length ht n) (rounds_wf hw hsw n) (rounds_wf hw htw n) h)
theorem turn_inj {k a b : List Int} (hk : ∀ x ∈ k, (Lit.int .u8 x).wf = true) (ha : a.length = 16) (hb : b.length = 16) (haw : ∀ x ∈ a, (Lit.int .u8 x).wf = true) (hbw : ∀ x ∈ b, (Lit.int .u8 x).wf = true) (h : turn k a = turn k b) : a = b :=
  add_inj ha hb haw hbw (rounds_inj (keys_wf hk 40) 10 (by simp [add]) (by simp [add]) (add_wf haw (keys_wf hk 40) 0) (add_wf hbw (keys_wf hk 40) 0) h)
end Aes

theorem zeros16_wf : ∀ x ∈ List.replicate 16 (0 : Int), (Lit.int .u8 x).wf = true := by
  intro x hx; rw [(List.mem_replicate.1 hx).2]; decide


namespace Gcm
theorem product_length (a b : List Int) : (product a b).length = 16 := by simp [product, (outS_ok _ _).1]
/-- A block with the bytes from t on, as many as there are, up to sixteen. -/
def ovAt (e b : List Int) (t i : Nat) : Int := ((nb e i ^^^ nb b (t + i) : Nat) : Int)
def ovX (e b : List Int) (t : Nat) : List Int := upd (ovAt e b t) e (min 16 (b.length - t))
/-- So many blocks gone over. -/
def ovL (h e b : List Int) : Nat → List Int
  | 0 => e
  | n + 1 => product (ovX (ovL h e b n) b (16 * n)) h
def over (h e b : List Int) : List Int := ovL h e b ((b.length + 15) / 16)
theorem ovAt_wf {e b : List Int} (he : ∀ x ∈ e, (Lit.int .u8 x).wf = true) (hb : ∀ x ∈ b, (Lit.int .u8 x).wf = true) (t i : Nat) : (Lit.int .u8 (ovAt e b t i)).wf = true := by
  have := Nat.xor_lt_two_pow (n := 8) (nb_lt he i) (nb_lt hb (t + i))
  exact u8_wf (by unfold ovAt; omega) (by unfold ovAt; omega)
theorem ovL_length (h e b : List Int) (he : e.length = 16) (n : Nat) : (ovL h e b n).length = 16 := by
  cases n with
  | zero => exact he
  | succ n => exact product_length _ _
theorem ovL_wf (h e b : List Int) (he : ∀ x ∈ e, (Lit.int .u8 x).wf = true) (n : Nat) : ∀ x ∈ ovL h e b n, (Lit.int .u8 x).wf = true := by
  cases n with
  | zero => exact he
  | succ n => exact product_wf _ _
/-- The block of two lengths, eight bytes each, after so many rounds of its loop. -/
def lens (p q : Nat) : Nat → List Int
  | 0 => List.replicate 16 0
  | i + 1 => ((lens p q i).set (7 - i) ((p / 2 ^ (8 * i) % 256 : Nat) : Int)).set (15 - i) ((q / 2 ^ (8 * i) % 256 : Nat) : Int)
theorem lens_length (p q i : Nat) : (lens p q i).length = 16 := by
  induction i with
  | zero => simp [lens]
  | succ i ih => simp [lens, ih]
theorem lens_wf (p q i : Nat) : ∀ x ∈ lens p q i, (Lit.int .u8 x).wf = true := by
  induction i with
  | zero => intro x hx; rw [lens, List.mem_replicate] at hx; rw [hx.2]; decide
  | succ i ih =>
    intro x hx
    rw [lens] at hx
    rcases List.mem_or_eq_of_mem_set hx with h | rfl
    · rcases List.mem_or_eq_of_mem_set h with h | rfl
      · exact ih x h
      · exact u8_wf (by omega) (by omega)
    · exact u8_wf (by omega) (by omega)
/-- The first bytes of two, each over the other. -/
def tagL (s k : List Int) (n : Nat) : List Int := (List.range n).map fun j => ((nb s j ^^^ nb k j : Nat) : Int)
theorem tagL_length (s k : List Int) (n : Nat) : (tagL s k n).length = n := by simp [tagL]
theorem tagL_succ (s k : List Int) (n : Nat) : tagL s k (n + 1) = tagL s k n ++ [((nb s n ^^^ nb k n : Nat) : Int)] := by simp [tagL, List.range_succ]
theorem tagL_wf {s k : List Int} (hs : ∀ x ∈ s, (Lit.int .u8 x).wf = true) (hk : ∀ x ∈ k, (Lit.int .u8 x).wf = true) (n : Nat) : ∀ x ∈ tagL s k n, (Lit.int .u8 x).wf = true := by
  intro x hx
  obtain ⟨j, _, rfl⟩ := List.mem_map.1 hx
  have := Nat.xor_lt_two_pow (n := 8) (nb_lt hs j) (nb_lt hk j)
  exact u8_wf (by omega) (by omega)
/-- A counter's block. -/
def ctr (nn : List Int) (n : Nat) : List Int := nn ++ [0, 0, ((n / 256 : Nat) : Int), ((n % 256 : Nat) : Int)]
/-- The first bytes of a text, enciphered. -/
def encL (key nn p : List Int) (n : Nat) : List Int := (List.range n).map fun j => ((nb p j ^^^ nb (Aes.turn key (ctr nn (2 + j / 16))) (j % 16) : Nat) : Int)
theorem encL_length (key nn p : List Int) (n : Nat) : (encL key nn p n).length = n := by simp [encL]
theorem encL_succ (key nn p : List Int) (n : Nat) : encL key nn p (n + 1) = encL key nn p n ++ [((nb p n ^^^ nb (Aes.turn key (ctr nn (2 + n / 16))) (n % 16) : Nat) : Int)] := by simp [encL, List.range_succ]
theorem ctr_length (nn : List Int) (h : nn.length = 12) (n : Nat) : (ctr nn n).length = 16 := by simp [ctr, h]
theorem ctr_wf {nn : List Int} (h : ∀ x ∈ nn, (Lit.int .u8 x).wf = true) (n : Nat) (hn : n < 65536) : ∀ x ∈ ctr nn n, (Lit.int .u8 x).wf = true := by
  intro x hx
  rcases List.mem_append.1 hx with h1 | h1
  · exact h x h1
  · simp only [List.mem_cons, List.not_mem_nil, or_false] at h1
    rcases h1 with rfl | rfl | rfl | rfl <;> exact u8_wf (by omega) (by omega)
/-- The key of the field. -/
def hk (key : List Int) : List Int := Aes.turn key (List.replicate 16 0)
/-- The hash of what goes along, a text, and their lengths. -/
def hash (key ad c : List Int) : List Int :=
  over (hk key) (over (hk key) (over (hk key) (List.replicate 16 0) ad) c) (lens (ad.length * 8) (c.length * 8) 8)
def sealed (key nn ad p : List Int) : List Int :=
  encL key nn p p.length ++ tagL (hash key ad (encL key nn p p.length)) (Aes.turn key (nn ++ [0, 0, 0, 1])) 16
theorem over_length (h e b : List Int) (he : e.length = 16) : (over h e b).length = 16 := ovL_length h e b he _
theorem encL_wf {key nn p : List Int} (hk : ∀ x ∈ key, (Lit.int .u8 x).wf = true) (hn : ∀ x ∈ nn, (Lit.int .u8 x).wf = true) (hp : ∀ x ∈ p, (Lit.int .u8 x).wf = true) (n : Nat) (h : n ≤ 1000000) : ∀ x ∈ encL key nn p n, (Lit.int .u8 x).wf = true := by
  intro x hx
  obtain ⟨j, hj, rfl⟩ := List.mem_map.1 hx
  have hj := List.mem_range.1 hj
  have := Nat.xor_lt_two_pow (n := 8) (nb_lt hp j) (nb_lt (Aes.turn_wf hk (ctr_wf hn (2 + j / 16) (by omega))) (j % 16))
  exact u8_wf (by omega) (by omega)

theorem enc_at (key nn p : List Int) (n j : Nat) (h : j < n) : nb (encL key nn p n) j = nb p j ^^^ nb (Aes.turn key (ctr nn (2 + j / 16))) (j % 16) := by
  unfold encL
  rw [show nb ((List.range n).map fun j => ((nb p j ^^^ nb (Aes.turn key (ctr nn (2 + j / 16))) (j % 16) : Nat) : Int)) j = (((nb p j ^^^ nb (Aes.turn key (ctr nn (2 + j / 16))) (j % 16) : Nat) : Int)).toNat by unfold nb; simp [h]]
  rfl
/-- Enciphered twice it is as it was. -/
theorem enc_enc (key nn p : List Int) (hp : ∀ x ∈ p, (Lit.int .u8 x).wf = true) : encL key nn (encL key nn p p.length) p.length = p := by
  apply List.ext_getElem (by simp [encL])
  intro j h1 h2
  have e : (encL key nn (encL key nn p p.length) p.length)[j] = ((nb (encL key nn p p.length) j ^^^ nb (Aes.turn key (ctr nn (2 + j / 16))) (j % 16) : Nat) : Int) := by
    simp [encL]
  rw [e, enc_at _ _ _ _ _ h2, Nat.xor_assoc, Nat.xor_self, Nat.xor_zero]
  have := nb_int hp j
  rw [List.getD_eq_getElem?_getD, List.getElem?_eq_getElem h2] at this
  exact this.symm
/-- The tag of what is enciphered. -/
def tag (key nn ad c : List Int) : List Int := tagL (hash key ad c) (Aes.turn key (nn ++ [0, 0, 0, 1])) 16
theorem sealed_tag (key nn ad p : List Int) : sealed key nn ad p = encL key nn p p.length ++ tag key nn ad (encL key nn p p.length) := rfl
theorem tag_length (key nn ad c : List Int) : (tag key nn ad c).length = 16 := tagL_length _ _ _
theorem sealed_length (key nn ad p : List Int) : (sealed key nn ad p).length = p.length + 16 := by rw [sealed_tag, List.length_append, encL_length, tag_length]
/-- What is opened: the text, if the tag is right. -/
def opened (key nn ad s : List Int) : Option (List Int) :=
  if tag key nn ad (s.take (s.length - 16)) = s.drop (s.length - 16) then some (encL key nn (s.take (s.length - 16)) (s.length - 16)) else none
/-- What was sealed is opened. -/
theorem opened_sealed (key nn ad p : List Int) (hp : ∀ x ∈ p, (Lit.int .u8 x).wf = true) : opened key nn ad (sealed key nn ad p) = some p := by
  have h1 : (sealed key nn ad p).take ((sealed key nn ad p).length - 16) = encL key nn p p.length := by
    rw [sealed_length, Nat.add_sub_cancel, sealed_tag, List.take_append_of_le_length (by rw [encL_length]; exact Nat.le_refl _), List.take_of_length_le (by rw [encL_length]; exact Nat.le_refl _)]
  have h2 : (sealed key nn ad p).drop ((sealed key nn ad p).length - 16) = tag key nn ad (encL key nn p p.length) := by
    rw [sealed_length, Nat.add_sub_cancel, sealed_tag, List.drop_append_of_le_length (by rw [encL_length]; exact Nat.le_refl _), List.drop_of_length_le (by rw [encL_length]; exact Nat.le_refl _), List.nil_append]
  unfold opened
  rw [h1, h2, if_pos rfl, sealed_length, Nat.add_sub_cancel, enc_enc _ _ _ hp]
/-- What is opened is what is sealed so. -/
theorem sealed_opened (key nn ad s p : List Int) (hs : ∀ x ∈ s, (Lit.int .u8 x).wf = true) (h16 : 16 ≤ s.length) (h : opened key nn ad s = some p) : sealed key nn ad p = s ∧ p.length = s.length - 16 := by
  unfold opened at h
  split at h
  · rename_i ht
    obtain rfl := Option.some.inj h
    have hl : (s.take (s.length - 16)).length = s.length - 16 := List.length_take_of_le (by omega)
    have he : encL key nn (encL key nn (s.take (s.length - 16)) (s.length - 16)) (s.length - 16) = s.take (s.length - 16) := by
      have := enc_enc key nn (s.take (s.length - 16)) (fun x hx => hs x (List.mem_of_mem_take hx))
      rwa [hl] at this
    refine ⟨?_, by rw [encL_length]⟩
    rw [sealed_tag, encL_length, he, ht, List.take_append_drop]
  · cases h
theorem gm_zero (a n : Nat) : gm a 0 n = 0 := by
  induction n with
  | zero => rfl
  | succ n ih => simp [gm, ih]
theorem product_zero (h : List Int) : product (List.replicate 16 0) h = List.replicate 16 0 := by
  rw [product_blk]
  have : pn (List.replicate 16 0) = 0 := by decide +kernel
  rw [this, gm_zero]
  decide +kernel
def zero16 : List Int := List.replicate 16 0
theorem zero16_b : zero16.length = 16 ∧ ∀ x ∈ zero16, (Lit.int .u8 x).wf = true := ⟨by decide, by decide⟩
def one16 : List Int := List.replicate 12 0 ++ [0, 0, 0, 1]
theorem one16_b : one16.length = 16 ∧ ∀ x ∈ one16, (Lit.int .u8 x).wf = true := ⟨by decide, by decide⟩
theorem tagL_at (s k : List Int) (j : Nat) (h : j < 16) : (tagL s k 16)[j]? = some ((nb s j ^^^ nb k j : Nat) : Int) := by simp [tagL, h]
theorem turn6_all : let t := Aes.turnT zero16 one16; nb t 0 = 88 ∧ nb t 1 = 226 ∧ nb t 15 = 90 := by decide +kernel
/-- The chapter's example. -/
theorem sealed6 : let s := sealed (List.replicate 16 0) (List.replicate 12 0) [] []; s.length = 16 ∧ s[0]? = some 88 ∧ s[1]? = some 226 ∧ s[15]? = some 90 := by
  have h0 : hash (List.replicate 16 0) [] [] = List.replicate 16 0 := by
    unfold hash
    have e1 : ∀ h, over h (List.replicate 16 0) [] = List.replicate 16 0 := fun h => rfl
    have e2 : lens ([] : List Int).length ([] : List Int).length 8 = List.replicate 16 0 := by decide +kernel
    rw [e1, e1, show ([] : List Int).length * 8 = ([] : List Int).length from rfl, e2]
    unfold over
    rw [show ((List.replicate 16 (0 : Int)).length + 15) / 16 = 1 by decide]
    show product (ovX (List.replicate 16 0) (List.replicate 16 0) 0) _ = _
    rw [show ovX (List.replicate 16 0) (List.replicate 16 0) 0 = List.replicate 16 0 by decide +kernel, product_zero]
  have ht := turn6_all
  rw [← Aes.turn_eq zero16_b.2 one16_b.2] at ht
  obtain ⟨t0, t1, t2⟩ := ht
  have hs : sealed (List.replicate 16 0) (List.replicate 12 0) [] [] = tagL (List.replicate 16 0) (Aes.turn zero16 one16) 16 := by
    unfold sealed
    rw [show encL (List.replicate 16 0) (List.replicate 12 0) [] ([] : List Int).length = [] from rfl, h0, List.nil_append]
    unfold zero16 one16
    rfl
  have hz : ∀ j, j < 16 → nb (List.replicate 16 0) j = 0 := by decide
  simp only [hs]
  refine ⟨tagL_length _ _ _, ?_, ?_, ?_⟩
  · rw [tagL_at _ _ _ (by decide), hz _ (by decide), t0, Nat.zero_xor]; rfl
  · rw [tagL_at _ _ _ (by decide), hz _ (by decide), t1, Nat.zero_xor]; rfl
  · rw [tagL_at _ _ _ (by decide), hz _ (by decide), t2, Nat.zero_xor]; rfl
theorem hash_wf (key ad c : List Int) : ∀ x ∈ hash key ad c, (Lit.int .u8 x).wf = true := ovL_wf _ _ _ (ovL_wf _ _ _ (ovL_wf _ _ _ zeros16_wf _) _) _
theorem tag_wf {key nn ad c : List Int} (hk : ∀ x ∈ key, (Lit.int .u8 x).wf = true) (hn : ∀ x ∈ nn, (Lit.int .u8 x).wf = true) : ∀ x ∈ tag key nn ad c, (Lit.int .u8 x).wf = true :=
  tagL_wf (hash_wf _ _ _) (Aes.turn_wf hk (fun x hx => by
    rcases List.mem_append.1 hx with h | h
    · exact hn x h
    · exact (show ∀ y ∈ [(0 : Int), 0, 0, 1], (Lit.int .u8 y).wf = true by decide) x h)) _
theorem sealed_wf {key nn ad p : List Int} (hk : ∀ x ∈ key, (Lit.int .u8 x).wf = true) (hn : ∀ x ∈ nn, (Lit.int .u8 x).wf = true) (hp : ∀ x ∈ p, (Lit.int .u8 x).wf = true) (hl : p.length ≤ 1000000) : ∀ x ∈ sealed key nn ad p, (Lit.int .u8 x).wf = true := by
  intro x hx
  rw [sealed_tag] at hx
  rcases List.mem_append.1 hx with h | h
  · exact encL_wf hk hn hp _ hl x h
  · exact tag_wf hk hn x h
end Gcm
end Go.Proofs.Ytlkjngbelckgkaa
