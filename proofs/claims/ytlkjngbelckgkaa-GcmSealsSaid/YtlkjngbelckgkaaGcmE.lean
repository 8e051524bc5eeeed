/-
  The landed field's elements as numbers: their bits, sums, times x, the product; blocks as elements; nothing of the program.
-/
import Derived.Test.YtlkjngbelckgkaaGcmPQ
namespace Go.Proofs.Ytlkjngbelckgkaa
open Go.RowKit

namespace Gcm
/-- A number's 128 bits, the other way round. -/
def rvk (a : Nat) : Nat → Nat
  | 0 => 0
  | n + 1 => rvk a n ^^^ (a / 2 ^ n % 2 * 2 ^ (127 - n))
def rv (a : Nat) : Nat := rvk a 128
theorem rvk_xor (a b n : Nat) : rvk (a ^^^ b) n = rvk a n ^^^ rvk b n := by
  induction n with
  | zero => simp [rvk]
  | succ n ih =>
    simp only [rvk, ih, bit_xor, Aes.mul_xor]
    ac_rfl
theorem two_lt (x d : Nat) (hx : x < 2) (hd : 0 < d) : x / 2 ^ d % 2 = 0 := by
  rw [Nat.div_eq_of_lt (Nat.lt_of_lt_of_le hx (by
    have : 2 ^ 1 ≤ 2 ^ d := Nat.pow_le_pow_right (by decide) hd
    simpa using this))]
theorem rvk_bit (a n j : Nat) (hn : n ≤ 128) (hj : j < 128) : rvk a n / 2 ^ j % 2 = if 127 - j < n then a / 2 ^ (127 - j) % 2 else 0 := by
  induction n with
  | zero => simp [rvk]
  | succ n ih =>
    rw [rvk, bit_xor, ih (by omega), bit_mul_pow]
    have h2 := Nat.mod_lt (a / 2 ^ n) (show 0 < 2 by decide)
    by_cases h : 127 - j < n
    · rw [if_pos h, if_pos (by omega), if_pos (by omega), two_lt _ _ h2 (by omega), Nat.xor_zero]
    · rw [if_neg h]
      by_cases h3 : 127 - j = n
      · rw [if_pos (by omega), if_pos (by omega), show j - (127 - n) = 0 by omega, Nat.pow_zero, Nat.div_one, Nat.zero_xor, h3, Nat.mod_mod]
      · rw [if_neg (by omega), if_neg (by omega), Nat.xor_zero]
theorem rv_bit (a j : Nat) (hj : j < 128) : rv a / 2 ^ j % 2 = a / 2 ^ (127 - j) % 2 := by
  unfold rv
  rw [rvk_bit a 128 j (Nat.le_refl _) hj, if_pos (by omega)]
theorem rvk_lt (a n : Nat) : rvk a n < 2 ^ 128 := by
  induction n with
  | zero => exact (by decide : (0 : Nat) < 2 ^ 128)
  | succ n ih =>
    refine Nat.xor_lt_two_pow ih ?_
    have h1 := Nat.mod_lt (a / 2 ^ n) (show 0 < 2 by decide)
    have h2 : 2 ^ (127 - n) ≤ 2 ^ 127 := Nat.pow_le_pow_right (by decide) (by omega)
    have h3 : a / 2 ^ n % 2 * 2 ^ (127 - n) ≤ 1 * 2 ^ (127 - n) := Nat.mul_le_mul_right _ (by omega)
    omega
theorem rv_lt (a : Nat) : rv a < 2 ^ 128 := rvk_lt a 128
theorem rv_xor (a b : Nat) : rv (a ^^^ b) = rv a ^^^ rv b := rvk_xor a b 128
/-- Times x, as the landed code has it. -/
def up (n : Nat) : Nat := n / 2 ^ 1 ^^^ (n % 2 * (225 * 2 ^ 120))
theorem div_xor (a b k : Nat) : (a ^^^ b) / 2 ^ k = (a / 2 ^ k) ^^^ (b / 2 ^ k) := by
  simp only [← Nat.shiftRight_eq_div_pow]
  exact Nat.shiftRight_xor_distrib
theorem up_xor (a b : Nat) : up (a ^^^ b) = up a ^^^ up b := by
  have h1 : ∀ x y, x < 2 → y < 2 → (x ^^^ y) * (225 * 2 ^ 120) = (x * (225 * 2 ^ 120)) ^^^ (y * (225 * 2 ^ 120)) := by
    intro x y hx hy
    rcases (show x = 0 ∨ x = 1 by omega) with rfl | rfl <;> rcases (show y = 0 ∨ y = 1 by omega) with rfl | rfl <;> decide
  have h2 : (a ^^^ b) % 2 = (a % 2) ^^^ (b % 2) := by
    have := Nat.xor_mod_two_pow (a := a) (b := b) (n := 1)
    simpa using this
  unfold up
  rw [div_xor, h2, h1 _ _ (Nat.mod_lt _ (by decide)) (Nat.mod_lt _ (by decide))]
  ac_rfl
theorem up_bits : ∀ i, i < 128 → rv (mx (2 ^ i)) = up (rv (2 ^ i)) := by decide +kernel
theorem rv_mx (a : Nat) (ha : a < 2 ^ 128) : rv (mx a) = up (rv a) :=
  Aes.lin_ext (fun x => rv (mx x)) (fun x => up (rv x)) (fun x y => by simp only [mx_xor, rv_xor]) (fun x y => by simp only [rv_xor, up_xor]) 128 up_bits a ha
def upi (a : Nat) : Nat → Nat
  | 0 => a
  | k + 1 => up (upi a k)
theorem rv_mxi (a k : Nat) (ha : a < 2 ^ 128) : rv (mxi a k) = upi (rv a) k := by
  induction k with
  | zero => rfl
  | succ k ih => simp only [mxi, upi, rv_mx _ (mxi_lt a k ha), ih]
theorem up_lt (n : Nat) (hn : n < 2 ^ 128) : up n < 2 ^ 128 := by
  unfold up
  refine Nat.xor_lt_two_pow (by omega) ?_
  have := Nat.mod_lt n (show 0 < 2 by decide)
  rcases (show n % 2 = 0 ∨ n % 2 = 1 by omega) with h | h <;> rw [h] <;> decide
theorem upi_lt (n k : Nat) (hn : n < 2 ^ 128) : upi n k < 2 ^ 128 := by
  induction k with
  | zero => exact hn
  | succ k ih => exact up_lt _ ih
/-- The landed product, behind so many bits. -/
def pr (e f : Nat) : Nat → Nat
  | 0 => 0
  | i + 1 => if e / 2 ^ (127 - i) % 2 = 1 then pr e f i ^^^ upi f i else pr e f i
theorem pr_lt (e f i : Nat) (hf : f < 2 ^ 128) : pr e f i < 2 ^ 128 := by
  induction i with
  | zero => exact (by decide : (0 : Nat) < 2 ^ 128)
  | succ i ih =>
    unfold pr
    split
    · exact Nat.xor_lt_two_pow ih (upi_lt f i hf)
    · exact ih
theorem rv_zero : rv 0 = 0 := by decide +kernel
theorem pr_gm (a b i : Nat) (ha : a < 2 ^ 128) (hi : i ≤ 128) : pr (rv b) (rv a) i = rv (gm a b i) := by
  induction i with
  | zero => exact rv_zero.symm
  | succ i ih =>
    unfold pr gm
    rw [rv_bit b (127 - i) (by omega), show 127 - (127 - i) = i by omega, ih (by omega)]
    split
    · rw [rv_xor, rv_mxi a i ha]
    · rfl
/-- A block as an element. -/
def en (l : List Int) : Nat := rv (pn l)
theorem en_lt (l : List Int) : en l < 2 ^ 128 := rv_lt _
theorem en_bit (l : List Int) (j : Nat) (hj : j < 128) : en l / 2 ^ j % 2 = bitN l (127 - j) := by
  unfold en
  rw [rv_bit _ j hj, pn_bit l _ (by omega)]
/-- THE PRODUCT, as the landed code has it. -/
theorem en_product (a b : List Int) : en (product a b) = pr (en a) (en b) 128 := by
  unfold en
  rw [product_blk, pn_blk _ (gm_lt _ _ _ (pn_lt b)), pr_gm _ _ _ (pn_lt b) (Nat.le_refl _)]
theorem en_xor (a b c : List Int) (h : ∀ i, i < 16 → nb c i = nb a i ^^^ nb b i) : en c = en a ^^^ en b := by
  refine nat_ext _ _ 128 (en_lt _) (Nat.xor_lt_two_pow (en_lt a) (en_lt b)) fun j hj => ?_
  rw [bit_xor, en_bit a j hj, en_bit b j hj, en_bit c j hj]
  unfold bitN
  rw [h _ (by omega), bit_xor]
theorem en_inj {a b : List Int} (ha : a.length = 16) (hb : b.length = 16) (haw : ∀ x ∈ a, (Lit.int .u8 x).wf = true) (hbw : ∀ x ∈ b, (Lit.int .u8 x).wf = true) (h : en a = en b) : a = b := by
  refine bits_ext ha hb haw hbw fun i hi => ?_
  have h1 := en_bit a (127 - i) (by omega)
  have h2 := en_bit b (127 - i) (by omega)
  rw [show 127 - (127 - i) = i by omega] at h1 h2
  rw [← h1, ← h2, h]
/-- The bytes from t on, as many as n, big-endian. -/
def bE (t : Nat) (l : List Int) : Nat → Nat
  | 0 => 0
  | n + 1 => bE t l n * 256 + nb l (t + n)
theorem bE_lt (t : Nat) {l : List Int} (hl : ∀ x ∈ l, (Lit.int .u8 x).wf = true) (n : Nat) : bE t l n < 256 ^ n := by
  induction n with
  | zero => exact (by decide : 0 < 1)
  | succ n ih =>
    have := nb_lt hl (t + n)
    rw [bE, Nat.pow_succ]
    omega
theorem bE_bit (t : Nat) {l : List Int} (hl : ∀ x ∈ l, (Lit.int .u8 x).wf = true) (n j : Nat) (hj : j < 8 * n) : bE t l n / 2 ^ j % 2 = nb l (t + (n - 1 - j / 8)) / 2 ^ (j % 8) % 2 := by
  induction n generalizing j with
  | zero => omega
  | succ n ih =>
    have hc := nb_lt hl (t + n)
    have h := Nat.testBit_two_pow_mul_add (bE t l n) (b := nb l (t + n)) (i := 8) (by omega) j
    rw [Nat.testBit_eq_decide_div_mod_eq, Nat.testBit_eq_decide_div_mod_eq, Nat.testBit_eq_decide_div_mod_eq, show 2 ^ 8 * bE t l n + nb l (t + n) = bE t l (n + 1) by rw [bE]; omega] at h
    by_cases h8 : j < 8
    · rw [if_pos h8] at h
      rw [show t + (n + 1 - 1 - j / 8) = t + n by omega, show j % 8 = j by omega]
      have := decide_eq_decide.1 h
      rcases Nat.mod_two_eq_zero_or_one (bE t l (n + 1) / 2 ^ j) with h1 | h1 <;> rcases Nat.mod_two_eq_zero_or_one (nb l (t + n) / 2 ^ j) with h2 | h2 <;> simp_all
    · rw [if_neg h8] at h
      have h9 := ih (j - 8) (by omega)
      rw [show t + (n - 1 - (j - 8) / 8) = t + (n + 1 - 1 - j / 8) by omega, show (j - 8) % 8 = j % 8 by omega] at h9
      rw [← h9]
      have := decide_eq_decide.1 h
      rcases Nat.mod_two_eq_zero_or_one (bE t l (n + 1) / 2 ^ j) with h1 | h1 <;> rcases Nat.mod_two_eq_zero_or_one (bE t l n / 2 ^ (j - 8)) with h2 | h2 <;> simp_all
theorem en_bE {l : List Int} (hl : ∀ x ∈ l, (Lit.int .u8 x).wf = true) : en l = bE 0 l 16 := by
  refine nat_ext _ _ 128 (en_lt _) (bE_lt 0 hl 16) fun j hj => ?_
  rw [en_bit l j hj, bE_bit 0 hl 16 j (by omega)]
  unfold bitN
  rw [show (127 - j) / 8 = 0 + (16 - 1 - j / 8) by omega, show 7 - (127 - j) % 8 = j % 8 by omega]
theorem bE_two (l : List Int) : bE 0 l 16 = bE 0 l 8 * 2 ^ 64 + bE 8 l 8 := by
  simp only [bE, Nat.reduceAdd, Nat.zero_add]
  omega
theorem en_hi {l : List Int} (hl : ∀ x ∈ l, (Lit.int .u8 x).wf = true) : en l / 2 ^ 64 = bE 0 l 8 := by
  rw [en_bE hl, bE_two]
  have := bE_lt 8 hl 8
  omega
theorem en_lo {l : List Int} (hl : ∀ x ∈ l, (Lit.int .u8 x).wf = true) : en l % 2 ^ 64 = bE 8 l 8 := by
  rw [en_bE hl, bE_two]
  have := bE_lt 8 hl 8
  omega
theorem bE_byte (t : Nat) {l : List Int} (hl : ∀ x ∈ l, (Lit.int .u8 x).wf = true) (n i : Nat) (hi : i < n) : bE t l n / 256 ^ (n - 1 - i) % 256 = nb l (t + i) := by
  induction n with
  | zero => omega
  | succ n ih =>
    have hc := nb_lt hl (t + n)
    rw [bE]
    by_cases h : i = n
    · subst h
      rw [show i + 1 - 1 - i = 0 by omega, Nat.pow_zero, Nat.div_one]
      omega
    · rw [show n + 1 - 1 - i = (n - 1 - i) + 1 by omega, Nat.pow_succ, Nat.mul_comm (256 ^ _) 256, ← Nat.div_div_eq_div_mul, show (bE t l n * 256 + nb l (t + n)) / 256 = bE t l n by omega]
      exact ih (by omega)
/-- The two lengths' block as an element. -/
theorem en_lens (p q : Nat) (hp : p < 2 ^ 64) (hq : q < 2 ^ 64) : en (lens p q 8) = p * 2 ^ 64 + q := by
  have hw := lens_wf p q 8
  rw [en_bE hw, bE_two]
  have e : ∀ j, j < 8 → nb (lens p q 8) j = p / 2 ^ (8 * (7 - j)) % 256 ∧ nb (lens p q 8) (8 + j) = q / 2 ^ (8 * (7 - j)) % 256 := by
    intro j hj
    rcases (show j = 0 ∨ j = 1 ∨ j = 2 ∨ j = 3 ∨ j = 4 ∨ j = 5 ∨ j = 6 ∨ j = 7 by omega) with rfl | rfl | rfl | rfl | rfl | rfl | rfl | rfl
    all_goals
      constructor
      · simp [lens, nb]
        try omega
      · simp [lens, nb]
        try omega
  have f1 : ∀ n, n ≤ 8 → bE 0 (lens p q 8) n = p / 2 ^ (8 * (8 - n)) := by
    intro n
    induction n with
    | zero => intro _; rw [bE, Nat.div_eq_of_lt (by simpa using hp)]
    | succ n ih =>
      intro hn
      rw [bE, ih (by omega), Nat.zero_add, (e n (by omega)).1, show 8 * (8 - n) = 8 * (8 - (n + 1)) + 8 by omega, Nat.pow_add, ← Nat.div_div_eq_div_mul, show 8 * (7 - n) = 8 * (8 - (n + 1)) by omega]
      omega
  have f2 : ∀ n, n ≤ 8 → bE 8 (lens p q 8) n = q / 2 ^ (8 * (8 - n)) := by
    intro n
    induction n with
    | zero => intro _; rw [bE, Nat.div_eq_of_lt (by simpa using hq)]
    | succ n ih =>
      intro hn
      rw [bE, ih (by omega), (e n (by omega)).2, show 8 * (8 - n) = 8 * (8 - (n + 1)) + 8 by omega, Nat.pow_add, ← Nat.div_div_eq_div_mul, show 8 * (7 - n) = 8 * (8 - (n + 1)) by omega]
      omega
  rw [f1 8 (by omega), f2 8 (by omega)]
  simp
/-- The first sixteen bytes, zeros behind. -/
def pad (l : List Int) : List Int := l.take 16 ++ List.replicate (16 - l.length) 0
theorem pad_length (l : List Int) : (pad l).length = 16 := by simp [pad]; omega
theorem pad_wf {l : List Int} (hl : ∀ x ∈ l, (Lit.int .u8 x).wf = true) : ∀ x ∈ pad l, (Lit.int .u8 x).wf = true := by
  intro x hx
  rcases List.mem_append.1 hx with h | h
  · exact hl x (List.mem_of_mem_take h)
  · rw [(List.mem_replicate.1 h).2]; decide
theorem pad_nb (l : List Int) (i : Nat) (hi : i < 16) : nb (pad l) i = nb l i := by
  unfold nb pad
  by_cases h : i < l.length
  · rw [List.getD_eq_getElem?_getD, List.getElem?_append_left (by simp; omega), List.getElem?_take_of_lt hi, List.getD_eq_getElem?_getD]
  · rw [List.getD_eq_getElem?_getD, List.getElem?_append_right (by simp; omega), List.getElem?_replicate, List.getD_eq_getElem?_getD, List.getElem?_eq_none (by omega)]
    split <;> rfl
theorem nb_drop (l : List Int) (t i : Nat) : nb (l.drop t) i = nb l (t + i) := by
  unfold nb
  rw [List.getD_eq_getElem?_getD, List.getElem?_drop, List.getD_eq_getElem?_getD]
theorem nb_upd (f : Nat → Int) (s : List Int) (n i : Nat) (hn : n ≤ s.length) : nb (upd f s n) i = if i < n then (f i).toNat else nb s i := by
  by_cases h : i < n
  · rw [if_pos h]
    unfold nb upd
    rw [List.getD_eq_getElem?_getD, List.getElem?_append_left (by simpa using h)]
    simp [h]
  · rw [if_neg h]
    unfold nb
    rw [upd_get f s n i (by omega)]
theorem nb_none (l : List Int) (i : Nat) (h : l.length ≤ i) : nb l i = 0 := by
  unfold nb
  rw [List.getD_eq_getElem?_getD, List.getElem?_eq_none h]; rfl
theorem en_ovX (e b : List Int) (he : e.length = 16) (t : Nat) : en (ovX e b t) = en e ^^^ en (pad (b.drop t)) := by
  refine en_xor _ _ _ fun i hi => ?_
  unfold ovX
  rw [nb_upd _ _ _ _ (by omega), pad_nb _ i hi, nb_drop]
  split
  · unfold ovAt; omega
  · rw [nb_none b (t + i) (by omega), Nat.xor_zero]
/-- A round of the landed hash. -/
theorem en_ovL (h e b : List Int) (he : e.length = 16) (n : Nat) : en (ovL h e b (n + 1)) = pr (en (ovL h e b n) ^^^ en (pad (b.drop (16 * n)))) (en h) 128 := by
  show en (product (ovX (ovL h e b n) b (16 * n)) h) = _
  rw [en_product, en_ovX _ _ (ovL_length h e b he n)]
theorem en_zero : en (List.replicate 16 0) = 0 := by decide +kernel
theorem en_tag (s k : List Int) : en (tagL s k 16) = en s ^^^ en k := by
  refine en_xor _ _ _ fun i hi => ?_
  unfold nb
  rw [List.getD_eq_getElem?_getD, tagL_at s k i hi]
  simp [nb]
/-- The landed tag. -/
theorem en_hash (key ad c : List Int) : en (hash key ad c) = pr (en (over (hk key) (over (hk key) (List.replicate 16 0) ad) c) ^^^ en (lens (ad.length * 8) (c.length * 8) 8)) (en (hk key)) 128 := by
  unfold hash
  generalize hx : over (hk key) (over (hk key) (List.replicate 16 0) ad) c = x
  have hl : x.length = 16 := by rw [← hx]; exact over_length _ _ _ (over_length _ _ _ (by simp))
  unfold over
  rw [lens_length]
  have hp : ∀ l : List Int, l.length = 16 → pad (l.drop (16 * 0)) = l := fun l h => by
    unfold pad
    rw [Nat.mul_zero, List.drop_zero, List.take_of_length_le (by omega), h]
    simp
  rw [show (16 + 15) / 16 = 0 + 1 from rfl, en_ovL _ _ _ hl 0, hp _ (lens_length _ _ _), show ovL (hk key) x (lens (ad.length * 8) (c.length * 8) 8) 0 = x from rfl]
end Gcm
end Go.Proofs.Ytlkjngbelckgkaa
