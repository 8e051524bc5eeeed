/-
  The field of 256 elements, the S-box, rounds: pure functions, and what holds of them; nothing of the program.
-/
import Derived.Test.YtlkjngbelckgkaaGen
namespace Go.Proofs.Ytlkjngbelckgkaa

namespace Aes
/-- The product of two polynomials: so many bits of b. -/
def clm (a b : Nat) : Nat → Nat
  | 0 => 0
  | i + 1 => if b / 2 ^ i % 2 = 1 then clm a b i ^^^ (a * 2 ^ i) else clm a b i
/-- What is left of it, from bit 14 on downwards: so many steps. -/
def rd (n : Nat) : Nat → Nat
  | 0 => n
  | j + 1 => if rd n j / 2 ^ (14 - j) % 2 = 1 then rd n j ^^^ (283 * 2 ^ (6 - j)) else rd n j
def tm (a b : Nat) : Nat := rd (clm a b 8) 7 % 256

theorem xor_bit (a b i : Nat) : ((a ^^^ b) / 2 ^ i % 2 = 1) ↔ ¬ ((a / 2 ^ i % 2 = 1) ↔ (b / 2 ^ i % 2 = 1)) := by
  have h := Nat.testBit_xor a b i
  simp only [Nat.testBit_eq_decide_div_mod_eq] at h
  by_cases h1 : a / 2 ^ i % 2 = 1 <;> by_cases h2 : b / 2 ^ i % 2 = 1 <;> simp_all
theorem clm_zero (a i : Nat) : clm a 0 i = 0 := by
  induction i with
  | zero => rfl
  | succ i ih => simp [clm, ih]
theorem clm_xor (a b c i : Nat) : clm a (b ^^^ c) i = clm a b i ^^^ clm a c i := by
  induction i with
  | zero => simp [clm]
  | succ i ih =>
    simp only [clm, ih]
    have := xor_bit b c i
    by_cases h1 : b / 2 ^ i % 2 = 1 <;> by_cases h2 : c / 2 ^ i % 2 = 1 <;> simp only [h1, h2, if_true, if_false] <;> simp only [h1, h2] at this <;> simp only [this]
    · simp only [not_true_eq_false, if_false]
      rw [show clm a b i ^^^ a * 2 ^ i ^^^ (clm a c i ^^^ a * 2 ^ i) = clm a b i ^^^ clm a c i ^^^ (a * 2 ^ i ^^^ a * 2 ^ i) by ac_rfl, Nat.xor_self, Nat.xor_zero]
    · simp; ac_rfl
    · simp; ac_rfl
    · simp
theorem mul_xor (a b i : Nat) : (a ^^^ b) * 2 ^ i = (a * 2 ^ i) ^^^ (b * 2 ^ i) := by
  simp only [← Nat.shiftLeft_eq]
  exact Nat.shiftLeft_xor_distrib
theorem clm_xor' (a b c i : Nat) : clm (a ^^^ b) c i = clm a c i ^^^ clm b c i := by
  induction i with
  | zero => simp [clm]
  | succ i ih =>
    simp only [clm, ih, mul_xor]
    by_cases h1 : c / 2 ^ i % 2 = 1
    · simp only [h1, if_true]; ac_rfl
    · simp only [h1, if_false]
theorem rd_xor (n m j : Nat) : rd (n ^^^ m) j = rd n j ^^^ rd m j := by
  induction j with
  | zero => rfl
  | succ j ih =>
    simp only [rd, ih]
    have := xor_bit (rd n j) (rd m j) (14 - j)
    generalize 283 * 2 ^ (6 - j) = y
    by_cases h1 : rd n j / 2 ^ (14 - j) % 2 = 1 <;> by_cases h2 : rd m j / 2 ^ (14 - j) % 2 = 1 <;> simp only [h1, h2, if_true, if_false] <;> simp only [h1, h2] at this <;> simp only [this]
    · simp only [not_true_eq_false, if_false]
      rw [show rd n j ^^^ y ^^^ (rd m j ^^^ y) = rd n j ^^^ rd m j ^^^ (y ^^^ y) by ac_rfl, Nat.xor_self, Nat.xor_zero]
    · simp; ac_rfl
    · simp; ac_rfl
    · simp
theorem tm_xor (a b c : Nat) : tm a (b ^^^ c) = tm a b ^^^ tm a c := by
  unfold tm
  rw [clm_xor, rd_xor]
  exact Nat.xor_mod_two_pow (n := 8)
theorem tm_xor' (a b c : Nat) : tm (a ^^^ b) c = tm a c ^^^ tm b c := by
  unfold tm
  rw [clm_xor', rd_xor]
  exact Nat.xor_mod_two_pow (n := 8)
theorem tm_lt (a b : Nat) : tm a b < 256 := Nat.mod_lt _ (by decide)
/-- Two functions that go along with xor and agree on the bits agree. -/
theorem lin_ext (F G : Nat → Nat) (hF : ∀ x y, F (x ^^^ y) = F x ^^^ F y) (hG : ∀ x y, G (x ^^^ y) = G x ^^^ G y) (n : Nat) (h : ∀ i, i < n → F (2 ^ i) = G (2 ^ i)) : ∀ x, x < 2 ^ n → F x = G x := by
  have z : ∀ F : Nat → Nat, (∀ x y, F (x ^^^ y) = F x ^^^ F y) → F 0 = 0 := fun F hF => by
    have := hF 0 0
    rw [Nat.xor_self, Nat.xor_self] at this
    exact this
  induction n with
  | zero =>
    intro x hx
    obtain rfl : x = 0 := by simpa using hx
    rw [z F hF, z G hG]
  | succ n ih =>
    intro x hx
    by_cases hl : x < 2 ^ n
    · exact ih (fun i hi => h i (by omega)) x hl
    · have he : x = 2 ^ n ^^^ (x - 2 ^ n) := by
        have h1 : x - 2 ^ n < 2 ^ n := by rw [Nat.pow_succ] at hx; omega
        have h2 : 2 ^ n * 1 + (x - 2 ^ n) = 2 ^ n * 1 ||| (x - 2 ^ n) := Nat.two_pow_add_eq_or_of_lt h1 1
        have h3 : 2 ^ n ^^^ (x - 2 ^ n) = 2 ^ n ||| (x - 2 ^ n) := by
          apply Nat.eq_of_testBit_eq
          intro i
          rw [Nat.testBit_xor, Nat.testBit_or, Nat.testBit_two_pow]
          by_cases hi : n = i
          · subst hi
            rw [Nat.testBit_lt_two_pow h1]; simp
          · simp [hi]
        rw [h3]
        simp only [Nat.mul_one] at h2
        rw [← h2]
        omega
      rw [he, hF, hG, h n (by omega), ih (fun i hi => h i (by omega)) _ (by rw [Nat.pow_succ] at hx; omega)]
theorem tm_bits_comm : ∀ i, i < 8 → ∀ j, j < 8 → tm (2 ^ i) (2 ^ j) = tm (2 ^ j) (2 ^ i) := by decide +kernel
theorem tm_bits_assoc : ∀ i, i < 8 → ∀ j, j < 8 → ∀ k, k < 8 → tm (2 ^ i) (tm (2 ^ j) (2 ^ k)) = tm (tm (2 ^ i) (2 ^ j)) (2 ^ k) := by decide +kernel
theorem tm_comm (a b : Nat) (ha : a < 256) (hb : b < 256) : tm a b = tm b a := by
  refine lin_ext (fun x => tm x b) (fun x => tm b x) (fun x y => tm_xor' x y b) (fun x y => tm_xor b x y) 8 (fun i hi => ?_) a ha
  exact lin_ext (fun y => tm (2 ^ i) y) (fun y => tm y (2 ^ i)) (fun x y => tm_xor _ x y) (fun x y => tm_xor' x y _) 8 (fun j hj => tm_bits_comm i hi j hj) b hb
theorem tm_assoc (a b c : Nat) (ha : a < 256) (hb : b < 256) (hc : c < 256) : tm a (tm b c) = tm (tm a b) c := by
  refine lin_ext (fun x => tm x (tm b c)) (fun x => tm (tm x b) c) (fun x y => tm_xor' x y _) (fun x y => by simp only [tm_xor']) 8 (fun i hi => ?_) a ha
  refine lin_ext (fun y => tm (2 ^ i) (tm y c)) (fun y => tm (tm (2 ^ i) y) c) (fun x y => by simp only [tm_xor', tm_xor]) (fun x y => by simp only [tm_xor', tm_xor]) 8 (fun j hj => ?_) b hb
  exact lin_ext (fun z => tm (2 ^ i) (tm (2 ^ j) z)) (fun z => tm (tm (2 ^ i) (2 ^ j)) z) (fun x y => by simp only [tm_xor]) (fun x y => by simp only [tm_xor]) 8 (fun k hk => tm_bits_assoc i hi j hj k hk) c hc
end Aes
end Go.Proofs.Ytlkjngbelckgkaa
