/-
  Plain facts on numbers as big-endian bytes; nothing of the program.
-/
import Derived.Test.YtiiifcfgfmoiaaaBase
namespace Go.Proofs.Ytiiifcfgfmoiaaa
open Go.RowKit

/-- How many bytes the shortest encoding has. -/
def vlen (n : Int) : Int := if n < 64 then 1 else if n < 16384 then 2 else if n < 1073741824 then 4 else if n ≤ 4611686018427387903 then 8 else 0
/-- Bytes read as one number, behind a. -/
def be (a : Int) (l : List Int) : Int := l.foldl (fun a x => a * 256 + x) a
/-- The k lowest bytes of m, the highest first. -/
def bb (m : Int) : Nat → List Int
  | 0 => []
  | k + 1 => (m / 256 ^ k % 256) :: bb m k

theorem be_nil (a : Int) : be a [] = a := rfl
theorem be_cons (a x : Int) (l : List Int) : be a (x :: l) = be (a * 256 + x) l := rfl
theorem be_snoc (a x : Int) (l : List Int) : be a (l ++ [x]) = be a l * 256 + x := by simp [be]
theorem pow_pos' (k : Nat) : (0 : Int) < 256 ^ k := Int.pow_pos (by omega)
theorem pow6 (k : Nat) (h : k ≤ 6) : (256 : Int) ^ k ≤ 281474976710656 := by
  rcases (show k = 0 ∨ k = 1 ∨ k = 2 ∨ k = 3 ∨ k = 4 ∨ k = 5 ∨ k = 6 by omega) with rfl | rfl | rfl | rfl | rfl | rfl | rfl <;> decide
theorem be_bound (a : Int) (l : List Int) (ha : 0 ≤ a) (hl : ∀ x ∈ l, 0 ≤ x ∧ x ≤ 255) : 0 ≤ be a l ∧ be a l < (a + 1) * 256 ^ l.length := by
  induction l generalizing a with
  | nil => simp [be]; omega
  | cons x l ih =>
    have hx := hl x (by simp)
    have := ih (a * 256 + x) (by omega) (fun y hy => hl y (by simp [hy]))
    rw [be_cons, List.length_cons, Int.pow_succ]
    refine ⟨this.1, Int.lt_of_lt_of_le this.2 ?_⟩
    have h1 : (a * 256 + x + 1) ≤ (a + 1) * 256 := by omega
    have h2 := Int.mul_le_mul_of_nonneg_right h1 (Int.le_of_lt (pow_pos' l.length))
    calc (a * 256 + x + 1) * 256 ^ l.length ≤ (a + 1) * 256 * 256 ^ l.length := h2
      _ = (a + 1) * (256 ^ l.length * 256) := by rw [Int.mul_assoc, Int.mul_comm 256]
theorem bb_length (m : Int) (k : Nat) : (bb m k).length = k := by
  induction k with
  | zero => rfl
  | succ k ih => simp [bb, ih]
theorem bb_wf (m : Int) (k : Nat) : ∀ x ∈ bb m k, 0 ≤ x ∧ x ≤ 255 := by
  induction k with
  | zero => simp [bb]
  | succ k ih =>
    intro x hx
    simp only [bb, List.mem_cons] at hx
    rcases hx with rfl | hx
    · omega
    · exact ih x hx
theorem bb_get (m : Int) (k j : Nat) (h : j < k) : (bb m k)[j]? = some (m / 256 ^ (k - 1 - j) % 256) := by
  induction k generalizing j with
  | zero => omega
  | succ k ih =>
    cases j with
    | zero => simp [bb]
    | succ j =>
      simp only [bb, List.getElem?_cons_succ]
      rw [ih j (by omega)]
      congr 4
      omega
theorem bb_take_succ (m : Int) (k j : Nat) (h : j < k) : (bb m k).take (j + 1) = (bb m k).take j ++ [m / 256 ^ (k - 1 - j) % 256] := by
  rw [List.take_add_one, bb_get m k j h]
  rfl
theorem be_bb (a m : Int) (k : Nat) : be a (bb m k) = a * 256 ^ k + m % 256 ^ k := by
  induction k generalizing a with
  | zero => simp [bb, be]
  | succ k ih =>
    rw [bb, be_cons, ih]
    have h1 : m % 256 ^ (k + 1) = m / 256 ^ k % 256 * 256 ^ k + m % 256 ^ k := by
      have hp := pow_pos' k
      have e1 : m % 256 ^ (k + 1) = m - 256 ^ (k + 1) * (m / 256 ^ (k + 1)) := by rw [Int.emod_def]
      have e2 : m / 256 ^ (k + 1) = m / 256 ^ k / 256 := by
        rw [Int.pow_succ, Int.ediv_ediv_of_nonneg (Int.le_of_lt hp)]
      have e3 : m / 256 ^ k % 256 = m / 256 ^ k - 256 * (m / 256 ^ k / 256) := by rw [Int.emod_def]
      have e4 : m % 256 ^ k = m - 256 ^ k * (m / 256 ^ k) := by rw [Int.emod_def]
      rw [e1, e2, e3, e4, Int.pow_succ, Int.sub_mul, Int.mul_comm (256 ^ k) (m / 256 ^ k), Int.mul_assoc (256 ^ k) 256]
      rw [Int.mul_comm (256 ^ k) (256 * _)]
      omega
    rw [h1, Int.add_mul, Int.pow_succ, Int.mul_assoc a 256, Int.mul_comm 256 (256 ^ k)]
    omega

/-- How many bytes the number at the beginning has; 0: there are too few. -/
def tkS (l : List Int) : Nat := match l with
  | [] => 0
  | x :: _ => if l.length < 2 ^ (x / 64).toNat then 0 else 2 ^ (x / 64).toNat
/-- The number at the beginning; 0: there are too few bytes. -/
def tkN (l : List Int) : Int := match l with
  | [] => 0
  | x :: r => if l.length < 2 ^ (x / 64).toNat then 0 else be (x % 64) (r.take (2 ^ (x / 64).toNat - 1))
def tkE (l : List Int) : Int := if tkS l = 0 then 3 else 0

theorem or_join (a y : Int) (h0 : 0 ≤ a) (h1 : a ≤ 72057594037927935) (h2 : 0 ≤ y) (h3 : y ≤ 255) : bits .or .u64 (a * 256) y = a * 256 + y := by
  rw [u64_or _ _ (by omega) (by omega) (by omega) (by omega), nat_join 8 _ _ (by omega) (by omega)]
  omega
end Go.Proofs.Ytiiifcfgfmoiaaa
