/-
  The S-box: a pure function, its table, what holds of it; nothing of the program.
-/
import Derived.Test.YtlkjngbelckgkaaAes
namespace Go.Proofs.Ytlkjngbelckgkaa

namespace Aes
/-- The inverse, looked for among 1 to n: the last one found. -/
def iv (a : Nat) : Nat → Nat
  | 0 => 0
  | k + 1 => if tm a (k + 1) = 1 then k + 1 else iv a k
def rol (i k : Nat) : Nat := (i * 2 ^ k % 256) ||| (i / 2 ^ (8 - k))
def bx (i : Nat) : Nat → Nat
  | 0 => 99
  | k + 1 => bx i k ^^^ rol i k
def box (a : Nat) : Nat := bx (iv a 255) 5
/-- Inverses. -/
def invT : List Nat := [
  0, 1, 141, 246, 203, 82, 123, 209, 232, 79, 41, 192, 176, 225, 229, 199, 116, 180, 170, 75, 153, 43, 96, 95, 88, 63, 253, 204, 255, 64, 238, 178,
  58, 110, 90, 241, 85, 77, 168, 201, 193, 10, 152, 21, 48, 68, 162, 194, 44, 69, 146, 108, 243, 57, 102, 66, 242, 53, 32, 111, 119, 187, 89, 25,
  29, 254, 55, 103, 45, 49, 245, 105, 167, 100, 171, 19, 84, 37, 233, 9, 237, 92, 5, 202, 76, 36, 135, 191, 24, 62, 34, 240, 81, 236, 97, 23,
  22, 94, 175, 211, 73, 166, 54, 67, 244, 71, 145, 223, 51, 147, 33, 59, 121, 183, 151, 133, 16, 181, 186, 60, 182, 112, 208, 6, 161, 250, 129, 130,
  131, 126, 127, 128, 150, 115, 190, 86, 155, 158, 149, 217, 247, 2, 185, 164, 222, 106, 50, 109, 216, 138, 132, 114, 42, 20, 159, 136, 249, 220, 137, 154,
  251, 124, 46, 195, 143, 184, 101, 72, 38, 200, 18, 74, 206, 231, 210, 98, 12, 224, 31, 239, 17, 117, 120, 113, 165, 142, 118, 61, 189, 188, 134, 87,
  11, 40, 47, 163, 218, 212, 228, 15, 169, 39, 83, 4, 27, 252, 172, 230, 122, 7, 174, 99, 197, 219, 226, 234, 148, 139, 196, 213, 157, 248, 144, 107,
  177, 13, 214, 235, 198, 14, 207, 173, 8, 78, 215, 227, 93, 80, 30, 179, 91, 35, 56, 52, 104, 70, 3, 140, 221, 156, 125, 160, 205, 26, 65, 28]
/-- What each byte is exchanged for. -/
def boxT : List Nat := [
  99, 124, 119, 123, 242, 107, 111, 197, 48, 1, 103, 43, 254, 215, 171, 118, 202, 130, 201, 125, 250, 89, 71, 240, 173, 212, 162, 175, 156, 164, 114, 192,
  183, 253, 147, 38, 54, 63, 247, 204, 52, 165, 229, 241, 113, 216, 49, 21, 4, 199, 35, 195, 24, 150, 5, 154, 7, 18, 128, 226, 235, 39, 178, 117,
  9, 131, 44, 26, 27, 110, 90, 160, 82, 59, 214, 179, 41, 227, 47, 132, 83, 209, 0, 237, 32, 252, 177, 91, 106, 203, 190, 57, 74, 76, 88, 207,
  208, 239, 170, 251, 67, 77, 51, 133, 69, 249, 2, 127, 80, 60, 159, 168, 81, 163, 64, 143, 146, 157, 56, 245, 188, 182, 218, 33, 16, 255, 243, 210,
  205, 12, 19, 236, 95, 151, 68, 23, 196, 167, 126, 61, 100, 93, 25, 115, 96, 129, 79, 220, 34, 42, 144, 136, 70, 238, 184, 20, 222, 94, 11, 219,
  224, 50, 58, 10, 73, 6, 36, 92, 194, 211, 172, 98, 145, 149, 228, 121, 231, 200, 55, 109, 141, 213, 78, 169, 108, 86, 244, 234, 101, 122, 174, 8,
  186, 120, 37, 46, 28, 166, 180, 198, 232, 221, 116, 31, 75, 189, 139, 138, 112, 62, 181, 102, 72, 3, 246, 14, 97, 53, 87, 185, 134, 193, 29, 158,
  225, 248, 152, 17, 105, 217, 142, 148, 155, 30, 135, 233, 206, 85, 40, 223, 140, 161, 137, 13, 191, 230, 66, 104, 65, 153, 45, 15, 176, 84, 187, 22]
/-- And back. -/
def unT : List Nat := [
  82, 9, 106, 213, 48, 54, 165, 56, 191, 64, 163, 158, 129, 243, 215, 251, 124, 227, 57, 130, 155, 47, 255, 135, 52, 142, 67, 68, 196, 222, 233, 203,
  84, 123, 148, 50, 166, 194, 35, 61, 238, 76, 149, 11, 66, 250, 195, 78, 8, 46, 161, 102, 40, 217, 36, 178, 118, 91, 162, 73, 109, 139, 209, 37,
  114, 248, 246, 100, 134, 104, 152, 22, 212, 164, 92, 204, 93, 101, 182, 146, 108, 112, 72, 80, 253, 237, 185, 218, 94, 21, 70, 87, 167, 141, 157, 132,
  144, 216, 171, 0, 140, 188, 211, 10, 247, 228, 88, 5, 184, 179, 69, 6, 208, 44, 30, 143, 202, 63, 15, 2, 193, 175, 189, 3, 1, 19, 138, 107,
  58, 145, 17, 65, 79, 103, 220, 234, 151, 242, 207, 206, 240, 180, 230, 115, 150, 172, 116, 34, 231, 173, 53, 133, 226, 249, 55, 232, 28, 117, 223, 110,
  71, 241, 26, 113, 29, 41, 197, 137, 111, 183, 98, 14, 170, 24, 190, 27, 252, 86, 62, 75, 198, 210, 121, 32, 154, 219, 192, 254, 120, 205, 90, 244,
  31, 221, 168, 51, 136, 7, 199, 49, 177, 18, 16, 89, 39, 128, 236, 95, 96, 81, 127, 169, 25, 181, 74, 13, 45, 229, 122, 159, 147, 201, 156, 239,
  160, 224, 59, 77, 174, 42, 245, 176, 200, 235, 187, 60, 131, 83, 153, 97, 23, 43, 4, 126, 186, 119, 214, 38, 225, 105, 20, 99, 85, 33, 12, 125]

theorem rol_lt (i k : Nat) (hi : i < 256) : rol i k < 256 := Nat.or_lt_two_pow (n := 8) (Nat.mod_lt _ (by decide)) (Nat.lt_of_le_of_lt (Nat.div_le_self _ _) hi)
theorem bx_lt (i k : Nat) (hi : i < 256) : bx i k < 256 := by
  induction k with
  | zero => exact (by decide : (99 : Nat) < 256)
  | succ k ih => exact Nat.xor_lt_two_pow (n := 8) ih (rol_lt i k hi)
theorem iv_le (a n : Nat) : iv a n ≤ n := by
  induction n with
  | zero => exact Nat.le_refl _
  | succ n ih => unfold iv; split <;> omega
theorem box_lt (a : Nat) : box a < 256 := bx_lt _ _ (by have := iv_le a 255; omega)
theorem one_tm : ∀ i, i < 8 → tm 1 (2 ^ i) = 2 ^ i := by decide +kernel
theorem tm_one (x : Nat) (hx : x < 256) : tm 1 x = x := lin_ext (fun x => tm 1 x) (fun x => x) (fun x y => tm_xor 1 x y) (fun _ _ => rfl) 8 one_tm x hx
theorem inv_one (a x y : Nat) (ha : a < 256) (hx : x < 256) (hy : y < 256) (h1 : tm a x = 1) (h2 : tm a y = 1) : x = y := by
  have h : tm (tm x a) y = tm x (tm a y) := (tm_assoc x a y hx ha hy).symm
  rw [h2, tm_comm x a hx ha, h1, tm_one y hy, tm_comm x 1 hx (by decide), tm_one x hx] at h
  exact h.symm
theorem iv_found (a k n : Nat) (ha : a < 256) (hk : 0 < k) (hn : k ≤ n) (hn2 : n < 256) (h : tm a k = 1) : iv a n = k := by
  induction n with
  | zero => omega
  | succ n ih =>
    unfold iv
    by_cases h1 : tm a (n + 1) = 1
    · rw [if_pos h1]
      exact inv_one a _ _ ha hn2 (by omega) h1 h
    · rw [if_neg h1]
      have : k ≠ n + 1 := fun e => h1 (by rw [← e]; exact h)
      exact ih (by omega) (by omega)
theorem tm_zero (x : Nat) : tm 0 x = 0 := by
  have := tm_xor' 0 0 x
  rw [Nat.xor_self, Nat.xor_self] at this
  exact this
theorem iv_zero (n : Nat) : iv 0 n = 0 := by
  induction n with
  | zero => rfl
  | succ n ih => unfold iv; rw [tm_zero, if_neg (by decide), ih]
theorem inv_all : ∀ a, a < 256 → a = 0 ∨ (0 < invT.getD a 0 ∧ invT.getD a 0 ≤ 255 ∧ tm a (invT.getD a 0) = 1) := by decide +kernel
theorem iv_all (a : Nat) (ha : a < 256) : iv a 255 = invT.getD a 0 := by
  rcases inv_all a ha with rfl | ⟨h1, h2, h3⟩
  · rw [iv_zero]; rfl
  · exact iv_found a _ 255 ha h1 h2 (by decide) h3
theorem bx_all : ∀ a, a < 256 → bx (invT.getD a 0) 5 = boxT.getD a 0 := by decide +kernel
theorem box_all (a : Nat) (ha : a < 256) : box a = boxT.getD a 0 := by unfold box; rw [iv_all a ha, bx_all a ha]
theorem un_all : ∀ a, a < 256 → unT.getD (boxT.getD a 0) 0 = a := by decide +kernel
theorem box_inj (a b : Nat) (ha : a < 256) (hb : b < 256) (h : box a = box b) : a = b := by
  rw [box_all a ha, box_all b hb] at h
  rw [← un_all a ha, ← un_all b hb, h]
theorem own_all : ∀ a, a < 256 → boxT.getD a 0 ≠ a := by decide +kernel
theorem box_own (a : Nat) (ha : a < 256) : box a ≠ a := by rw [box_all a ha]; exact own_all a ha
theorem box_zero : box 0 = 99 := by rw [box_all 0 (by decide)]; rfl
end Aes
end Go.Proofs.Ytlkjngbelckgkaa
