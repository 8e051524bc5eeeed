/-
  Numbers of a kind as natural ones: bits, sums.
-/
import Derived.Test.YtpckbmebdhmfaaaGen
namespace Go.Proofs.Ytpckbmebdhmfaaa
open Go.RowKit

theorem ret_u8 {a b : Int} (h : a = b) : Ending.returned (.int .u8 a) = .returned (.int .u8 b) := by rw [h]
def intOf : Value → Int
  | .int _ n => n
  | _ => 0
theorem ofInt64 (a : Nat) (ha : a < 65536) : (BitVec.ofInt 64 (a : Int)).toNat = a := by
  rw [BitVec.ofInt_natCast, BitVec.toNat_ofNat]; exact Nat.mod_eq_of_lt (by omega)
theorem i64_xor (a b : Nat) (ha : a < 65536) (hb : b < 65536) : bits .xor .i64 (a : Int) (b : Int) = ((a ^^^ b : Nat) : Int) := by
  have hx : a ^^^ b < 2 ^ 16 := Nat.xor_lt_two_pow (by omega) (by omega)
  show IntKind.i64.wrap ((BitVec.ofInt 64 (a : Int) ^^^ BitVec.ofInt 64 (b : Int)).toNat : Int) = _
  rw [BitVec.toNat_xor, ofInt64 a ha, ofInt64 b hb]
  exact IntWalk.i64_in _ ⟨by omega, by omega⟩
theorem i64_bit (n d : Nat) (hn : n < 65536) : bits .and .i64 ((n : Int) / (d : Int)) 1 = ((n / d % 2 : Nat) : Int) := by
  have hd : n / d < 65536 := Nat.lt_of_le_of_lt (Nat.div_le_self _ _) hn
  have h1 : ((n : Int) / (d : Int)) = ((n / d : Nat) : Int) := rfl
  rw [h1]
  show IntKind.i64.wrap ((BitVec.ofInt 64 ((n / d : Nat) : Int) &&& BitVec.ofInt 64 ((1 : Nat) : Int)).toNat : Int) = _
  rw [BitVec.toNat_and, ofInt64 _ hd, ofInt64 1 (by decide), Nat.and_one_is_mod]
  exact IntWalk.i64_in _ ⟨by omega, by omega⟩
theorem u8_bit0 (n : Nat) (hn : n < 256) : bits .and .u8 (n : Int) 1 = ((n % 2 : Nat) : Int) := by
  have h1 := u8_and_nat n 1 hn (by decide)
  rw [Nat.and_one_is_mod] at h1
  exact h1
theorem u8_bit (n d : Nat) (hn : n < 256) : bits .and .u8 ((n : Int) / (d : Int)) 1 = ((n / d % 2 : Nat) : Int) := by
  have hd : n / d < 256 := Nat.lt_of_le_of_lt (Nat.div_le_self _ _) hn
  have h1 := u8_and_nat (n / d) 1 hd (by decide)
  rw [Nat.and_one_is_mod] at h1
  exact h1

end Go.Proofs.Ytpckbmebdhmfaaa
