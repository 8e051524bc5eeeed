/-
  SHA-256 and HMAC as plain functions of lists; nothing of the program.
-/
import Derived.Test.YtiiifcfgfmoiaaaMath
namespace Go.Proofs.Ytiiifcfgfmoiaaa
open Go.RowKit

namespace Sha
def rr (x k : Nat) : Nat := (x / 2 ^ k) ||| (x * 2 ^ (32 - k) % 4294967296)
def s0 (x : Nat) : Nat := (rr x 7 ^^^ rr x 18) ^^^ (x / 8)
def s1 (x : Nat) : Nat := (rr x 17 ^^^ rr x 19) ^^^ (x / 1024)
def S0 (x : Nat) : Nat := (rr x 2 ^^^ rr x 13) ^^^ rr x 22
def S1 (x : Nat) : Nat := (rr x 6 ^^^ rr x 11) ^^^ rr x 25
def ch (e f g : Nat) : Nat := (e &&& f) ^^^ ((e ^^^ 4294967295) &&& g)
def maj (a b c : Nat) : Nat := ((a &&& b) ^^^ (a &&& c)) ^^^ (b &&& c)
def K : List Nat := [
  0x428a2f98, 0x71374491, 0xb5c0fbcf, 0xe9b5dba5, 0x3956c25b, 0x59f111f1, 0x923f82a4, 0xab1c5ed5,
  0xd807aa98, 0x12835b01, 0x243185be, 0x550c7dc3, 0x72be5d74, 0x80deb1fe, 0x9bdc06a7, 0xc19bf174,
  0xe49b69c1, 0xefbe4786, 0x0fc19dc6, 0x240ca1cc, 0x2de92c6f, 0x4a7484aa, 0x5cb0a9dc, 0x76f988da,
  0x983e5152, 0xa831c66d, 0xb00327c8, 0xbf597fc7, 0xc6e00bf3, 0xd5a79147, 0x06ca6351, 0x14292967,
  0x27b70a85, 0x2e1b2138, 0x4d2c6dfc, 0x53380d13, 0x650a7354, 0x766a0abb, 0x81c2c92e, 0x92722c85,
  0xa2bfe8a1, 0xa81a664b, 0xc24b8b70, 0xc76c51a3, 0xd192e819, 0xd6990624, 0xf40e3585, 0x106aa070,
  0x19a4c116, 0x1e376c08, 0x2748774c, 0x34b0bcb5, 0x391c0cb3, 0x4ed8aa4a, 0x5b9cca4f, 0x682e6ff3,
  0x748f82ee, 0x78a5636f, 0x84c87814, 0x8cc70208, 0x90befffa, 0xa4506ceb, 0xbef9a3f7, 0xc67178f2]
def H0 : List Nat := [0x6a09e667, 0xbb67ae85, 0x3c6ef372, 0xa54ff53a, 0x510e527f, 0x9b05688c, 0x1f83d9ab, 0x5be0cd19]
/-- The next word of the schedule. -/
def wnext (w : List Nat) : Nat := (w.getD (w.length - 16) 0 + s0 (w.getD (w.length - 15) 0) + w.getD (w.length - 7) 0 + s1 (w.getD (w.length - 2) 0)) % 4294967296
def sched (w : List Nat) : Nat → List Nat
  | 0 => w
  | n + 1 => sched w n ++ [wnext (sched w n)]
/-- Word i of a block's bytes. -/
def word (l : List Int) (i : Nat) : Nat := (be 0 ((l.drop (4 * i)).take 4)).toNat
def words (l : List Int) : Nat → List Nat
  | 0 => []
  | n + 1 => words l n ++ [word l n]
/-- The eight words a to h. -/
structure St where
  a : Nat
  b : Nat
  c : Nat
  d : Nat
  e : Nat
  f : Nat
  g : Nat
  h : Nat
def St.list (s : St) : List Nat := [s.a, s.b, s.c, s.d, s.e, s.f, s.g, s.h]
def one (k w : Nat) (s : St) : Nat := (s.h + S1 s.e + ch s.e s.f s.g + k + w) % 4294967296
def rnd (k w : Nat) (s : St) : St := ⟨(one k w s + S0 s.a + maj s.a s.b s.c) % 4294967296, s.a, s.b, s.c, (s.d + one k w s) % 4294967296, s.e, s.f, s.g⟩
def rnds (w : List Nat) (s : St) : Nat → St
  | 0 => s
  | n + 1 => rnd (K.getD n 0) (w.getD n 0) (rnds w s n)
def St.add (s t : St) : St := ⟨(s.a + t.a) % 4294967296, (s.b + t.b) % 4294967296, (s.c + t.c) % 4294967296, (s.d + t.d) % 4294967296, (s.e + t.e) % 4294967296, (s.f + t.f) % 4294967296, (s.g + t.g) % 4294967296, (s.h + t.h) % 4294967296⟩
/-- One block. -/
def blk (s : St) (l : List Int) : St := s.add (rnds (sched (words l 16) 48) s 64)
def start : St := ⟨0x6a09e667, 0xbb67ae85, 0x3c6ef372, 0xa54ff53a, 0x510e527f, 0x9b05688c, 0x1f83d9ab, 0x5be0cd19⟩
/-- The first n blocks of x. -/
def blks (x : List Int) : Nat → St
  | 0 => start
  | n + 1 => blk (blks x n) ((x.drop (64 * n)).take 64)
/-- How many noughts stand behind the 128. -/
def gap (n : Nat) : Nat := (119 - n % 64) % 64
def pad (l : List Int) : List Int := l ++ 128 :: (List.replicate (gap l.length) 0 ++ bb (l.length * 8) 8)
def bytes (s : St) : List Int := s.list.flatMap fun (x : Nat) => bb (x : Int) 4
def sum (l : List Int) : List Int := bytes (blks (pad l) ((pad l).length / 64))
def key (k : List Int) : List Int := (if 64 < k.length then sum k else k)
def keyX (k : List Int) (c : Nat) : List Int := (List.range 64).map fun i => (((key k).getD i 0).toNat ^^^ c : Nat)
def mark (k l : List Int) : List Int := sum (keyX k 92 ++ sum (keyX k 54 ++ l))

theorem sum_abc : (sum [97, 98, 99]).take 4 = [186, 120, 22, 191] := by decide +kernel
theorem sum_none : (sum []).getD 0 0 = 227 ∧ (sum []).getD 31 0 = 85 := by decide +kernel
theorem mark_jefe : (mark [74, 101, 102, 101] [119, 104, 97, 116, 32, 100, 111, 32, 121, 97, 32, 119, 97, 110, 116, 32, 102, 111, 114, 32, 110, 111, 116, 104, 105, 110, 103, 63]).getD 0 0 = 91 ∧
    (mark [74, 101, 102, 101] [119, 104, 97, 116, 32, 100, 111, 32, 121, 97, 32, 119, 97, 110, 116, 32, 102, 111, 114, 32, 110, 111, 116, 104, 105, 110, 103, 63]).getD 31 0 = 67 := by decide +kernel
end Sha
end Go.Proofs.Ytiiifcfgfmoiaaa
