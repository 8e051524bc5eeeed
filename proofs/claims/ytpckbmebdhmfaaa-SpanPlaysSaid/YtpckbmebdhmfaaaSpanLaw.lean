/-
  What the laws of span (and the layers above) ask of its functions: over any predicate that says what a set is.
-/
import Derived.Test.YtpckbmebdhmfaaaRSpan3
namespace Go.Proofs.Ytpckbmebdhmfaaa
open Go.RowKit

namespace Span
/-- The lowest range that has a number from n on, cut off below n. -/
def first : List R → Nat → Option R
  | [], _ => none
  | x :: l, n => if n < x.2 then some (max x.1 n, x.2) else first l n
end Span
/-- What a lookup answers. -/
def found (o : Option (Nat × Nat)) : Value := .tuple #[pv (o.getD (0, 0)), .bool o.isSome]
/-- SS w S s m l: at s lies a set, its blocks are those of S, of at most m ranges, its ranges l. -/
structure SpanC (SS : World → List Nat → Nat → Nat → List (Nat × Nat) → Prop) : Prop where
  keepS : ∀ {w w' : World} {S T : List Nat} {s m : Nat} {l : List (Nat × Nat)}, SS w S s m l → Keep T w w' → (∀ x ∈ S, x ∉ T) → SS w' S s m l
  ltS : ∀ {w : World} {S : List Nat} {s m : Nat} {l : List (Nat × Nat)}, SS w S s m l → ∀ x ∈ S, x < w.heap.size
  okS : ∀ {w : World} {S : List Nat} {s m : Nat} {l : List (Nat × Nat)}, SS w S s m l → Span.Nrm l ∧ P64 l ∧ l.length ≤ m
  newS : ∀ (w : World) (k : Int), (Lit.int .i64 k).wf = true → Calls Try.prog 8 #[.int .i64 k] w fun e w' => ∃ s S, e = .returned (.pointer (some ⟨s, 0, none⟩)) ∧ SS w' S s (max k 1).toNat [] ∧ (∀ x ∈ S, w.heap.size ≤ x) ∧ Keep [] w w'
  lenS : ∀ (w : World) (S : List Nat) (s m : Nat) (l : List (Nat × Nat)), SS w S s m l → l.length ≤ 1000000 → Calls Try.prog 19 #[.pointer (some ⟨s, 0, none⟩)] w fun e w' => e = .returned (.int .i64 (l.length : Nat)) ∧ Keep [] w w'
  listS : ∀ (w : World) (S : List Nat) (s m : Nat) (l : List (Nat × Nat)), SS w S s m l → l.length ≤ 1000000 → Calls Try.prog 18 #[.pointer (some ⟨s, 0, none⟩)] w fun e w' => ∃ v, e = .returned v ∧ S2 w' v l ∧ (∀ b, v.ownBlock = some b → w.heap.size ≤ b) ∧ Keep [] w w'
  hasS : ∀ (w : World) (S : List Nat) (s m n : Nat) (l : List (Nat × Nat)), SS w S s m l → l.length ≤ 1000000 → n < 18446744073709551616 → Calls Try.prog 25 #[.pointer (some ⟨s, 0, none⟩), .int .u64 n] w fun e w' => e = .returned (.bool (Span.hasB l n)) ∧ Keep [] w w'
  covS : ∀ (w : World) (S : List Nat) (s m : Nat) (l : List (Nat × Nat)) (r : Nat × Nat), SS w S s m l → l.length ≤ 1000000 → r.1 < 18446744073709551616 → r.2 < 18446744073709551616 → Calls Try.prog 22 #[.pointer (some ⟨s, 0, none⟩), pv r] w fun e w' => e = .returned (.bool (Span.covB l r)) ∧ Keep [] w w'
  addS : ∀ (w : World) (S : List Nat) (s m : Nat) (l : List (Nat × Nat)) (r : Nat × Nat), SS w S s m l → l.length ≤ 1000000 → r.1 < 18446744073709551616 → r.2 < 18446744073709551616 → Calls Try.prog 13 #[.pointer (some ⟨s, 0, none⟩), pv r] w fun e w' => ∃ c S', e = .returned (.int .i64 c) ∧
    (((Span.add l r).length ≤ m ∧ c = 0 ∧ SS w' S' s m (Span.add l r)) ∨ (m < (Span.add l r).length ∧ c = 7 ∧ SS w' S' s m l)) ∧ (∀ x ∈ S', x ∈ S ∨ w.heap.size ≤ x) ∧ Keep S w w'
  lastS : ∀ (w : World) (S : List Nat) (s m : Nat) (l : List (Nat × Nat)) (r : Nat × Nat), SS w S s m l → l.length ≤ 1000000 → r.1 < 18446744073709551616 → r.2 < 18446744073709551616 → Calls Try.prog 14 #[.pointer (some ⟨s, 0, none⟩), pv r] w fun e w' => ∃ S', e = .returned (.int .i64 (((Span.add l r).length - m : Nat) : Int)) ∧
    SS w' S' s m ((Span.add l r).drop ((Span.add l r).length - m)) ∧ (∀ x ∈ S', x ∈ S ∨ w.heap.size ≤ x) ∧ Keep S w w'
  cutS : ∀ (w : World) (S : List Nat) (s m : Nat) (l : List (Nat × Nat)) (r : Nat × Nat), SS w S s m l → l.length ≤ 1000000 → r.1 < 18446744073709551616 → r.2 < 18446744073709551616 → Calls Try.prog 16 #[.pointer (some ⟨s, 0, none⟩), pv r] w fun e w' => ∃ c S', e = .returned (.int .i64 c) ∧
    (((Span.cut l r).length ≤ m ∧ c = 0 ∧ SS w' S' s m (Span.cut l r)) ∨ (m < (Span.cut l r).length ∧ c = 7 ∧ SS w' S' s m l)) ∧ (∀ x ∈ S', x ∈ S ∨ w.heap.size ≤ x) ∧ Keep S w w'
  firstS : ∀ (w : World) (S : List Nat) (s m n : Nat) (l : List (Nat × Nat)), SS w S s m l → l.length ≤ 1000000 → n < 18446744073709551616 → Calls Try.prog 24 #[.pointer (some ⟨s, 0, none⟩), .int .u64 n] w fun e w' => e = .returned (found (Span.first l n)) ∧ Keep [] w w'
  topS : ∀ (w : World) (S : List Nat) (s m : Nat) (l : List (Nat × Nat)), SS w S s m l → l.length ≤ 1000000 → Calls Try.prog 20 #[.pointer (some ⟨s, 0, none⟩)] w fun e w' => e = .returned (found l.getLast?) ∧ Keep [] w w'
  countS : ∀ (w : World) (S : List Nat) (s m : Nat) (l : List (Nat × Nat)), SS w S s m l → l.length ≤ 1000000 → Calls Try.prog 21 #[.pointer (some ⟨s, 0, none⟩)] w fun e w' => e = .returned (.int .u64 ((Span.cnt l % 18446744073709551616 : Nat) : Int)) ∧ Keep [] w w'
  copyS : ∀ (w : World) (S : List Nat) (s m : Nat) (l : List (Nat × Nat)), SS w S s m l → l.length ≤ 1000000 → Calls Try.prog 10 #[.pointer (some ⟨s, 0, none⟩)] w fun e w' => ∃ s' S', e = .returned (.pointer (some ⟨s', 0, none⟩)) ∧ SS w' S' s' m l ∧ (∀ x ∈ S', w.heap.size ≤ x) ∧ Keep [] w w'
  lenN : ∀ (w : World), Calls Try.prog 19 #[.pointer none] w fun e w' => e = .returned (.int .i64 0) ∧ Keep [] w w'
  listN : ∀ (w : World), Calls Try.prog 18 #[.pointer none] w fun e w' => ∃ A c, e = .returned (.slice A 0 c) ∧ Keep [] w w'
  hasN : ∀ (w : World) (n : Int), Calls Try.prog 25 #[.pointer none, .int .u64 n] w fun e w' => e = .returned (.bool false) ∧ Keep [] w w'
  covN : ∀ (w : World) (r : Nat × Nat), Calls Try.prog 22 #[.pointer none, pv r] w fun e w' => e = .returned (.bool false) ∧ Keep [] w w'
  addN : ∀ (w : World) (r : Nat × Nat), Calls Try.prog 13 #[.pointer none, pv r] w fun e w' => e = .returned (.int .i64 1) ∧ Keep [] w w'
  lastN : ∀ (w : World) (r : Nat × Nat), Calls Try.prog 14 #[.pointer none, pv r] w fun e w' => e = .returned (.int .i64 0) ∧ Keep [] w w'
  cutN : ∀ (w : World) (r : Nat × Nat), Calls Try.prog 16 #[.pointer none, pv r] w fun e w' => e = .returned (.int .i64 1) ∧ Keep [] w w'
  firstN : ∀ (w : World) (n : Int), Calls Try.prog 24 #[.pointer none, .int .u64 n] w fun e w' => e = .returned (.tuple #[pv (0, 0), .bool false]) ∧ Keep [] w w'
  topN : ∀ (w : World), Calls Try.prog 20 #[.pointer none] w fun e w' => e = .returned (.tuple #[pv (0, 0), .bool false]) ∧ Keep [] w w'
  countN : ∀ (w : World), Calls Try.prog 21 #[.pointer none] w fun e w' => e = .returned (.int .u64 0) ∧ Keep [] w w'
  copyN : ∀ (w : World), Calls Try.prog 10 #[.pointer none] w fun e w' => e = .returned (.pointer none) ∧ Keep [] w w'
end Go.Proofs.Ytpckbmebdhmfaaa
