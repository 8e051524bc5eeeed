/-
  What the laws of gcm (and the layers above) ask of its functions: over any predicate that says what a sealer is.
-/
import Derived.Test.YtlkjngbelckgkaaGcmPQ
import Derived.Test.YtlkjngbelckgkaaAesSt
namespace Go.Proofs.Ytlkjngbelckgkaa
open Go.RowKit

/-- A nonce. -/
def N12 (l : List Int) : Prop := l.length = 12 ∧ ∀ x ∈ l, (Lit.int .u8 x).wf = true
/-- GS w S s k n: at s lies a sealer by the key k, its blocks are those of S, and at most n blocks have been turned with its tables. -/
structure GcmC (GS : World → List Nat → Nat → List Int → Nat → Prop) : Prop where
  keepG : ∀ {w w' : World} {S T : List Nat} {s n : Nat} {k : List Int}, GS w S s k n → Keep T w w' → (∀ x ∈ S, x ∉ T) → GS w' S s k n
  ltG : ∀ {w : World} {S : List Nat} {s n : Nat} {k : List Int}, GS w S s k n → ∀ x ∈ S, x < w.heap.size
  newG : ∀ (w : World) (g n : Nat) (k : List Int), AF w g n → n ≤ 500000 → B16 k → Calls Try.prog 6 #[.pointer (some ⟨g, 0, none⟩), arr k] w fun e w' => ∃ s S n', e = .returned (.pointer (some ⟨s, 0, none⟩)) ∧ GS w' S s k n' ∧ n' ≤ n + 10 ∧ (∀ x ∈ S, x = g ∨ w.heap.size ≤ x) ∧ Keep [g] w w'
  newNil : ∀ (w : World) (k : List Int), B16 k → Calls Try.prog 6 #[.pointer none, arr k] w fun e w' => e = .returned (.pointer none) ∧ Keep [] w w'
  sealG : ∀ (w : World) (S : List Nat) (s n : Nat) (k nn ol pl : List Int) (ov pv : Value), GS w S s k n → n ≤ 500000 → B16 k → N12 nn → Sl .u8 w ov ol → Sl .u8 w pv pl → ol.length ≤ 100000 → pl.length ≤ 100000 →
    Calls Try.prog 8 #[.pointer (some ⟨s, 0, none⟩), arr nn, ov, pv] w fun e w' => ∃ v n', e = .returned v ∧ Sl .u8 w' v (Gcm.sealed k nn ol pl) ∧ (∀ b, v.ownBlock = some b → w.heap.size ≤ b ∧ b ∉ S) ∧ n' ≤ n + 10000 ∧ GS w' S s k n' ∧ Keep S w w'
  shortG : ∀ (w : World) (S : List Nat) (s n : Nat) (k nn ol sl : List Int) (ov sv : Value), GS w S s k n → N12 nn → Sl .u8 w ov ol → Sl .u8 w sv sl → sl.length < 16 →
    Calls Try.prog 11 #[.pointer (some ⟨s, 0, none⟩), arr nn, ov, sv] w fun e w' => ∃ v, e = .returned (.tuple #[v, .int .i64 3]) ∧ Sl .u8 w' v [] ∧ Keep [] w w'
  openG : ∀ (w : World) (S : List Nat) (s n : Nat) (k nn ol sl : List Int) (ov sv : Value), GS w S s k n → n ≤ 500000 → B16 k → N12 nn → Sl .u8 w ov ol → Sl .u8 w sv sl → ol.length ≤ 100000 → 16 ≤ sl.length → sl.length ≤ 100000 →
    Calls Try.prog 11 #[.pointer (some ⟨s, 0, none⟩), arr nn, ov, sv] w fun e w' => ∃ v c n', e = .returned (.tuple #[v, .int .i64 c]) ∧ ((∃ p, Gcm.opened k nn ol sl = some p ∧ c = 0 ∧ Sl .u8 w' v p) ∨ (Gcm.opened k nn ol sl = none ∧ c = 8 ∧ Sl .u8 w' v [])) ∧ (∀ b, v.ownBlock = some b → w.heap.size ≤ b ∧ b ∉ S) ∧ n' ≤ n + 10000 ∧ GS w' S s k n' ∧ Keep S w w'
  sealNil : ∀ (w : World) (nn : List Int) (ov pv : Value), N12 nn → Calls Try.prog 8 #[.pointer none, arr nn, ov, pv] w fun e w' => ∃ v, e = .returned v ∧ Sl .u8 w' v [] ∧ Keep [] w w'
  openNil : ∀ (w : World) (nn : List Int) (ov pv : Value), N12 nn → Calls Try.prog 11 #[.pointer none, arr nn, ov, pv] w fun e w' => ∃ v, e = .returned (.tuple #[v, .int .i64 1]) ∧ Sl .u8 w' v [] ∧ Keep [] w w'
end Go.Proofs.Ytlkjngbelckgkaa
