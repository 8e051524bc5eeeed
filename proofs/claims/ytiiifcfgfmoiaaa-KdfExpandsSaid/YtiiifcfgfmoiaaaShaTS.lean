/-
  What the laws of sha and kdf ask of New, Sum and Mark.
-/
import Derived.Test.YtiiifcfgfmoiaaaRMark
import Derived.Test.YtiiifcfgfmoiaaaArr
import Derived.Test.YtiiifcfgfmoiaaaTab3
namespace Go.Proofs.Ytiiifcfgfmoiaaa
open Go.RowKit

/-- What may lie in the object's cells: nothing yet, or the constants. -/
def TabOk (cs : Array Value) : Prop := cs = tcs (.int .u32 0) (.int .i32 0) (List.replicate 8 0) (List.replicate 64 0) ∨ cs = tcs (.int .u32 1) (.int .i32 0) Sha.H0 Sha.K
/-- The tables object at g. -/
def TS (w : World) (g : Nat) : Prop := ∃ cs, Blk w g 67 cs ∧ TabOk cs
theorem TS.keep {w w' : World} {g : Nat} {S : List Nat} (h : TS w g) (k : Keep S w w') (hg : g ∉ S) : TS w' g := by
  obtain ⟨cs, hb, ho⟩ := h
  exact ⟨cs, hb.keep k hg, ho⟩
theorem TS.lt {w : World} {g : Nat} (h : TS w g) : g < w.heap.size := by obtain ⟨cs, hb, _⟩ := h; exact hb.lt

def NewC : Prop := ∀ w : World, Calls Try.prog 20 #[] w fun e w' => ∃ g, e = .returned (.pointer (some ⟨g, 0, none⟩)) ∧ w.heap.size ≤ g ∧ TS w' g ∧ Keep [] w w'
def SumC : Prop := ∀ (w : World) (g : Nat) (pv : Value) (ls : List (List Int)), TS w g → Pl w pv ls → ls.flatten.length ≤ 1000000 → ls.length ≤ 1000000 →
  Calls Try.prog 16 #[.pointer (some ⟨g, 0, none⟩), pv] w fun e w' => e = .returned (arr (Sha.sum ls.flatten)) ∧ TS w' g ∧ Keep [g] w w'
def MarkC : Prop := ∀ (w : World) (g : Nat) (kv pv : Value) (kl : List Int) (ls : List (List Int)), TS w g → Sl .u8 w kv kl → Pl w pv ls → kl.length ≤ 1000000 → ls.flatten.length ≤ 1000000 → ls.length ≤ 1000000 →
  Calls Try.prog 21 #[.pointer (some ⟨g, 0, none⟩), kv, pv] w fun e w' => e = .returned (arr (Sha.mark kl ls.flatten)) ∧ TS w' g ∧ Keep [g] w w'
def SumN : Prop := ∀ (w : World) (pv : Value), Calls Try.prog 16 #[.pointer none, pv] w fun e w' => e = .returned (arr (List.replicate 32 0)) ∧ Keep [] w w'
def MarkN : Prop := ∀ (w : World) (kv pv : Value), Calls Try.prog 21 #[.pointer none, kv, pv] w fun e w' => e = .returned (arr (List.replicate 32 0)) ∧ Keep [] w w'

end Go.Proofs.Ytiiifcfgfmoiaaa
