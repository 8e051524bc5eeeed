/-
  No cell of these rows narrows 'for every input' (looked for: loops, veiled, ifaces, maps, wideKeys, modest, calm, conditions, laid).
  DERIVED. THE GIVEN ROWS OF THIS SEAT. 3 by the template 'for every input the law returns true; each argument reads behind the call as it read before'; 0 by the template 'total and deterministic' (their statements: YtfjhdlgcjbgnfaaTotals.lean).
  GIVEN WITH THE SEED: the statements are not yours to turn. If you find one false, say at which input.
  Laid BY PROGRAM, IN A SANDBOX (cutbox-rows.mjs): the forced cells as the released guide's own fill.sh prints them over the translation 059c74233b644f34… (all of the seat's roots in one cut). By AI agents, Wed Nov 11 2026. No macro, syntax, notation, axiom, sorry.
-/
import Derived.Test.YtfjhdlgcjbgnfaaChecked
import GoSem.Claim
import GoSem.ClaimJoined
import GoSem.ClaimMapViews
import Derived.JoinedTies
import Derived.KernelRfl
namespace Go.Proofs.Ytfjhdlgcjbgnfaa
/- THE CELL 'sum', in the pinned program and in every row, IS THE sha256 OF THE DUMP (.gsa) THAT YtfjhdlgcjbgnfaaProg.lean LOADS. Nothing in Lean hashes anything: it is a label: what it is worth is what the hold of that sum in a sandbox is worth. -/
noncomputable def Try.pinned : Pinned := { name := "ytfjhdlgcjbgnfaa", sum := "059c74233b644f34408af4c9af329d67c3fd620766f19864db9a547b9fb4453e", checked := Try.checked }
namespace Rows
def none {H : Type} : Left H := { results := [], args := [] }

/-- 'binnaclelaw02.PnumWholes': WHATEVER THE INPUT: true; the input reads as it did. -/
def pnumWholesSpec : ChangeSpec := { name := "pnumWholes", fn := fun _ => fun
  | [d1, d2, d3] => { results := [.lit (.bool true)], args := [d1, d2, d3] }
  | _ => none }
def pnumWholesRow : OpenClaim := { program := "ytfjhdlgcjbgnfaa", sum := "059c74233b644f34408af4c9af329d67c3fd620766f19864db9a547b9fb4453e", func := "binnacle/binnaclelaw02.PnumWholes", spec := "pnumWholes", apart := false }
def PnumWholesSaid : Prop := pnumWholesRow.holds Try.pinned (OpenSpec.ofChange pnumWholesSpec)

/-- ITS FALSE NEIGHBOUR: 'it returns false'. Refute it at one input. -/
def pnumWholesWrong : ChangeSpec := { name := "pnumWholes", fn := fun _ => fun
  | [d1, d2, d3] => { results := [.lit (.bool false)], args := [d1, d2, d3] }
  | _ => none }
def PnumWholesWrongFalsely : Prop := pnumWholesRow.holds Try.pinned (OpenSpec.ofChange pnumWholesWrong)

/-- 'binnaclelaw02.PnumBack': WHATEVER THE INPUT: true; the input reads as it did. -/
def pnumBackSpec : ChangeSpec := { name := "pnumBack", fn := fun _ => fun
  | [d1, d2, d3] => { results := [.lit (.bool true)], args := [d1, d2, d3] }
  | _ => none }
def pnumBackRow : OpenClaim := { program := "ytfjhdlgcjbgnfaa", sum := "059c74233b644f34408af4c9af329d67c3fd620766f19864db9a547b9fb4453e", func := "binnacle/binnaclelaw02.PnumBack", spec := "pnumBack", apart := false }
def PnumBackSaid : Prop := pnumBackRow.holds Try.pinned (OpenSpec.ofChange pnumBackSpec)

/-- ITS FALSE NEIGHBOUR: 'it returns false'. Refute it at one input. -/
def pnumBackWrong : ChangeSpec := { name := "pnumBack", fn := fun _ => fun
  | [d1, d2, d3] => { results := [.lit (.bool false)], args := [d1, d2, d3] }
  | _ => none }
def PnumBackWrongFalsely : Prop := pnumBackRow.holds Try.pinned (OpenSpec.ofChange pnumBackWrong)

/-- 'binnaclelaw02.PnumSizes': WHATEVER THE INPUT: true; the input reads as it did. -/
def pnumSizesSpec : ChangeSpec := { name := "pnumSizes", fn := fun _ => fun
  | [d1, d2, d3] => { results := [.lit (.bool true)], args := [d1, d2, d3] }
  | _ => none }
def pnumSizesRow : OpenClaim := { program := "ytfjhdlgcjbgnfaa", sum := "059c74233b644f34408af4c9af329d67c3fd620766f19864db9a547b9fb4453e", func := "binnacle/binnaclelaw02.PnumSizes", spec := "pnumSizes", apart := false }
def PnumSizesSaid : Prop := pnumSizesRow.holds Try.pinned (OpenSpec.ofChange pnumSizesSpec)

/-- ITS FALSE NEIGHBOUR: 'it returns false'. Refute it at one input. -/
def pnumSizesWrong : ChangeSpec := { name := "pnumSizes", fn := fun _ => fun
  | [d1, d2, d3] => { results := [.lit (.bool false)], args := [d1, d2, d3] }
  | _ => none }
def PnumSizesWrongFalsely : Prop := pnumSizesRow.holds Try.pinned (OpenSpec.ofChange pnumSizesWrong)

/- THE SECOND FORM. 'bulk': how many values and letters a reading holds, each counted each time it is reached (what is shared counts as often as it is met; a slice's spare places count too). A statement '..UptoSaid' is the law's where the arguments, and the package variables that the reading takes, are together of bulk at most 1048576: NARROWER than '..Said'. Prove '..Said' where nothing that the law and all that it calls make is longer than what came in: it says more and counts as full. Else prove '..UptoSaid'. A law counts once. -/
mutual
def uptoBulk {H : Type} : DataW H → Nat
  | .lit (.string bytes) => bytes.length + 1
  | .lit _ => 1
  | .nil => 1
  | .ptr d => uptoBulk d + 1
  | .slice elems spare => uptoBulkAll elems + uptoBulkAll spare + 1
  | .agg parts => uptoBulkAll parts + 1
  | .iface _ d => uptoBulk d + 1
  | .map entries => uptoBulkEntries entries + 1
  | .held _ => 1
def uptoBulkAll {H : Type} : List (DataW H) → Nat
  | [] => 0
  | d :: r => uptoBulk d + uptoBulkAll r
def uptoBulkEntries {H : Type} : List (Lit × DataW H) → Nat
  | [] => 0
  | x :: r => uptoBulkEntry x + uptoBulkEntries r
def uptoBulkEntry {H : Type} : Lit × DataW H → Nat
  | (.string bytes, d) => bytes.length + uptoBulk d + 1
  | (_, d) => uptoBulk d + 1
 end
def uptoSmall : (H : Type) → List (DataW H) → Bool := fun _ ds => decide (uptoBulkAll ds ≤ 1048576)
def OpenSpec.upto (s : _root_.Go.ChangeSpec) : _root_.Go.OpenSpec := { _root_.Go.OpenSpec.ofChange s with cond := some uptoSmall }

/-- 'binnaclelaw02.PnumWholes', WHERE WHAT IT READS IS OF BULK AT MOST 1048576: true; the input reads as it did. -/
def pnumWholesUptoRow : OpenClaim := { program := "ytfjhdlgcjbgnfaa", sum := "059c74233b644f34408af4c9af329d67c3fd620766f19864db9a547b9fb4453e", func := "binnacle/binnaclelaw02.PnumWholes", spec := "pnumWholes", apart := false, narrowed := true }
def PnumWholesUptoSaid : Prop := pnumWholesUptoRow.holds Try.pinned (OpenSpec.upto pnumWholesSpec)

/-- 'binnaclelaw02.PnumBack', WHERE WHAT IT READS IS OF BULK AT MOST 1048576: true; the input reads as it did. -/
def pnumBackUptoRow : OpenClaim := { program := "ytfjhdlgcjbgnfaa", sum := "059c74233b644f34408af4c9af329d67c3fd620766f19864db9a547b9fb4453e", func := "binnacle/binnaclelaw02.PnumBack", spec := "pnumBack", apart := false, narrowed := true }
def PnumBackUptoSaid : Prop := pnumBackUptoRow.holds Try.pinned (OpenSpec.upto pnumBackSpec)

/-- 'binnaclelaw02.PnumSizes', WHERE WHAT IT READS IS OF BULK AT MOST 1048576: true; the input reads as it did. -/
def pnumSizesUptoRow : OpenClaim := { program := "ytfjhdlgcjbgnfaa", sum := "059c74233b644f34408af4c9af329d67c3fd620766f19864db9a547b9fb4453e", func := "binnacle/binnaclelaw02.PnumSizes", spec := "pnumSizes", apart := false, narrowed := true }
def PnumSizesUptoSaid : Prop := pnumSizesUptoRow.holds Try.pinned (OpenSpec.upto pnumSizesSpec)

end Rows
end Go.Proofs.Ytfjhdlgcjbgnfaa
