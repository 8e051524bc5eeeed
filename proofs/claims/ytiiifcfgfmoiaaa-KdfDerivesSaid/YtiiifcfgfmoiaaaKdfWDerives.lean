/-
  The walk of KdfDerives, over the landed code.
-/
import Derived.Test.YtiiifcfgfmoiaaaKdfDerives
namespace Go.Proofs.Ytiiifcfgfmoiaaa
open Go.RowKit

theorem kdfDerives_walk (kl : List Int) (sv : Value) (sl : List Int) (nv : Value) (nl : List Int) (dv : Value) (dl : List Int) (lab : ByteArray) (w : World) (hs : kl.length = 32 ∧ ∀ x ∈ kl, (Lit.int .u8 x).wf = true) (h1 : Sl .u8 w sv sl) (h2 : Sl .u8 w nv nl) (h3 : Sl .u8 w dv dl) (hlab : lab.size ≤ maxLen) :
    Calls Try.prog 5 #[arr kl, sv, nv, dv, .string lab] w fun e w' => e = .returned (.bool true) ∧ Keep [] w w' := kdfDerives_any knewC extractC deriveC tablesC kl sv sl nv nl dv dl lab w hs h1 h2 h3 hlab
end Go.Proofs.Ytiiifcfgfmoiaaa
