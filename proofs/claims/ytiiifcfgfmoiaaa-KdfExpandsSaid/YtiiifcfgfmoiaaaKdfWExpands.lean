/-
  The walk of KdfExpands, over the landed code.
-/
import Derived.Test.YtiiifcfgfmoiaaaKdfExpands
namespace Go.Proofs.Ytiiifcfgfmoiaaa
open Go.RowKit

theorem kdfExpands_walk (kl : List Int) (av : Value) (al : List Int) (m far : Int) (w : World) (hs : kl.length = 32 ∧ ∀ x ∈ kl, (Lit.int .u8 x).wf = true) (h1 : Sl .u8 w av al) (hm : (Lit.int .u16 m).wf = true) (hf : (Lit.int .i64 far).wf = true) :
    Calls Try.prog 3 #[arr kl, av, .int .u16 m, .int .i64 far] w fun e w' => e = .returned (.bool true) ∧ Keep [] w w' := kdfExpands_any knewC extractC expandC expandE kl av al m far w hs h1 hm hf
end Go.Proofs.Ytiiifcfgfmoiaaa
