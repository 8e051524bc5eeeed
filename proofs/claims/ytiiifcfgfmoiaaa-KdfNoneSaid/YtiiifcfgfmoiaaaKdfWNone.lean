/-
  The walk of KdfNone, over the landed code.
-/
import Derived.Test.YtiiifcfgfmoiaaaKdf2
import Derived.Test.YtiiifcfgfmoiaaaKdfNone
namespace Go.Proofs.Ytiiifcfgfmoiaaa
open Go.RowKit

theorem kdfNone_walk (sl : List Int) (bv : Value) (bl : List Int) (n : Int) (w : World) (hs : sl.length = 32 ∧ ∀ x ∈ sl, (Lit.int .u8 x).wf = true) (hb : Sl .u8 w bv bl) (hn : (Lit.int .i64 n).wf = true) :
    Calls Try.prog 6 #[arr sl, bv, .int .i64 n] w fun e w' => e = .returned (.bool true) ∧ Keep [] w w' := kdfNone_any knewC extractC kdfN sl bv bl n w hs hb hn
end Go.Proofs.Ytiiifcfgfmoiaaa
