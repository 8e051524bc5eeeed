/-
  The walks of sha's laws, over the landed code.
-/
import Derived.Test.YtadpfgflkbfjcaaHashD
import Derived.Test.YtadpfgflkbfjcaaShaKnown
import Derived.Test.YtadpfgflkbfjcaaShaMarks
import Derived.Test.YtadpfgflkbfjcaaShaSums
namespace Go.Proofs.Ytadpfgflkbfjcaa
open Go.RowKit

theorem shaKnown_walk (n : Int) (w : World) (hn : (Lit.int .u8 n).wf = true) :
    Calls Try.prog 5 #[.int .u8 n] w fun e w' => e = .returned (.bool true) ∧ Keep [] w w' := shaKnown_any newC sumC markC sumN markN n w hn
theorem shaMarks_walk (kv : Value) (kl : List Int) (bv : Value) (bl : List Int) (cv : Value) (cl : List Int) (w : World) (hk : Sl .u8 w kv kl) (hb : Sl .u8 w bv bl) (hc : Sl .u8 w cv cl) :
    Calls Try.prog 4 #[kv, bv, cv] w fun e w' => e = .returned (.bool true) ∧ Keep [] w w' := shaMarks_any newC sumC markC kv bv cv kl bl cl w hk hb hc
theorem shaSums_walk (bv : Value) (bl : List Int) (cv : Value) (cl : List Int) (n : Int) (w : World) (hb : Sl .u8 w bv bl) (hc : Sl .u8 w cv cl) (hn : (Lit.int .u16 n).wf = true) :
    Calls Try.prog 3 #[bv, cv, .int .u16 n] w fun e w' => e = .returned (.bool true) ∧ Keep [] w w' := shaSums_any newC sumC bv cv bl cl n w hb hc hn
end Go.Proofs.Ytadpfgflkbfjcaa
