/-
  The walk of KdfLabels, over the landed code.
-/
import Derived.Test.YtiiifcfgfmoiaaaKdf6
import Derived.Test.YtiiifcfgfmoiaaaKdfLabels
namespace Go.Proofs.Ytiiifcfgfmoiaaa
open Go.RowKit

theorem kdfLabels_walk (sl : List Int) (lab : ByteArray) (cv : Value) (cl : List Int) (m far : Int) (w : World) (hs : sl.length = 32 ∧ ∀ x ∈ sl, (Lit.int .u8 x).wf = true) (hlab : lab.size ≤ maxLen) (hc : Sl .u8 w cv cl) (hm : (Lit.int .u8 m).wf = true) (hf : (Lit.int .i64 far).wf = true) :
    Calls Try.prog 4 #[arr sl, .string lab, cv, .int .u8 m, .int .i64 far] w fun e w' => e = .returned (.bool true) ∧ Keep [] w w' := kdfLabels_any knewC extractC labelC labelE labelS sl lab cv cl m far w hs hlab hc hm hf
end Go.Proofs.Ytiiifcfgfmoiaaa
