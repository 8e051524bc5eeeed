/-
  The four walks of stage 7, over the contracts of the landed span .
-/
import Derived.Test.YtpckbmebdhmfaaaSpanL
import Derived.Test.YtpckbmebdhmfaaaSpanA
import Derived.Test.YtpckbmebdhmfaaaSpC
namespace Go.Proofs.Ytpckbmebdhmfaaa
open Go.RowKit
theorem spanPlays_walk (lim : Int) (v : Value) (la : List ActP) (lk : Value) (ll : List Int) (o : Nat × Nat) (w : World) (hlim : (Lit.int .i64 lim).wf = true) (hA : SA w v la) (hlk : Sl .u64 w lk ll) (ho : o.1 < 18446744073709551616 ∧ o.2 < 18446744073709551616) :
    Calls Try.prog 3 #[.int .i64 lim, v, lk, pv o] w fun e w' => e = .returned (.bool true) ∧ Keep [] w w' := by
  exact spanPlays_any spanC lim v la lk ll o w hlim hA hlk ho
theorem spanAsks_walk (v : Value) (la : List ActP) (r : Nat × Nat) (w : World) (hA : SA w v la) (hr : r.1 < 18446744073709551616 ∧ r.2 < 18446744073709551616) :
    Calls Try.prog 4 #[v, pv r] w fun e w' => e = .returned (.bool true) ∧ Keep [] w w' := by
  exact spanAsks_any spanC v la r w hA hr
theorem spanParts_walk (v : Value) (la : List ActP) (n : Int) (w : World) (hA : SA w v la) (hn : (Lit.int .u64 n).wf = true) :
    Calls Try.prog 6 #[v, .int .u64 n] w fun e w' => e = .returned (.bool true) ∧ Keep [] w w' := by
  obtain ⟨nn, rfl, hnn⟩ := nat_u64 hn
  exact spanParts_any spanC v la nn w hA hnn
theorem spanNone_walk (r : Nat × Nat) (n : Int) (w : World) (_ : r.1 < 18446744073709551616 ∧ r.2 < 18446744073709551616) (_ : (Lit.int .u64 n).wf = true) :
    Calls Try.prog 5 #[pv r, .int .u64 n] w fun e w' => e = .returned (.bool true) ∧ Keep [] w w' := by
  exact spanNone_any spanC r n w
end Go.Proofs.Ytpckbmebdhmfaaa
