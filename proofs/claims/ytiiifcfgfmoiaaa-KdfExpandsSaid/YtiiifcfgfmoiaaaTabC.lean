/-
  The landed sha: the constants, reckoned by the kernel.
-/
import Derived.Test.YtiiifcfgfmoiaaaTab2
namespace Go.Proofs.Ytiiifcfgfmoiaaa
open Go.RowKit

theorem consts3 : ∀ i : Fin 64, Tab.frac (((Tab.prs 310).getD i.val 0 : Nat) * 4294967296) 3 = ((Sha.K.getD i.val 0 : Nat) : Int) := by decide +kernel
theorem consts2 : ∀ i : Fin 8, Tab.frac ((Tab.prs 310).getD i.val 0 : Nat) 2 = ((Sha.H0.getD i.val 0 : Nat) : Int) := by decide +kernel
theorem prs_get (i : Nat) (h : i < 64) : (Tab.prs 310).getD i 0 ≤ 311 := by
  have := prs_mem 310 ((Tab.prs 310).getD i 0) (by
    rw [List.getD_eq_getElem?_getD, List.getElem?_eq_getElem (by rw [prs_310]; exact h)]
    exact List.getElem_mem _)
  omega

end Go.Proofs.Ytiiifcfgfmoiaaa
