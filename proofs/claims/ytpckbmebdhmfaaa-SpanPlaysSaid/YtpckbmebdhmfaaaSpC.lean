/-
  The landed span keeps the contracts that its laws ask of it.
-/
import Derived.Test.YtpckbmebdhmfaaaSpL4
import Derived.Test.YtpckbmebdhmfaaaSpL5
import Derived.Test.YtpckbmebdhmfaaaSpN6
namespace Go.Proofs.Ytpckbmebdhmfaaa
open Go.RowKit
theorem spanC : SpanC SpS where
  keepS h hk hS := h.keep hk hS
  ltS h := h.lt
  okS h := h.ok
  newS w k hk := new_any w k hk
  lenS w _ _ _ _ h hn := len_any w h hn
  listS w _ _ _ _ h hn := list_any w h hn
  hasS w _ _ _ n _ h hn hk := has_any w n h hn hk
  covS w _ _ _ _ r h hn h1 h2 := cov_any w r h hn h1 h2
  addS w _ _ _ _ r h hn h1 h2 := add_any w r h hn h1 h2
  lastS w _ _ _ _ r h hn h1 h2 := last_any w r h hn h1 h2
  cutS w _ _ _ _ r h hn h1 h2 := cut_any w r h hn h1 h2
  firstS w _ _ _ n _ h hn hk := first_any w n h hn hk
  topS w _ _ _ _ h hn := top_any w h hn
  countS w _ _ _ _ h hn := count_any w h hn
  copyS w _ _ _ _ h hn := copy_any w h hn
  lenN w := lenN_any w
  listN w := listN_any w
  hasN w n := hasN_any w n
  covN w r := covN_any w r
  addN w r := addN_any w r
  lastN w r := lastN_any w r
  cutN w r := cutN_any w r
  firstN w n := firstN_any w n
  topN w := topN_any w
  countN w := countN_any w
  copyN w := copyN_any w
end Go.Proofs.Ytpckbmebdhmfaaa
