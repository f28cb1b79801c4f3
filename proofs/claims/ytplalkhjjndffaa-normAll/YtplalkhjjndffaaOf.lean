/-
  How many parts are of each class, for every list of a thousand at the most.
-/
import Derived.Test.YtplalkhjjndffaaOr
namespace Go.Proofs.Ytplalkhjjndffaa
open Go.ChangeShapes Go.WideShapes Go.ChangeAt Go.RowKit
open Go.ChangeMaps (open_string shut_string)
theorem take_snoc {α : Type} (l : List α) (i : Nat) (h : i < l.length) : l.take (i + 1) = l.take i ++ [l[i]] := by rw [List.take_succ_eq_append_getElem h]
end Go.Proofs.Ytplalkhjjndffaa
