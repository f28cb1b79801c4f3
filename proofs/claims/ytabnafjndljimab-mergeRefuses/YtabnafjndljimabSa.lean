/-
  Whether two lists of numbers are one.
-/
import Derived.Test.YtabnafjndljimabOr
import Derived.Deep.QuietTactic
import Derived.BigQuiet
import Derived.Deep.RegionHeld3
namespace Go.Proofs.Ytabnafjndljimab
open Go.ChangeShapes Go.WideShapes Go.ChangeAt Go.RowKit
open Go.ChangeMaps (open_string shut_string)


theorem take_snoc {α : Type} (l : List α) (i : Nat) (h : i < l.length) : l.take (i + 1) = l.take i ++ [l[i]] := by rw [List.take_succ_eq_append_getElem h]
def SaRelI (zs ys : List Int) (w : World) (sv : Value) (wr : World) : Prop :=
  ∃ i : Nat, i ≤ zs.length ∧ sv = .int .i64 i ∧ zs.take i = ys.take i ∧ Below w.heap.size w wr
end Go.Proofs.Ytabnafjndljimab
