/-
  A queue of two lists of packages; packages by two.
-/
import Derived.Test.YtgejcdmiihmlfaaMq
import Derived.Test.YtgejcdmiihmlfaaQm
import Derived.Test.YtgejcdmiihmlfaaUp
import Derived.Test.YtgejcdmiihmlfaaPop
import Derived.Test.YtgejcdmiihmlfaaOr
import Derived.Test.YtgejcdmiihmlfaaJm
import Derived.Lib.AppendZeros
namespace Go.Proofs.Ytgejcdmiihmlfaa
open Go.ChangeShapes Go.WideShapes Go.ChangeAt Go.RowKit
open Go.ChangeMaps (open_string shut_string)

/-- The cells of a list of packages. -/
def pkl (N : Nat) (ps : List Pk) : List Value := ps.flatMap (fun p => [.int .i64 (p.c : Int), pcv N p])
/-- A list of packages that can be read from a slice on. -/
def RK (W : World) (a : Option Addr) (n c N : Nat) (ps : List Pk) : Prop :=
  ps.length = n ∧ (a = none → c = 0 ∧ n = 0) ∧ ∀ x, a = some x → ∀ j u, (pkl N ps)[j]? = some u → W.cell? (x.add j) = some u
end Go.Proofs.Ytgejcdmiihmlfaa
