/-
  A queue of two lists of packages; packages by two.
-/
import Derived.Test.YthjokhfjfiaaiaaMq
import Derived.Test.YthjokhfjfiaaiaaQm
import Derived.Test.YthjokhfjfiaaiaaPop
import Derived.Test.YthjokhfjfiaaiaaOr
import Derived.Test.YthjokhfjfiaaiaaJm
import Derived.Lib.AppendZeros
namespace Go.Proofs.Ythjokhfjfiaaiaa
open Go.ChangeShapes Go.WideShapes Go.ChangeAt Go.RowKit
open Go.ChangeMaps (open_string shut_string)

/-- The cells of a list of packages. -/
def pkl (N : Nat) (ps : List Pk) : List Value := ps.flatMap (fun p => [.int .i64 (p.c : Int), pcv N p])
/-- A list of packages that can be read from a slice on. -/
def RK (W : World) (a : Option Addr) (n c N : Nat) (ps : List Pk) : Prop :=
  ps.length = n ∧ (a = none → c = 0 ∧ n = 0) ∧ ∀ x, a = some x → ∀ j u, (pkl N ps)[j]? = some u → W.cell? (x.add j) = some u
end Go.Proofs.Ythjokhfjfiaaiaa
