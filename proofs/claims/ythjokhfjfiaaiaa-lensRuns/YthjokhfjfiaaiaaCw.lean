/-
  The document's example: awake.
-/
import Derived.Test.YthjokhfjfiaaiaaCa
import Derived.Test.YthjokhfjfiaaiaaOr
import Derived.BigRegion
import Derived.Deep.RegionHeld3
namespace Go.Proofs.Ythjokhfjfiaaiaa
open Go.ChangeShapes Go.WideShapes Go.ChangeAt Go.RowKit
open Go.ChangeMaps (open_string shut_string)

theorem err_any (x : Int) (w : World) : Calls Try.prog 13 #[.int .i64 x] w fun e w' => e = .returned (.int .i64 x) ∧ w' = w := by
  go_enter Try.func13, Try.ntmps13
  go_wp2
  go_ret
  exact ⟨rfl, rfl⟩
end Go.Proofs.Ythjokhfjfiaaiaa
