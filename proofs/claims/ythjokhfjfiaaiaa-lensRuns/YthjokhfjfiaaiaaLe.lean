/-
  Lengths: of whatever frequencies and limit, or the error.
-/
import Derived.Test.YthjokhfjfiaaiaaMy
namespace Go.Proofs.Ythjokhfjfiaaiaa
open Go.ChangeShapes Go.WideShapes Go.ChangeAt Go.RowKit
open Go.ChangeMaps (open_string shut_string)

theorem chg_cell {S : Nat → Prop} {W W' : World} {p : Addr} (c : Chg S W W') (hp : ¬ S p.block) (hlt : p.block < W.heap.size) : W'.cell? p = W.cell? p := by
  have h := c.2.2.2.2 p.block hlt hp
  simp [World.cell?, h]
end Go.Proofs.Ythjokhfjfiaaiaa
