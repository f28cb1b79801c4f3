/-
  What lengths cost, and what the reference says of it.
-/
import Derived.Test.YtgejcdmiihmlfaaLe
namespace Go.Proofs.Ytgejcdmiihmlfaa
open Go.ChangeShapes Go.WideShapes Go.ChangeAt Go.RowKit
open Go.ChangeMaps (open_string shut_string)

def dot (f l : List Int) : Int := ((f.zip l).map (fun p => p.1 * p.2)).sum
end Go.Proofs.Ytgejcdmiihmlfaa
