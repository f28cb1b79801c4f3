/-
  The document's example: awake.
-/
import Derived.Test.YthjokhfjfiaaiaaLe
namespace Go.Proofs.Ythjokhfjfiaaiaa
open Go.ChangeShapes Go.WideShapes Go.ChangeAt Go.RowKit
open Go.ChangeMaps (open_string shut_string)
theorem own_ri2 {W : World} {base e b n cap : Nat} {zs : List Int} (h : W.ownsRow base e 1 (.slice (some ⟨b, 0, none⟩) n cap) n (ivs zs)) : RI W (some ⟨b, 0, none⟩) n zs := by
  obtain ⟨a, c, hv, _, _, r⟩ := own_ri h
  injection hv with hv _ _
  rw [hv]; exact r
theorem made_at (n i : Nat) (h : i < n) : (madeCells #[Value.int .i64 0] n)[i]? = some (.int .i64 0) := by
  have h' : i < (madeCells #[Value.int .i64 0] n).size := by simp [madeCells]; exact h
  rw [Array.getElem?_eq_getElem h']
  simp [madeCells, Nat.mod_one]
end Go.Proofs.Ythjokhfjfiaaiaa
