/-
  CanonAll's walk: whether any lengths may be, their codes, or the error.
-/
import Derived.Test.YthjokhfjfiaaiaaCa
import Derived.Test.YthjokhfjfiaaiaaSa
import Derived.Test.YthjokhfjfiaaiaaMa
import Derived.Test.YthjokhfjfiaaiaaKc
import Derived.BigRegion
import Derived.Deep.RegionHeld3
import Derived.BigQuiet
namespace Go.Proofs.Ythjokhfjfiaaiaa
open Go.ChangeShapes Go.WideShapes Go.ChangeAt Go.RowKit
open Go.ChangeMaps (open_string shut_string)

theorem held_keep {w8 a b : World} {B : Nat} {u v : Value} (hB : B < w8.heap.size) (h : (a.cell? ⟨B, 0, none⟩ = some u ∧ a.cell? ⟨B, 1, none⟩ = some v) ∧ Below w8.heap.size w8 a) (k : Below a.heap.size a b) :
    (b.cell? ⟨B, 0, none⟩ = some u ∧ b.cell? ⟨B, 1, none⟩ = some v) ∧ Below w8.heap.size w8 b := by
  have hlt : B < a.heap.size := Nat.lt_of_lt_of_le hB h.2.size
  exact ⟨⟨by rw [k.cell (p := ⟨B, 0, none⟩) hlt]; exact h.1.1, by rw [k.cell (p := ⟨B, 1, none⟩) hlt]; exact h.1.2⟩, h.2.trans (k.mono h.2.size)⟩
theorem held_tail {w8 a : World} {p : Prop} (h : p ∧ Below w8.heap.size w8 a) : Below w8.heap.size w8 a := h.2
theorem held_same {a b : World} (h : b = a) : Below a.heap.size a b := by rw [h]; exact Below.refl _ _
end Go.Proofs.Ythjokhfjfiaaiaa
