/-
  Classes that come alike often: the walk of MergeFlat.
-/
import Derived.Test.YthjokhfjfiaaiaaAg
namespace Go.Proofs.Ythjokhfjfiaaiaa
open Go.ChangeShapes Go.WideShapes Go.ChangeAt Go.RowKit
open Go.ChangeMaps (open_string shut_string)
def RdRel (n : Nat) (w : World) (sv : Value) (wr : World) : Prop := ∃ j : Nat, j ≤ n ∧ sv = .int .i64 j ∧ wr = w
theorem iv_at {W : World} {base e b n cap : Nat} {zs : List Int} (h : W.ownsRow base e 1 (.slice (some ⟨b, 0, none⟩) n cap) n (ivs zs)) (i : Nat) (hi : i < n) : W.cell? ⟨b, i, none⟩ = some (.int .i64 (fr zs i)) := by
  have hl : zs.length = n := by have := h.1; simpa [ivs] using this
  rw [(own_there h i (by omega)).1, fr_at zs i (by omega)]
  simp [ivs, iv, hl, hi]
theorem ni_cell {W : World} {base e b n cap : Nat} {l : List Nat} (h : W.ownsRow base e 1 (.slice (some ⟨b, 0, none⟩) n cap) n (ni l)) (i : Nat) (hi : i < n) : W.cell? ⟨b, i, none⟩ = some (.int .i64 (at0 l i : Int)) := by
  have hl : l.length = n := by have := h.1; rw [ni_len] at this; omega
  rw [(own_there h i (by omega)).1, ni_at l i (by omega)]
  unfold at0; rw [List.getD_eq_getElem?_getD, List.getElem?_eq_getElem (by omega)]; rfl
end Go.Proofs.Ythjokhfjfiaaiaa
