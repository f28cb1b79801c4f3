/-
  Classes that come alike often: the walk of MergeFlat; lengths that may be: the reference's MayLens.
-/
import Derived.Test.YthjokhfjfiaaiaaAg
import Derived.Test.YthjokhfjfiaaiaaPl
namespace Go.Proofs.Ythjokhfjfiaaiaa
open Go.ChangeShapes Go.WideShapes Go.ChangeAt Go.RowKit
open Go.ChangeMaps (open_string shut_string)
def RdRel (n : Nat) (w : World) (sv : Value) (wr : World) : Prop := ∃ j : Nat, j ≤ n ∧ sv = .int .i64 j ∧ wr = w
theorem iv_at {W : World} {base e b n cap : Nat} {zs : List Int} (h : W.ownsRow base e 1 (.slice (some ⟨b, 0, none⟩) n cap) n (ivs zs)) (i : Nat) (hi : i < n) : W.cell? ⟨b, i, none⟩ = some (.int .i64 (fr zs i)) := by
  have hl : zs.length = n := by have := h.1; simpa [ivs] using this
  rw [(own_there h i (by omega)).1, fr_at zs i (by omega)]
  simp [ivs, iv, hl, hi]
theorem ni_cell {W : World} {base e b n cap : Nat} {l : List Nat} (h : W.ownsRow base e 1 (.slice (some ⟨b, 0, none⟩) n cap) n (ni l)) (i : Nat) (hi : i < n) : W.cell? ⟨b, i, none⟩ = some (.int .i64 (at0 l i : Int)) := by
  have hl : l.length = n := by have := h.1; rw [ni_len] at this; omega
  rw [(own_there h i (by omega)).1, ni_at l i (by omega)]
  unfold at0; rw [List.getD_eq_getElem?_getD, List.getElem?_eq_getElem (by omega)]; rfl

theorem mS_succ (L : List Nat) (i : Nat) : mS L (i + 1) = mS L i + if 0 < at0 L i then 2 ^ (15 - at0 L i) else 0 := by
  unfold mS; rw [List.range_succ, List.map_append, List.sum_append]; simp
theorem mC_succ (L : List Nat) (i : Nat) : mC L (i + 1) = mC L i + if 0 < at0 L i then 1 else 0 := by
  unfold mC; rw [List.range_succ, List.map_append, List.sum_append]; simp
theorem pow_15 (l : Nat) : 2 ^ (15 - l) ≤ 32768 := Nat.le_trans (Nat.pow_le_pow_right (by omega) (by omega : 15 - l ≤ 15)) (by decide)
theorem mS_bd (L : List Nat) : ∀ i, mS L i ≤ i * 32768
  | 0 => by simp [mS]
  | i + 1 => by
    have h1 := mS_bd L i
    have h2 := pow_15 (at0 L i)
    rw [mS_succ, Nat.succ_mul]
    generalize mS L i = x at *
    generalize 2 ^ (15 - at0 L i) = z at *
    generalize i * 32768 = y at *
    split <;> omega
theorem mC_bd (L : List Nat) : ∀ i, mC L i ≤ i
  | 0 => by simp [mC]
  | i + 1 => by
    have := mC_bd L i
    rw [mC_succ]
    split <;> omega
end Go.Proofs.Ythjokhfjfiaaiaa
