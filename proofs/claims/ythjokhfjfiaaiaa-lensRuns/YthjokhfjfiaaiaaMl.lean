/-
  The lengths that the cheapest packages say are those of the splits.
-/
import Derived.Test.YthjokhfjfiaaiaaMq
import Derived.Test.YthjokhfjfiaaiaaPs
namespace Go.Proofs.Ythjokhfjfiaaiaa
open Go.ChangeShapes Go.WideShapes Go.ChangeAt Go.RowKit
open Go.ChangeMaps (open_string shut_string)

/-! ### sums of packages; a single's number -/
def vec (N : Nat) (ls : List Nat) : List Nat := (List.range N).map (fun q => ln ls (N - 1 - q))
theorem vec_len (N : Nat) (ls : List Nat) : (vec N ls).length = N := by simp [vec]
theorem sum_flip (h : Nat → Nat) : ∀ N, ((List.range N).map h).sum = ((List.range N).map (fun q => h (N - 1 - q))).sum
  | 0 => rfl
  | N + 1 => by
    rw [List.range_succ, List.map_append, List.sum_append, sum_flip h N, ← List.range_succ, List.range_succ_eq_map]
    simp only [List.map_cons, List.map_nil, List.sum_cons, List.sum_nil, Nat.add_zero, List.map_map]
    have e : (List.range N).map ((fun q => h (N + 1 - 1 - q)) ∘ Nat.succ) = (List.range N).map (fun q => h (N - 1 - q)) := by
      apply List.map_congr_left
      intro q _
      show h (N + 1 - 1 - (q + 1)) = h (N - 1 - q)
      congr 1; omega
    rw [e]
    show _ = h (N + 1 - 1 - 0) + _
    rw [show N + 1 - 1 - 0 = N by omega]; omega
def Falls (cs : List Nat) : Prop := ∀ i j, i < j → j < cs.length → at0 cs j ≤ at0 cs i
theorem at0_rev (l : List Nat) (i : Nat) (h : i < l.length) : at0 l.reverse i = at0 l (l.length - 1 - i) := by
  unfold at0
  rw [List.getD_eq_getElem?_getD, List.getD_eq_getElem?_getD, List.getElem?_reverse h]
theorem vec_at (N : Nat) (ls : List Nat) (q : Nat) (h : q < N) : at0 (vec N ls) q = ln ls (N - 1 - q) := by
  unfold at0 vec
  rw [List.getD_eq_getElem?_getD, List.getElem?_map, List.getElem?_range h]; rfl
theorem ln_append (a b : List Nat) (r : Nat) : ln (a ++ b) r = ln a r + ln b r := by unfold ln; exact List.countP_append
theorem ln_none (t : List Nat) (r : Nat) (h : ∀ x ∈ t, x ≤ r) : ln t r = 0 := by
  unfold ln; rw [List.countP_eq_zero]; intro x hx; have := h x hx; simp; omega
end Go.Proofs.Ythjokhfjfiaaiaa
