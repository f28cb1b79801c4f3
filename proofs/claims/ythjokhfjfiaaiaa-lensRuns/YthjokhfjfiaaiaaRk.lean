/-
  A row of singles, one for each of order's classes.
-/
import Derived.Test.YthjokhfjfiaaiaaQo
import Derived.Test.YthjokhfjfiaaiaaPs
import Derived.Test.YthjokhfjfiaaiaaMl
import Derived.Deep.RegionWith
namespace Go.Proofs.Ythjokhfjfiaaiaa
open Go.ChangeShapes Go.WideShapes Go.ChangeAt Go.RowKit
open Go.ChangeMaps (open_string shut_string)

/-- The frequencies of order's classes. -/
def cs (f : List Int) (o : List Nat) : List Nat := o.map (fun p => (fr f p).toNat)
/-- The lengths of order's classes, in that order. -/
def Ranks (f : List Int) (limit : Nat) (o r : List Nat) : Prop :=
  r.length = o.length ∧ (o.length = 1 → r = [1]) ∧ (2 ≤ o.length → ∃ ls, Chain (cs f o).reverse limit (2 * o.length - 2) ls ∧ r = vec o.length ls)
theorem cs_len (f : List Int) (o : List Nat) : (cs f o).length = o.length := by simp [cs]
theorem cs_at (f : List Int) (o : List Nat) (i : Nat) (h : i < o.length) : at0 (cs f o) i = (fr f (g o i)).toNat := by
  unfold at0 cs
  rw [List.getD_eq_getElem?_getD, List.getElem?_map, List.getElem?_eq_getElem h, g_eq o i h]; rfl
theorem cs_falls {f : List Int} {n : Nat} {o : List Nat} (h : Ordered f n o) : Falls (cs f o) := by
  intro i j hij hj
  rw [cs_len] at hj
  rw [cs_at f o i (by omega), cs_at f o j hj]
  have := List.pairwise_iff_getElem.1 h.2 i j (by omega) hj hij
  rw [← g_eq o i (by omega), ← g_eq o j hj] at this
  unfold ltf at this
  omega
theorem cs_pos {f : List Int} {n : Nat} {o : List Nat} (h : Ordered f n o) : ∀ x ∈ cs f o, 0 < x := by
  intro x hx
  obtain ⟨p, hp, rfl⟩ := List.mem_map.1 hx
  have := ((ordered_mem h p).1 hp).2
  omega
theorem ordered_len {f : List Int} {n : Nat} {o : List Nat} (h : Ordered f n o) : o.length ≤ n := by rw [h.1.length_eq]; exact places_le f n
end Go.Proofs.Ythjokhfjfiaaiaa
