/-
  A queue of two lists of packages; packages by two; the lengths that the cheapest packages say are those of the splits; a row of singles, one for each of order's classes.
-/
import Derived.Test.YthjokhfjfiaaiaaMq
import Derived.Test.YthjokhfjfiaaiaaSa
import Derived.Test.YthjokhfjfiaaiaaJm
import Derived.Test.YthjokhfjfiaaiaaPs
import Derived.Lib.AppendZeros
import Derived.Deep.RegionWith
namespace Go.Proofs.Ythjokhfjfiaaiaa
open Go.ChangeShapes Go.WideShapes Go.ChangeAt Go.RowKit
open Go.ChangeMaps (open_string shut_string)

/-- The cells of a list of packages. -/
def pkl (N : Nat) (ps : List Pk) : List Value := ps.flatMap (fun p => [.int .i64 (p.c : Int), pcv N p])
/-- A list of packages that can be read from a slice on. -/
def RK (W : World) (a : Option Addr) (n c N : Nat) (ps : List Pk) : Prop :=
  ps.length = n ∧ (a = none → c = 0 ∧ n = 0) ∧ ∀ x, a = some x → ∀ j u, (pkl N ps)[j]? = some u → W.cell? (x.add j) = some u

/-! ### sums of packages; a single's number -/
def vec (N : Nat) (ls : List Nat) : List Nat := (List.range N).map (fun q => ln ls (N - 1 - q))
theorem vec_len (N : Nat) (ls : List Nat) : (vec N ls).length = N := by simp [vec]
theorem sum_flip (h : Nat → Nat) : ∀ N, ((List.range N).map h).sum = ((List.range N).map (fun q => h (N - 1 - q))).sum
  | 0 => rfl
  | N + 1 => by
    rw [List.range_succ, List.map_append, List.sum_append, sum_flip h N, ← List.range_succ, List.range_succ_eq_map]
    simp only [List.map_cons, List.map_nil, List.sum_cons, List.sum_nil, Nat.add_zero, List.map_map]
    have e : (List.range N).map ((fun q => h (N + 1 - 1 - q)) ∘ Nat.succ) = (List.range N).map (fun q => h (N - 1 - q)) := by
      apply List.map_congr_left
      intro q _
      show h (N + 1 - 1 - (q + 1)) = h (N - 1 - q)
      congr 1; omega
    rw [e]
    show _ = h (N + 1 - 1 - 0) + _
    rw [show N + 1 - 1 - 0 = N by omega]; omega
def Falls (cs : List Nat) : Prop := ∀ i j, i < j → j < cs.length → at0 cs j ≤ at0 cs i
theorem at0_rev (l : List Nat) (i : Nat) (h : i < l.length) : at0 l.reverse i = at0 l (l.length - 1 - i) := by
  unfold at0
  rw [List.getD_eq_getElem?_getD, List.getD_eq_getElem?_getD, List.getElem?_reverse h]
theorem vec_at (N : Nat) (ls : List Nat) (q : Nat) (h : q < N) : at0 (vec N ls) q = ln ls (N - 1 - q) := by
  unfold at0 vec
  rw [List.getD_eq_getElem?_getD, List.getElem?_map, List.getElem?_range h]; rfl
theorem ln_append (a b : List Nat) (r : Nat) : ln (a ++ b) r = ln a r + ln b r := by unfold ln; exact List.countP_append
theorem ln_none (t : List Nat) (r : Nat) (h : ∀ x ∈ t, x ≤ r) : ln t r = 0 := by
  unfold ln; rw [List.countP_eq_zero]; intro x hx; have := h x hx; simp; omega

/-- The frequencies of order's classes. -/
def cs (f : List Int) (o : List Nat) : List Nat := o.map (fun p => (fr f p).toNat)
/-- The lengths of order's classes, in that order. -/
def Ranks (f : List Int) (limit : Nat) (o r : List Nat) : Prop :=
  r.length = o.length ∧ (o.length = 1 → r = [1]) ∧ (2 ≤ o.length → ∃ ls, Chain (cs f o).reverse limit (2 * o.length - 2) ls ∧ r = vec o.length ls)
theorem cs_len (f : List Int) (o : List Nat) : (cs f o).length = o.length := by simp [cs]
theorem cs_at (f : List Int) (o : List Nat) (i : Nat) (h : i < o.length) : at0 (cs f o) i = (fr f (g o i)).toNat := by
  unfold at0 cs
  rw [List.getD_eq_getElem?_getD, List.getElem?_map, List.getElem?_eq_getElem h, g_eq o i h]; rfl
theorem cs_falls {f : List Int} {n : Nat} {o : List Nat} (h : Ordered f n o) : Falls (cs f o) := by
  intro i j hij hj
  rw [cs_len] at hj
  rw [cs_at f o i (by omega), cs_at f o j hj]
  have := List.pairwise_iff_getElem.1 h.2 i j (by omega) hj hij
  rw [← g_eq o i (by omega), ← g_eq o j hj] at this
  unfold ltf at this
  omega
theorem cs_pos {f : List Int} {n : Nat} {o : List Nat} (h : Ordered f n o) : ∀ x ∈ cs f o, 0 < x := by
  intro x hx
  obtain ⟨p, hp, rfl⟩ := List.mem_map.1 hx
  have := ((ordered_mem h p).1 hp).2
  omega
theorem ordered_len {f : List Int} {n : Nat} {o : List Nat} (h : Ordered f n o) : o.length ≤ n := by rw [h.1.length_eq]; exact places_le f n
end Go.Proofs.Ythjokhfjfiaaiaa
