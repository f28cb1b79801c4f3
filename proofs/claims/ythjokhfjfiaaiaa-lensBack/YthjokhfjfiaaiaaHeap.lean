/-
  A heap in a list, by its steps up and down, and what comes out of it one after the other; entries in memory.
-/
import Derived.Test.YthjokhfjfiaaiaaRw
namespace Go.Proofs.Ythjokhfjfiaaiaa
open Go.ChangeShapes Go.WideShapes Go.ChangeAt Go.RowKit
open Go.ChangeMaps (open_string shut_string)

/-! ### places by two: a heap in a list -/
def g (l : List Nat) (i : Nat) : Nat := l.getD i 0
theorem g_eq (l : List Nat) (i : Nat) (h : i < l.length) : g l i = l[i] := by unfold g; rw [List.getD_eq_getElem?_getD, List.getElem?_eq_getElem h]; rfl
theorem g_mem (l : List Nat) (i : Nat) (h : i < l.length) : g l i ∈ l := by rw [g_eq l i h]; exact List.getElem_mem h
theorem mem_g {l : List Nat} {x : Nat} (h : x ∈ l) : ∃ i, i < l.length ∧ g l i = x := by
  obtain ⟨i, hi, e⟩ := List.getElem_of_mem h
  exact ⟨i, hi, by rw [g_eq l i hi]; exact e⟩
/-! ### the greatest first, of two alike the lesser place first -/
def fr (f : List Int) (p : Nat) : Int := f.getD p 0
def ltf (f : List Int) (p q : Nat) : Prop := fr f q < fr f p ∨ (fr f p = fr f q ∧ p < q)
def places (f : List Int) (n : Nat) : List Nat := (List.range n).filter (fun p => decide (0 < fr f p))
theorem places_succ (f : List Int) (n : Nat) : places f (n + 1) = if 0 < fr f n then places f n ++ [n] else places f n := by
  unfold places
  rw [List.range_succ, List.filter_append]
  by_cases h : 0 < fr f n
  · rw [if_pos h]; simp [h]
  · rw [if_neg h]; simp [h]
theorem places_mem (f : List Int) (n p : Nat) : p ∈ places f n ↔ p < n ∧ 0 < fr f p := by unfold places; simp
theorem places_nodup (f : List Int) (n : Nat) : (places f n).Nodup := List.Pairwise.filter _ List.nodup_range
def Ordered (f : List Int) (n : Nat) (l : List Nat) : Prop := l.Perm (places f n) ∧ l.Pairwise (fun a b => ¬ ltf f b a)
theorem ordered_mem {f : List Int} {n : Nat} {l : List Nat} (h : Ordered f n l) (p : Nat) : p ∈ l ↔ p < n ∧ 0 < fr f p := by rw [h.1.mem_iff, places_mem]
theorem ordered_nodup {f : List Int} {n : Nat} {l : List Nat} (h : Ordered f n l) : l.Nodup := h.1.nodup_iff.2 (places_nodup f n)
/-- A place set in where it belongs. -/
theorem ordered_ins {f : List Int} {n k : Nat} {l : List Nat} (h : Ordered f n l) (hn : 0 < fr f n) (hk : k ≤ l.length) (hd : ∀ b ∈ l.drop k, fr f b < fr f n) (he : k = 0 ∨ fr f n ≤ fr f (g l (k - 1))) :
    Ordered f (n + 1) (l.take k ++ n :: l.drop k) := by
  have hlt : ∀ p ∈ l, p < n := fun p hp => ((ordered_mem h p).1 hp).1
  have hsp : l.take k ++ l.drop k = l := List.take_append_drop k l
  have hpw := h.2
  rw [← hsp, List.pairwise_append] at hpw
  obtain ⟨p1, p2, p3⟩ := hpw
  refine ⟨?_, ?_⟩
  · rw [places_succ, if_pos hn]
    refine List.Perm.trans List.perm_middle ?_
    rw [hsp]
    exact (List.Perm.cons n h.1).trans (List.perm_append_singleton n _).symm
  · rw [List.pairwise_append, List.pairwise_cons]
    refine ⟨p1, ⟨fun b hb => ?_, p2⟩, fun a ha b hb => ?_⟩
    · have := hd b hb
      unfold ltf; omega
    · have aB : fr f n ≤ fr f a := by
        rcases he with rfl | he
        · simp at ha
        · obtain ⟨i, hi, e⟩ := mem_g ha
          rw [List.length_take] at hi
          have ge : g (l.take k) i = g l i := by unfold g; rw [List.getD_eq_getElem?_getD, List.getD_eq_getElem?_getD, List.getElem?_take, if_pos (by omega)]
          rw [ge] at e
          have hk1 : k - 1 < l.length := by omega
          by_cases hik : i = k - 1
          · rw [← e, hik]; exact he
          · have := List.pairwise_iff_getElem.1 h.2 i (k - 1) (by omega) hk1 (by omega)
            rw [← g_eq l i (by omega), ← g_eq l (k - 1) hk1, e] at this
            unfold ltf at this; omega
      have haN := hlt a (List.mem_of_mem_take ha)
      rcases List.mem_cons.1 hb with rfl | hb
      · unfold ltf; omega
      · exact p3 a ha b hb
theorem ordered_skip {f : List Int} {n : Nat} {l : List Nat} (h : Ordered f n l) (hn : ¬ 0 < fr f n) : Ordered f (n + 1) l := by
  refine ⟨?_, h.2⟩
  rw [places_succ, if_neg hn]; exact h.1
theorem ordered_zero (f : List Int) : Ordered f 0 [] := ⟨List.Perm.refl _, List.Pairwise.nil⟩

def foot (A : Nat) (v : Value) (k : Nat) : Prop := k = A ∨ v.ownBlock = some k
end Go.Proofs.Ythjokhfjfiaaiaa
