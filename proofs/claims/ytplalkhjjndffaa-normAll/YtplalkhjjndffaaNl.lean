/-
  What is taken from the greatest number, and a heap of all places; each condition stands at its theorem.
-/
import Derived.Test.YtplalkhjjndffaaNo
import Derived.Test.YtplalkhjjndffaaOr
namespace Go.Proofs.Ytplalkhjjndffaa
open Go.ChangeShapes Go.WideShapes Go.ChangeAt Go.RowKit
open Go.ChangeMaps (open_string shut_string)

theorem nis_map (L : List Nat) : nis L = ivs (L.map Int.ofNat) := rfl
theorem decN_succ (n : Nat) (l : List Nat) : decN (n + 1) l = dec (decN n l) := by
  induction n generalizing l with
  | zero => rfl
  | succ n ih => rw [decN, ih]; rfl
theorem decN_sum (n : Nat) (l : List Nat) (h : l.length + n ≤ l.sum) : (decN n l).sum + n = l.sum := by
  induction n with
  | zero => rfl
  | succ n ih =>
    have := ih (by omega)
    have d := dec_sum (l := decN n l) (by rw [decN_length]; omega)
    rw [decN_succ]; omega
/-- The root of a heap of all places is the first place of the greatest number. -/
theorem heap_top {M l : List Nat} (h : HeapFrom (ltf (M.map Int.ofNat)) l l.length 0) (hp : l.Perm (List.range M.length)) (h0 : 0 < M.length) : g l 0 = topOf M := by
  have hl : l.length = M.length := by rw [hp.length_eq, List.length_range]
  refine (topOf_eq ?_).symm
  have hm : ∀ i, i < M.length → ¬ ltf (M.map Int.ofNat) i (g l 0) := fun i hi => by
    obtain ⟨k, hk, rfl⟩ := mem_g (hp.mem_iff.2 (List.mem_range.2 hi))
    exact heap_root (ltf_ord _) h k hk
  refine ⟨List.mem_range.1 (hp.mem_iff.1 (g_mem l 0 (by omega))), fun i hi => ?_, fun i hi => ?_⟩
  · have := hm i hi
    simp only [ltf, fr_map] at this
    omega
  · have := hm i (by have := List.mem_range.1 (hp.mem_iff.1 (g_mem l 0 (by omega))); omega)
    simp only [ltf, fr_map] at this
    omega
theorem fr_dec {M : List Nat} (h : M.length < M.sum) (q : Nat) (hq : q ≠ topOf M) : fr ((dec M).map Int.ofNat) q = fr (M.map Int.ofNat) q := by
  rw [fr_map, fr_map, dec_getD h, if_neg hq]
theorem fr_dec_top {M : List Nat} (h : M.length < M.sum) : fr ((dec M).map Int.ofNat) (topOf M) = fr (M.map Int.ofNat) (topOf M) - 1 := by
  have := mx_two h
  rw [fr_map, fr_map, dec_getD h, if_pos rfl, topOf_get]
  omega
theorem evs_dec {M l : List Nat} (h : M.length < M.sum) (hl : topOf M ∉ l) : evs ((dec M).map Int.ofNat) l = evs (M.map Int.ofNat) l := by
  induction l with
  | nil => rfl
  | cons q l ih =>
    have e : ∀ f : List Int, evs f (q :: l) = ev f q ++ evs f l := fun f => rfl
    rw [e, e, ih (fun hm => hl (by simp [hm]))]
    unfold ev
    rw [fr_dec h q (fun e => hl (by simp [e]))]
theorem heap_dec {M l : List Nat} (h : M.length < M.sum) (hl : topOf M ∉ l) (hh : HeapFrom (ltf (M.map Int.ofNat)) l l.length 0) : HeapFrom (ltf ((dec M).map Int.ofNat)) l l.length 0 := by
  intro k h0 hk hi hlt
  have e : ∀ j, j < l.length → fr ((dec M).map Int.ofNat) (g l j) = fr (M.map Int.ofNat) (g l j) := fun j hj => fr_dec h _ (fun e => hl (by rw [← e]; exact g_mem l j hj))
  refine hh k h0 hk hi ?_
  unfold ltf at hlt ⊢
  rw [e k hk, e _ (by omega)] at hlt
  exact hlt
theorem dec_nis {M : List Nat} (h : M.length < M.sum) : (nis M).set (topOf M) (.int .i64 (fr (M.map Int.ofNat) (topOf M) - 1)) = nis (dec M) := by
  have hm := mx_two h
  have e : fr (M.map Int.ofNat) (topOf M) - 1 = ((mxOf M - 1 : Nat) : Int) := by rw [fr_map, topOf_get]; omega
  rw [e, nis_map, ivs_set, nis_map]
  unfold dec
  rw [List.map_set, topOf_get]
  rfl
theorem pop_rest {M l2 : List Nat} {p : Nat} (h : PopInv (ltf (M.map Int.ofNat)) (List.range M.length) ([] ++ [p]) l2) : p ∉ l2 ∧ (l2 ++ [p]).Perm (List.range M.length) ∧ HeapFrom (ltf (M.map Int.ofNat)) l2 l2.length 0 := by
  have hp : (p :: l2).Perm (List.range M.length) := h.1
  have nd := hp.nodup_iff.2 List.nodup_range
  exact ⟨(List.nodup_cons.1 nd).1, List.perm_append_comm.trans hp, h.2.2.2⟩
end Go.Proofs.Ytplalkhjjndffaa
