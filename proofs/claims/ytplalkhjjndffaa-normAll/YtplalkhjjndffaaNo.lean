/-
  The first of Order is the first place of the greatest number; the condition stands at the theorem.
-/
import Derived.Test.YtplalkhjjndffaaNa
import Derived.Test.YtplalkhjjndffaaJm
namespace Go.Proofs.Ytplalkhjjndffaa
theorem fr_map (l : List Nat) (p : Nat) : fr (l.map Int.ofNat) p = (l.getD p 0 : Int) := by
  simp only [fr, List.getD_eq_getElem?_getD, List.getElem?_map]
  cases l[p]? <;> simp
/-- The first of Order is the first place of the greatest number. -/
theorem ordered_top {l : List Nat} {k : Nat} {r : List Nat} (h : Ordered (l.map Int.ofNat) l.length (k :: r)) : topOf l = k := by
  have hk := (ordered_mem h k).1 (by simp)
  rw [fr_map] at hk
  have hp := List.pairwise_cons.1 h.2
  have key : ∀ i, i < l.length → 0 < l.getD i 0 → i ≠ k → ¬ ltf (l.map Int.ofNat) i k := fun i hi h0 hne => by
    have hm := (ordered_mem h i).2 ⟨hi, by rw [fr_map]; omega⟩
    rcases List.mem_cons.1 hm with e | e
    · exact absurd e hne
    · exact hp.1 i e
  apply topOf_eq
  refine ⟨hk.1, fun i hi => ?_, fun i hi => ?_⟩
  · by_cases h0 : 0 < l.getD i 0
    · by_cases hne : i = k
      · subst hne; omega
      · have := key i hi h0 hne
        simp only [ltf, fr_map] at this
        omega
    · omega
  · by_cases h0 : 0 < l.getD i 0
    · have := key i (by omega) h0 (by omega)
      simp only [ltf, fr_map] at this
      omega
    · omega
end Go.Proofs.Ytplalkhjjndffaa
