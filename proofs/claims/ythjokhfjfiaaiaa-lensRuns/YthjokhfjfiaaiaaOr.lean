/-
  Order comes out of the heap: the places whose number is above nought, the greatest first, for every list of a thousand at the most.
-/
import Derived.Test.YthjokhfjfiaaiaaPop
namespace Go.Proofs.Ythjokhfjfiaaiaa
open Go.ChangeShapes Go.WideShapes Go.ChangeAt Go.RowKit
open Go.ChangeMaps (open_string shut_string)

def nis (l : List Nat) : List Value := ivs (l.map Int.ofNat)
theorem nis_len (l : List Nat) : (nis l).length = l.length := by simp [nis, ivs]
theorem own_up {W : World} {base B e size : Nat} {v : Value} {n : Nat} {xs : List Value} (h : W.ownsRow base e size v n xs) (hB : ∀ k, v.ownBlock = some k → B ≤ k) : W.ownsRow B e size v n xs := by
  refine ⟨h.1, ?_⟩
  rcases h.2 with hn | ⟨g, cap, cur, hv, hg, rest⟩
  · exact .inl hn
  · exact .inr ⟨g, cap, cur, hv, hB g (by rw [hv]; rfl), rest⟩
def From (B : Nat) (v : Value) : Prop := ∀ k, v.ownBlock = some k → B ≤ k
theorem from_moved {B : Nat} {W : World} {v v' : Value} (h : From B v) (m : Moved W v v') (hB : B ≤ W.heap.size) : From B v' := fun k hk => (m k hk).elim (h k) (fun e => Nat.le_trans hB e)
theorem places_le (f : List Int) (i : Nat) : (places f i).length ≤ i := by
  unfold places
  have := List.length_filter_le (fun p => decide (0 < fr f p)) (List.range i)
  simpa using this
theorem fr_at (f : List Int) (i : Nat) (h : i < f.length) : fr f i = f[i] := by unfold fr; rw [List.getD_eq_getElem?_getD, List.getElem?_eq_getElem h]; rfl
end Go.Proofs.Ythjokhfjfiaaiaa
