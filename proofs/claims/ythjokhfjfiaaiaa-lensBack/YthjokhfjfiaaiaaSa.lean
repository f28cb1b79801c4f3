/-
  The queue's own methods: what is called through the interface, Len, Less, Swap, Push; push and Pop of the heap, and the queue's next: what comes out, and what is left; order comes out of the heap: the places whose number is above nought, the greatest first, for every list of a thousand at the most; whether two lists of numbers are one.
-/
import Derived.Test.YthjokhfjfiaaiaaHeap
import Derived.Test.YthjokhfjfiaaiaaPush
import Derived.Handy
import Derived.Deep.QuietTactic
import Derived.Deep.RegionWith
import Derived.OwnWalk
import Derived.BigQuiet
import Derived.Deep.RegionHeld3
namespace Go.Proofs.Ythjokhfjfiaaiaa
open Go.ChangeShapes Go.WideShapes Go.ChangeAt Go.RowKit
open Go.ChangeMaps (open_string shut_string)
theorem drewN_chg (W : World) (k : Nat) : Chg (fun _ => False) W (W.drewN k) := chg_drewN (chg_refl _ _) k
theorem drew_chg (W : World) : Chg (fun _ => False) W W.drew := chg_drew (chg_refl _ _)
theorem own_drew {W : World} {base e size : Nat} {v : Value} {n : Nat} {xs : List Value} (h : W.ownsRow base e size v n xs) : W.drew.ownsRow base e size v n xs :=
  own_kept (S := fun _ => False) h (drew_chg W) (fun _ _ h => h)
theorem chg_in {a W : World} {b : Nat} (h : Chg (· = b) a W) (j : Nat) (u : Value) : Chg (· = b) a (W.setCell ⟨b, j, none⟩ u) := chg_set h _ _ (fun _ => rfl)
theorem own_slice {W : World} {base e size : Nat} {v : Value} {n : Nat} {xs : List Value} (h : W.ownsRow base e size v n xs) (hn : 0 < n) : ∃ b cap, v = .slice (some ⟨b, 0, none⟩) n cap := by
  rcases h.2 with ⟨_, h0⟩ | ⟨b, cap, cur, hv, _⟩
  · omega
  · exact ⟨b, cap, hv⟩
theorem own_take {W : World} {base e size g n m cap : Nat} {xs : List Value} (h : W.ownsRow base e size (.slice (some ⟨g, 0, none⟩) m cap) m xs) (hn : n ≤ m) : W.ownsRow base e size (.slice (some ⟨g, 0, none⟩) n cap) n (xs.take (n * size)) := by
  have hms : n * size ≤ m * size := Nat.mul_le_mul_right _ hn
  refine ⟨by rw [List.length_take, h.1]; omega, ?_⟩
  rcases h.2 with ⟨h0, _⟩ | ⟨g', cap', cur, hv, hb, hg, hc, hm, hs, ht⟩
  · cases h0
  · injection hv with e1 e2 e3
    injection e1 with e1
    injection e1 with e1
    subst e1 e3
    exact .inr ⟨g, cap, cur, rfl, hb, hg, by omega, hm, hs, by rw [← ht, List.take_take, Nat.min_eq_left hms]⟩

def nis (l : List Nat) : List Value := ivs (l.map Int.ofNat)
theorem nis_len (l : List Nat) : (nis l).length = l.length := by simp [nis, ivs]
theorem own_up {W : World} {base B e size : Nat} {v : Value} {n : Nat} {xs : List Value} (h : W.ownsRow base e size v n xs) (hB : ∀ k, v.ownBlock = some k → B ≤ k) : W.ownsRow B e size v n xs := by
  refine ⟨h.1, ?_⟩
  rcases h.2 with hn | ⟨g, cap, cur, hv, hg, rest⟩
  · exact .inl hn
  · exact .inr ⟨g, cap, cur, hv, hB g (by rw [hv]; rfl), rest⟩
def From (B : Nat) (v : Value) : Prop := ∀ k, v.ownBlock = some k → B ≤ k
theorem from_moved {B : Nat} {W : World} {v v' : Value} (h : From B v) (m : Moved W v v') (hB : B ≤ W.heap.size) : From B v' := fun k hk => (m k hk).elim (h k) (fun e => Nat.le_trans hB e)
theorem places_le (f : List Int) (i : Nat) : (places f i).length ≤ i := by
  unfold places
  have := List.length_filter_le (fun p => decide (0 < fr f p)) (List.range i)
  simpa using this
theorem fr_at (f : List Int) (i : Nat) (h : i < f.length) : fr f i = f[i] := by unfold fr; rw [List.getD_eq_getElem?_getD, List.getElem?_eq_getElem h]; rfl


theorem take_snoc {α : Type} (l : List α) (i : Nat) (h : i < l.length) : l.take (i + 1) = l.take i ++ [l[i]] := by rw [List.take_succ_eq_append_getElem h]
end Go.Proofs.Ythjokhfjfiaaiaa
