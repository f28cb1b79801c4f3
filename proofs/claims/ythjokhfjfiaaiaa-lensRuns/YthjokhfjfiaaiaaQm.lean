/-
  The queue's own methods: what is called through the interface, Len, Less, Swap, Push.
-/
import Derived.Test.YthjokhfjfiaaiaaHeap
import Derived.Test.YthjokhfjfiaaiaaPush
import Derived.Handy
import Derived.Deep.QuietTactic
import Derived.Deep.RegionWith
import Derived.OwnWalk
import Derived.BigQuiet
namespace Go.Proofs.Ythjokhfjfiaaiaa
open Go.ChangeShapes Go.WideShapes Go.ChangeAt Go.RowKit
open Go.ChangeMaps (open_string shut_string)
theorem drewN_chg (W : World) (k : Nat) : Chg (fun _ => False) W (W.drewN k) := chg_drewN (chg_refl _ _) k
theorem drew_chg (W : World) : Chg (fun _ => False) W W.drew := chg_drew (chg_refl _ _)
theorem own_drew {W : World} {base e size : Nat} {v : Value} {n : Nat} {xs : List Value} (h : W.ownsRow base e size v n xs) : W.drew.ownsRow base e size v n xs :=
  own_kept (S := fun _ => False) h (drew_chg W) (fun _ _ h => h)
theorem chg_in {a W : World} {b : Nat} (h : Chg (· = b) a W) (j : Nat) (u : Value) : Chg (· = b) a (W.setCell ⟨b, j, none⟩ u) := chg_set h _ _ (fun _ => rfl)
theorem own_slice {W : World} {base e size : Nat} {v : Value} {n : Nat} {xs : List Value} (h : W.ownsRow base e size v n xs) (hn : 0 < n) : ∃ b cap, v = .slice (some ⟨b, 0, none⟩) n cap := by
  rcases h.2 with ⟨_, h0⟩ | ⟨b, cap, cur, hv, _⟩
  · omega
  · exact ⟨b, cap, hv⟩
end Go.Proofs.Ythjokhfjfiaaiaa
