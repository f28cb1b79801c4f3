/-
  A heap in a list, by its steps up and down, and what comes out of it one after the other; entries in memory.
-/
import Derived.Test.YtplalkhjjndffaaOb
import Derived.Test.YtplalkhjjndffaaObn
import Derived.Test.YtplalkhjjndffaaPop
import Derived.Deep.OwnRows
namespace Go.Proofs.Ytplalkhjjndffaa
open Go.ChangeShapes Go.WideShapes Go.ChangeAt Go.RowKit
open Go.ChangeMaps (open_string shut_string)
/-- Block A holds a queue of these places; its row lies in v. -/
def Qun (W : World) (A : Nat) (v : Value) (f : List Int) (l : List Nat) : Prop :=
  Blk W A #[v] 87 ∧ W.ownsRow 0 73 2 v l.length (evs f l) ∧ v.ownBlock ≠ some A
theorem qu_keptn {W W' : World} {S : Nat → Prop} {A : Nat} {v : Value} {f : List Int} {l : List Nat} (h : Qun W A v f l) (c : Chg S W W') (hS : ∀ k, foot A v k → ¬ S k) : Qun W' A v f l :=
  ⟨blk_kept h.1 c (hS A (.inl rfl)), own_kept h.2.1 c (fun k hk => hS k (.inr hk)), h.2.2⟩
theorem qu_celln {W : World} {A : Nat} {v : Value} {f : List Int} {l : List Nat} (h : Qun W A v f l) : W.cell? ⟨A, 0, none⟩ = some v ∧ W.frozen? ⟨A, 0, none⟩ = false :=
  ⟨by rw [blk_cell h.1]; rfl, blk_free h.1 0⟩
theorem qu_valn {W : World} {A : Nat} {v : Value} {f : List Int} {l : List Nat} (h : Qun W A v f l) : ∃ a cap, v = .slice a l.length cap ∧ l.length ≤ cap ∧ (0 < l.length → ∃ b, a = some ⟨b, 0, none⟩) := by
  rcases h.2.1.2 with ⟨hv, hn⟩ | ⟨b, cap, cur, hv, _, _, hc, _⟩
  · exact ⟨none, 0, by rw [hv, hn], by omega, fun h0 => by omega⟩
  · exact ⟨_, cap, hv, hc, fun _ => ⟨b, rfl⟩⟩

end Go.Proofs.Ytplalkhjjndffaa
