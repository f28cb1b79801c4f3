/-
  Whether two rows of codes are one: of the same codes.
-/
import Derived.Test.YtgejcdmiihmlfaaCd
import Derived.Test.YtgejcdmiihmlfaaKn
namespace Go.Proofs.Ytgejcdmiihmlfaa
open Go.ChangeShapes Go.WideShapes Go.ChangeAt Go.RowKit
open Go.ChangeMaps (open_string shut_string)

theorem same_nil (w : World) : Calls Try.prog 13 #[.slice none 0 0, .slice none 0 0] w fun e w' => e = .returned (.bool true) ∧ w' = w := by
  go_enter Try.func13, Try.ntmps13
  go_wp2_with fail
  go_loopw [5] (fun sv wr => sv = .int .i64 0 ∧ wr = w) (fun _ _ => 0)
  case atStart => exact ⟨rfl, rfl⟩
  case round =>
    obtain ⟨rfl, rfl⟩ := hrel
    go_wp2_with fail
    go_ret
    exact ⟨rfl, rfl⟩
def ScRel (w : World) (sv : Value) (wr : World) : Prop := ∃ i : Nat, i ≤ 65 ∧ sv = .int .i64 i ∧ Below w.heap.size w wr
set_option maxRecDepth 100000 in
set_option maxHeartbeats 1000000 in
theorem same_own (b b' cap cap' base base' : Nat) (l : List (Nat × Nat)) (w : World) (h : w.ownsRow base 40 2 (.slice (some ⟨b, 0, none⟩) 65 cap) 65 (cvs l)) (h' : w.ownsRow base' 40 2 (.slice (some ⟨b', 0, none⟩) 65 cap') 65 (cvs l)) :
    Calls Try.prog 13 #[.slice (some ⟨b, 0, none⟩) 65 cap, .slice (some ⟨b', 0, none⟩) 65 cap'] w fun e w' => e = .returned (.bool true) ∧ Below w.heap.size w w' := by
  have H := Hid.intro h
  have H' := Hid.intro h'
  clear h h'
  go_enter Try.func13, Try.ntmps13
  go_wp2_with fail
  go_loopw [5] (fun sv wr => ScRel w sv wr) (fun sv _ => 65 - (intOf sv).toNat)
  case atStart => exact ⟨0, by omega, rfl, Below.refl _ _⟩
  case round =>
    obtain ⟨i, hi, rfl, d1⟩ := hrel
    by_cases hlt : i < 65
    · obtain ⟨c1, c2, _, _⟩ := cv_cells (own_later H.out d1) i hlt
      obtain ⟨c3, c4, _, _⟩ := cv_cells (own_later H'.out d1) i hlt
      have hii : (i : Int) < 65 := by omega
      have hi0 : (0 : Int) ≤ (i : Int) := by omega
      have B1 : Hid (∀ k, Below w.heap.size w (wr.drewN k)) := fun k => below_drewN d1 k
      generalize (cat l i).1 = x at *
      generalize (cat l i).2 = y at *
      clear d1
      go_wp2_with fail
      go_quiet (fail)
      go_wp2_with fail
      go_roundw
      case rel => exact ⟨i + 1, by omega, by go_num, B1.out nq⟩
      case measure => simp [intOf]; omega
    · obtain rfl : i = 65 := by omega
      go_wp2_with fail
      go_ret
      exact ⟨rfl, d1⟩
end Go.Proofs.Ytgejcdmiihmlfaa
