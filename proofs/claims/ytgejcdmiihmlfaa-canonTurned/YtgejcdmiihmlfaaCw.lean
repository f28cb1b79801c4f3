/-
  The document's example: awake.
-/
import Derived.Test.YtgejcdmiihmlfaaCd
namespace Go.Proofs.Ytgejcdmiihmlfaa
open Go.ChangeShapes Go.WideShapes Go.ChangeAt Go.RowKit
open Go.ChangeMaps (open_string shut_string)

theorem err_any (x : Int) (w : World) : Calls Try.prog 14 #[.int .i64 x] w fun e w' => e = .returned (.int .i64 x) ∧ w' = w := by
  go_enter Try.func14, Try.ntmps14
  go_wp2
  go_ret
  exact ⟨rfl, rfl⟩
def lA : List Int := (((List.replicate 65 (0 : Int)).set 3 1).set 5 2).set 64 2
theorem may_A : mayL lA = true := by decide +kernel
theorem code_A : cat (codesOf (nat lA)) 3 = (0, 1) ∧ cat (codesOf (nat lA)) 5 = (2, 2) ∧ cat (codesOf (nat lA)) 64 = (3, 2) := by decide +kernel
set_option maxRecDepth 100000 in
set_option maxHeartbeats 1000000 in
theorem awake_any (w : World) : Calls Try.prog 8 #[] w fun e w' => e = .returned (.bool true) ∧ Below w.heap.size w w' := by
  have mk := make_ints 22 3 Try.underlying22 info3 65 (by omega) w
  rw [show ((65 : Nat) : Int) = 65 from rfl] at mk
  have om := own_set (own_set (own_set (own_made_ints w 3 65 (by omega)) 3 (.int .i64 1)) 5 (.int .i64 2)) 64 (.int .i64 2)
  rw [ivs_set, ivs_set, ivs_set, World.setCell_alloc_new, World.setCell_alloc_new, World.setCell_alloc_new] at om
  have b1 : Below w.heap.size w (w.alloc (.cells ((((madeCells #[.int .i64 0] 65).setIfInBounds 3 (.int .i64 1)).setIfInBounds 5 (.int .i64 2)).setIfInBounds 64 (.int .i64 2)) 3)) := (Below.refl _ _).alloc (Nat.le_refl _) _
  have hs : (madeCells #[Value.int .i64 0] 65).size = 65 := by simp [madeCells]
  have ri : RI _ (some ⟨w.heap.size, 0, none⟩) 65 lA := own_ri2 om
  have CO := codes_yes (some ⟨w.heap.size, 0, none⟩) 65 65 lA _ ri may_A
  have RI1 := Hid.intro ri
  have B1 := Hid.intro b1
  have m0 := made_at 65 3 (by omega)
  have m1 := made_at 65 5 (by omega)
  have m2 := made_at 65 64 (by omega)
  clear om b1 ri
  go_enter Try.func8, Try.ntmps8
  go_wp2_with fail
  with_reducible refine CO.mono ?_
  rintro e w2 ⟨v, rfl, k3, k4⟩
  clear CO m0 m1 m2 hs mk
  have ri2 := ri_below RI1.out (k4.mono (Nat.le_refl _))
  have b2 : Below w.heap.size w w2 := B1.out.trans (k4.mono B1.out.size)
  clear RI1 B1 k4
  obtain ⟨b, cap, rfl⟩ := own_slice k3 (by omega)
  obtain ⟨c0, c1, _, _⟩ := cv_cells k3 3 (by omega)
  obtain ⟨c2, c3, _, _⟩ := cv_cells k3 5 (by omega)
  obtain ⟨c4, c5, _, _⟩ := cv_cells k3 64 (by omega)
  rw [code_A.1] at c0 c1
  rw [code_A.2.1] at c2 c3
  rw [code_A.2.2] at c4 c5
  have ER := err_any 0 w2
  have MA := may_any (some ⟨w.heap.size, 0, none⟩) 65 65 lA w2 ri2 (by omega)
  rw [may_A] at MA
  have B2 := Hid.intro b2
  clear k3 ri2 b2
  go_wp2_with fail
  with_reducible refine MA.mono ?_
  rintro e w3 ⟨rfl, rfl⟩
  clear MA
  go_wp2_with fail
  with_reducible refine ER.mono ?_
  rintro e w4 ⟨rfl, rfl⟩
  clear ER
  go_wp2_with fail
  go_ret
  exact ⟨rfl, B2.out⟩
end Go.Proofs.Ytgejcdmiihmlfaa
