/-
  The document's example.
-/
import Derived.Test.YteceiinehcjdjaaTt
import Derived.Test.YteceiinehcjdjaaMw
import Derived.Deep.QuietTactic
import Derived.Deep.RegionWith
import Derived.OwnWalk
import Derived.BigQuiet
import Derived.Deep.RegionHeld3
namespace Go.Proofs.Yteceiinehcjdjaa
open Go.ChangeShapes Go.WideShapes Go.ChangeAt Go.RowKit
open Go.ChangeMaps (open_string shut_string)

def oneF (k v : Nat) : List Int := ((List.replicate 65 0).set k v).map Int.ofNat
theorem aw_tab : (tabA (oneF 9 128) 7).1 = 0 ∧ (tabA (oneF 9 128) 7).2.length = 128 ∧ (tabA (oneF 9 128) 7).2.getD 0 (0, 0, 0) = (9, 0, 0) := by decide +kernel
set_option maxRecDepth 100000 in
set_option maxHeartbeats 1000000 in
theorem awake_any (w : World) : Calls Try.prog 8 #[] w fun e w' => e = .returned (.bool true) ∧ Below w.heap.size w w' := by
  have mk := make_ints 22 3 Try.underlying22 info3 65 (by omega) w
  rw [show ((65 : Nat) : Int) = 65 from rfl] at mk
  have om := own_made_ints w 3 65 (by omega)
  have b1 : Below w.heap.size w (w.alloc (.cells (madeCells #[.int .i64 0] 65) 3)) := (Below.refl _ _).alloc (Nat.le_refl _) _
  obtain ⟨w1, hw1⟩ : ∃ w1, w.alloc (.cells (madeCells #[.int .i64 0] 65) 3) = w1 := ⟨_, rfl⟩
  rw [hw1] at mk om b1
  have ct := own_there om 9 (by omega)
  have o2 := own_set om 9 (.int .i64 ((128 : Nat) : Int))
  rw [ivs_set] at o2
  have e1 : (List.replicate 65 (0 : Int)).set 9 ((128 : Nat) : Int) = oneF 9 128 := by decide +kernel
  rw [e1] at o2
  have TA := table_any (some ⟨w.heap.size, 0, none⟩) 65 65 (oneF 9 128) 7 _ (own_ri' o2) (by omega)
  have b2 : Hid (Below w.heap.size w (w1.setCell ⟨w.heap.size, 9, none⟩ (.int .i64 ((128 : Nat) : Int)))) := b1.setCell (p := ⟨w.heap.size, 9, none⟩) (Nat.le_refl _) _
  have c9 := ct.2.1
  have f9 := ct.2.2
  obtain ⟨u9, c9⟩ := Option.isSome_iff_exists.1 c9
  obtain ⟨T, hT⟩ : ∃ T, tabA (oneF 9 128) 7 = T := ⟨_, rfl⟩
  have AT := aw_tab
  rw [hT] at TA AT
  obtain ⟨a1, a2, a3⟩ := AT
  obtain ⟨E, l⟩ := T
  simp only at a1 a2 a3
  subst a1
  have A2 := Hid.intro a2
  have A3 := Hid.intro a3
  clear om ct b1 o2 e1 hT a2 a3
  rw [show ((128 : Nat) : Int) = 128 from rfl] at TA b2
  go_enter Try.func8, Try.ntmps8
  go_wp2_with fail
  generalize w1.setCell ⟨w.heap.size, 9, none⟩ (.int .i64 128) = w2 at *
  with_reducible refine TA.mono ?_
  rintro e w3 ⟨v, rfl, o3, b3⟩
  clear TA
  simp only at o3
  rw [A2.out] at o3
  obtain ⟨bv, cv, rfl⟩ := own_slice o3 (by omega)
  have cc := cv_cells o3 0 (by omega)
  rw [A3.out] at cc
  obtain ⟨q1, q2, q3⟩ := cc
  have r1 : w3.cell? ⟨bv, 0, none⟩ = some (.int .i64 9) := q1
  have r2 : w3.cell? ⟨bv, 1, none⟩ = some (.int .i64 0) := q2
  have r3 : w3.cell? ⟨bv, 2, none⟩ = some (.int .i64 0) := q3
  clear q1 q2 q3
  have B3 : Hid (Below w.heap.size w w3) := b2.out.trans (b3.mono b2.out.size)
  clear o3 b3 mk c9 f9
  go_wp2_with fail
  with_reducible refine (err_i _ _).mono ?_
  rintro e w4 ⟨rfl, rfl⟩
  go_wp2_with fail
  go_ret
  exact ⟨rfl, B3.out⟩
end Go.Proofs.Yteceiinehcjdjaa
