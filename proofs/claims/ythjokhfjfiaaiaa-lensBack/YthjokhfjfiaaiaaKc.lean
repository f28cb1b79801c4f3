/-
  The document's example: awake; the document's example.
-/
import Derived.Test.YthjokhfjfiaaiaaCa
import Derived.Test.YthjokhfjfiaaiaaSa
import Derived.Test.YthjokhfjfiaaiaaKb
import Derived.BigRegion
import Derived.Deep.RegionHeld3
namespace Go.Proofs.Ythjokhfjfiaaiaa
open Go.ChangeShapes Go.WideShapes Go.ChangeAt Go.RowKit
open Go.ChangeMaps (open_string shut_string)

theorem err_any (x : Int) (w : World) : Calls Try.prog 13 #[.int .i64 x] w fun e w' => e = .returned (.int .i64 x) ∧ w' = w := by
  go_enter Try.func13, Try.ntmps13
  go_wp2
  go_ret
  exact ⟨rfl, rfl⟩

theorem ex_get : getA [240, 240, 240, 240, 0] 0 = (0, List.replicate 65 0, 5) := by decide +kernel
theorem ex_put : putL (List.replicate 65 0) = [240, 240, 240, 240, 0] := by decide +kernel
theorem lput_made {w : World} {b : Nat} {f : List Int} {base : Nat} (h : w.ownsRow base 3 1 (.slice (some ⟨b, 0, none⟩) 65 65) 65 (ivs f)) :
    Calls Try.prog 10 #[.slice (some ⟨b, 0, none⟩) 65 65] w fun e w' => e = .returned (.string (bs (putL f))) ∧ Below w.heap.size w w' :=
  lput_any _ 65 65 f w (own_ri2 h) (by omega) (by omega) (by omega)
set_option maxRecDepth 100000 in
set_option maxHeartbeats 1000000 in
theorem awake_any (w : World) : Calls Try.prog 7 #[] w fun e w' => e = .returned (.bool true) ∧ Below w.heap.size w w' := by
  have G := lget_any ⟨#[240, 240, 240, 240, 0]⟩ 0 w (by decide)
  have eg : getA (⟨#[240, 240, 240, 240, 0]⟩ : ByteArray).data.toList 0 = (0, List.replicate 65 0, 5) := ex_get
  rw [eg] at G
  clear eg
  go_enter Try.func7, Try.ntmps7
  go_wp2_with fail
  with_reducible refine G.mono ?_
  rintro e w1 ⟨a, n, cap, rfl, r1, -, -, -, b1⟩
  have hn : n = 65 := by rw [← r1.1]; simp
  subst hn
  have B1 := Hid.intro b1
  have mk := make_noughts 65 (by omega) w1 65 rfl
  have B2 := Hid.intro (b1.alloc b1.size (.cells (madeCells #[.int .i64 0] 65) 3))
  have P := lput_made (own_made_ints w1 3 65 (by omega))
  rw [ex_put] at P
  have P2 : Calls Try.prog 10 #[.slice (some ⟨w1.heap.size, 0, none⟩) 65 65] (w1.alloc (.cells (madeCells #[.int .i64 0] 65) 3)) fun e w' => e = .returned (.string ⟨#[240, 240, 240, 240, 0]⟩) ∧ Below (w1.alloc (.cells (madeCells #[.int .i64 0] 65) 3)).heap.size (w1.alloc (.cells (madeCells #[.int .i64 0] 65) 3)) w' := P
  clear G b1 r1 P
  obtain ⟨w2, hw2⟩ : ∃ w2, w1.alloc (.cells (madeCells #[.int .i64 0] 65) 3) = w2 := ⟨_, rfl⟩
  rw [hw2] at mk P2 B2
  clear hw2
  go_wp2_with fail
  with_reducible refine P2.mono ?_
  rintro e w3 ⟨rfl, b3⟩
  have B3 := Hid.intro (B2.out.trans (Below.mono b3 B2.out.size))
  have ER := err_any 0 w3
  clear P2 b3 B1 B2 mk
  go_wp2_with fail
  with_reducible refine ER.mono ?_
  rintro e w4 ⟨rfl, rfl⟩
  clear ER
  go_wp2_with fail
  go_ret
  exact ⟨rfl, B3.out⟩
theorem awake_own {w W : World} (hb : Below w.heap.size w W) : Calls Try.prog 7 #[] W fun e W' => e = .returned (.bool true) ∧ Below w.heap.size w W' := by
  refine (awake_any W).mono ?_
  rintro e W' ⟨rfl, a2⟩
  exact ⟨rfl, hb.trans (Below.mono a2 hb.size)⟩
end Go.Proofs.Ythjokhfjfiaaiaa
