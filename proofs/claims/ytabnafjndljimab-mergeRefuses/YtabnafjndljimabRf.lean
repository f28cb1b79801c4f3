/-
  What may not be asked is told so: the walk of MergeRefuses.
-/
import Derived.Test.YtabnafjndljimabAw
namespace Go.Proofs.Ytabnafjndljimab
open Go.ChangeShapes Go.WideShapes Go.ChangeAt Go.RowKit
open Go.ChangeMaps (open_string shut_string)

def fR : List Int := (List.replicate 65 (0 : Int)).set 1 5
theorem may_limit (f : List Int) (n : Nat) (limit : Int) (h : limit < 7 ∨ 15 < limit) : mayB f n limit = false := by
  unfold mayB
  rcases h with h | h
  · have : decide ((7 : Int) ≤ limit) = false := decide_eq_false (by omega)
    rw [this]; simp
  · have : decide (limit ≤ 15) = false := decide_eq_false (by omega)
    rw [this]; simp
theorem may_len (f : List Int) (n : Nat) (limit : Int) (h : n ≠ 65) : mayB f n limit = false := by
  unfold mayB
  have : decide (n = 65) = false := decide_eq_false h
  rw [this]; simp
theorem may_bad (f : List Int) (n : Nat) (limit z : Int) (hz : z ∈ f) (h : badz z = true) : mayB f n limit = false := by
  unfold mayB
  have : f.any badz = true := List.any_eq_true.2 ⟨z, hz, h⟩
  rw [this]; simp
set_option maxRecDepth 100000 in
set_option maxHeartbeats 2000000 in
theorem refuses_walk (a0 a1 : Int) (h0 : 0 ≤ a0 ∧ a0 ≤ 255) (h1 : -9223372036854775808 ≤ a1 ∧ a1 ≤ 9223372036854775807) (w : World) :
    Calls Try.prog 3 #[.int .u8 a0, .int .i64 a1] w fun e w' => e = .returned (.bool true) ∧ Below w.heap.size w w' := by
  have mk := make_ints 22 3 Try.underlying22 info3 65 (by omega) w
  rw [show ((65 : Nat) : Int) = 65 from rfl] at mk
  have om := own_set (own_made_ints w 3 65 (by omega)) 1 (.int .i64 5)
  rw [ivs_set] at om
  have om7 := fun z : Int => own_set om 7 (.int .i64 z)
  simp only [ivs_set, World.setCell_alloc_new] at om om7
  have m1 := made_at 65 1 (by omega)
  have m7 := made_at 65 7 (by omega)
  have hs : (madeCells #[Value.int .i64 0] 65).size = 65 := by simp [madeCells]
  obtain ⟨c, hc⟩ : ∃ c : Int, a0 % 5 = c := ⟨_, rfl⟩
  have hcr : c = 0 ∨ c = 1 ∨ c = 2 ∨ c = 3 ∨ c = 4 := by omega
  rcases hcr with rfl | rfl | rfl | rfl | rfl
  · have B1 : Hid (Below w.heap.size w (w.alloc (.cells ((madeCells #[.int .i64 0] 65).setIfInBounds 1 (.int .i64 5)) 3))) := (Below.refl _ _).alloc (Nat.le_refl _) _
    have LE := lengths_no (some ⟨w.heap.size, 0, none⟩) 65 65 _ 6 _ (own_ri2 om) (by omega) (may_limit _ _ _ (by omega))
    clear om om7 m7
    · go_enter Try.func3, Try.ntmps3
      go_wp2_with fail
      with_reducible refine LE.mono ?_
      rintro e w2 ⟨rfl, hw2⟩
      have B2 : Hid (Below w.heap.size w w2) := by show Below _ _ _; rw [hw2]; exact B1.out
      clear hw2 B1
      have ER := err_any 1 w2
      clear LE
      go_wp2_with fail
      with_reducible refine ER.mono ?_
      rintro e w3 ⟨rfl, rfl⟩
      have AW := awake_any w3
      clear ER
      go_wp2_with fail
      with_reducible refine AW.mono ?_
      rintro e w4 ⟨rfl, k5⟩
      have B4 := Hid.intro (B2.out.trans (k5.mono B2.out.size))
      clear AW k5
      go_wp2_with fail
      go_ret
      exact ⟨rfl, B4.out⟩
  · have B1 : Hid (Below w.heap.size w (w.alloc (.cells ((madeCells #[.int .i64 0] 65).setIfInBounds 1 (.int .i64 5)) 3))) := (Below.refl _ _).alloc (Nat.le_refl _) _
    have LE := lengths_no (some ⟨w.heap.size, 0, none⟩) 65 65 _ 16 _ (own_ri2 om) (by omega) (may_limit _ _ _ (by omega))
    clear om om7 m7
    · go_enter Try.func3, Try.ntmps3
      go_wp2_with fail
      with_reducible refine LE.mono ?_
      rintro e w2 ⟨rfl, hw2⟩
      have B2 : Hid (Below w.heap.size w w2) := by show Below _ _ _; rw [hw2]; exact B1.out
      clear hw2 B1
      have ER := err_any 1 w2
      clear LE
      go_wp2_with fail
      with_reducible refine ER.mono ?_
      rintro e w3 ⟨rfl, rfl⟩
      have AW := awake_any w3
      clear ER
      go_wp2_with fail
      with_reducible refine AW.mono ?_
      rintro e w4 ⟨rfl, k5⟩
      have B4 := Hid.intro (B2.out.trans (k5.mono B2.out.size))
      clear AW k5
      go_wp2_with fail
      go_ret
      exact ⟨rfl, B4.out⟩
  · have B1 : Hid (Below w.heap.size w (w.alloc (.cells ((madeCells #[.int .i64 0] 65).setIfInBounds 1 (.int .i64 5)) 3))) := (Below.refl _ _).alloc (Nat.le_refl _) _
    have om64 := own_take om (by omega : 64 ≤ 65)
    have e64 : (ivs ((List.replicate 65 (0 : Int)).set 1 5)).take (64 * 1) = ivs (((List.replicate 65 (0 : Int)).set 1 5).take 64) := by unfold ivs; rw [List.map_take]
    rw [e64] at om64
    have LE := lengths_no (some ⟨w.heap.size, 0, none⟩) 64 65 _ 9 _ (own_ri2 om64) (by omega) (may_len _ _ _ (by omega))
    clear om om7 m7 om64 e64
    · go_enter Try.func3, Try.ntmps3
      go_wp2_with fail
      with_reducible refine LE.mono ?_
      rintro e w2 ⟨rfl, hw2⟩
      have B2 : Hid (Below w.heap.size w w2) := by show Below _ _ _; rw [hw2]; exact B1.out
      clear hw2 B1
      have ER := err_any 1 w2
      clear LE
      go_wp2_with fail
      with_reducible refine ER.mono ?_
      rintro e w3 ⟨rfl, rfl⟩
      have AW := awake_any w3
      clear ER
      go_wp2_with fail
      with_reducible refine AW.mono ?_
      rintro e w4 ⟨rfl, k5⟩
      have B4 := Hid.intro (B2.out.trans (k5.mono B2.out.size))
      clear AW k5
      go_wp2_with fail
      go_ret
      exact ⟨rfl, B4.out⟩
  · by_cases hq : a1 ≤ -1
    · have hq2 := hq
      have hzb : badz a1 = true := by unfold badz; simp; omega
      have B1 : Hid (Below w.heap.size w (w.alloc (.cells (((madeCells #[.int .i64 0] 65).setIfInBounds 1 (.int .i64 5)).setIfInBounds 7 (.int .i64 a1)) 3))) := (Below.refl _ _).alloc (Nat.le_refl _) _
      have LE := lengths_no (some ⟨w.heap.size, 0, none⟩) 65 65 _ 9 _ (own_ri2 (om7 a1)) (by omega) (may_bad _ _ _ a1 (List.mem_set (by rw [List.length_set, List.length_replicate]; omega) a1) hzb)
      clear om om7 hzb
      · go_enter Try.func3, Try.ntmps3
        go_wp2_with fail
        with_reducible refine LE.mono ?_
        rintro e w2 ⟨rfl, hw2⟩
        have B2 : Hid (Below w.heap.size w w2) := by show Below _ _ _; rw [hw2]; exact B1.out
        clear hw2 B1
        have ER := err_any 1 w2
        clear LE
        go_wp2_with fail
        with_reducible refine ER.mono ?_
        rintro e w3 ⟨rfl, rfl⟩
        have AW := awake_any w3
        clear ER
        go_wp2_with fail
        with_reducible refine AW.mono ?_
        rintro e w4 ⟨rfl, k5⟩
        have B4 := Hid.intro (B2.out.trans (k5.mono B2.out.size))
        clear AW k5
        go_wp2_with fail
        go_ret
        exact ⟨rfl, B4.out⟩
    · have hq2 := hq
      have hzb : badz (-1) = true := by unfold badz; decide
      have B1 : Hid (Below w.heap.size w (w.alloc (.cells (((madeCells #[.int .i64 0] 65).setIfInBounds 1 (.int .i64 5)).setIfInBounds 7 (.int .i64 (-1))) 3))) := (Below.refl _ _).alloc (Nat.le_refl _) _
      have LE := lengths_no (some ⟨w.heap.size, 0, none⟩) 65 65 _ 9 _ (own_ri2 (om7 (-1))) (by omega) (may_bad _ _ _ (-1) (List.mem_set (by rw [List.length_set, List.length_replicate]; omega) (-1)) hzb)
      clear om om7 hzb
      · go_enter Try.func3, Try.ntmps3
        go_wp2_with fail
        with_reducible refine LE.mono ?_
        rintro e w2 ⟨rfl, hw2⟩
        have B2 : Hid (Below w.heap.size w w2) := by show Below _ _ _; rw [hw2]; exact B1.out
        clear hw2 B1
        have ER := err_any 1 w2
        clear LE
        go_wp2_with fail
        with_reducible refine ER.mono ?_
        rintro e w3 ⟨rfl, rfl⟩
        have AW := awake_any w3
        clear ER
        go_wp2_with fail
        with_reducible refine AW.mono ?_
        rintro e w4 ⟨rfl, k5⟩
        have B4 := Hid.intro (B2.out.trans (k5.mono B2.out.size))
        clear AW k5
        go_wp2_with fail
        go_ret
        exact ⟨rfl, B4.out⟩
  · by_cases hq : 16777217 ≤ a1
    · have hq2 := hq
      have hzb : badz a1 = true := by unfold badz; simp; omega
      have B1 : Hid (Below w.heap.size w (w.alloc (.cells (((madeCells #[.int .i64 0] 65).setIfInBounds 1 (.int .i64 5)).setIfInBounds 7 (.int .i64 a1)) 3))) := (Below.refl _ _).alloc (Nat.le_refl _) _
      have LE := lengths_no (some ⟨w.heap.size, 0, none⟩) 65 65 _ 9 _ (own_ri2 (om7 a1)) (by omega) (may_bad _ _ _ a1 (List.mem_set (by rw [List.length_set, List.length_replicate]; omega) a1) hzb)
      clear om om7 hzb
      · go_enter Try.func3, Try.ntmps3
        go_wp2_with fail
        with_reducible refine LE.mono ?_
        rintro e w2 ⟨rfl, hw2⟩
        have B2 : Hid (Below w.heap.size w w2) := by show Below _ _ _; rw [hw2]; exact B1.out
        clear hw2 B1
        have ER := err_any 1 w2
        clear LE
        go_wp2_with fail
        with_reducible refine ER.mono ?_
        rintro e w3 ⟨rfl, rfl⟩
        have AW := awake_any w3
        clear ER
        go_wp2_with fail
        with_reducible refine AW.mono ?_
        rintro e w4 ⟨rfl, k5⟩
        have B4 := Hid.intro (B2.out.trans (k5.mono B2.out.size))
        clear AW k5
        go_wp2_with fail
        go_ret
        exact ⟨rfl, B4.out⟩
    · have hq2 := hq
      have hzb : badz 16777217 = true := by unfold badz; decide
      have B1 : Hid (Below w.heap.size w (w.alloc (.cells (((madeCells #[.int .i64 0] 65).setIfInBounds 1 (.int .i64 5)).setIfInBounds 7 (.int .i64 16777217)) 3))) := (Below.refl _ _).alloc (Nat.le_refl _) _
      have LE := lengths_no (some ⟨w.heap.size, 0, none⟩) 65 65 _ 9 _ (own_ri2 (om7 16777217)) (by omega) (may_bad _ _ _ 16777217 (List.mem_set (by rw [List.length_set, List.length_replicate]; omega) 16777217) hzb)
      clear om om7 hzb
      · go_enter Try.func3, Try.ntmps3
        go_wp2_with fail
        with_reducible refine LE.mono ?_
        rintro e w2 ⟨rfl, hw2⟩
        have B2 : Hid (Below w.heap.size w w2) := by show Below _ _ _; rw [hw2]; exact B1.out
        clear hw2 B1
        have ER := err_any 1 w2
        clear LE
        go_wp2_with fail
        with_reducible refine ER.mono ?_
        rintro e w3 ⟨rfl, rfl⟩
        have AW := awake_any w3
        clear ER
        go_wp2_with fail
        with_reducible refine AW.mono ?_
        rintro e w4 ⟨rfl, k5⟩
        have B4 := Hid.intro (B2.out.trans (k5.mono B2.out.size))
        clear AW k5
        go_wp2_with fail
        go_ret
        exact ⟨rfl, B4.out⟩
end Go.Proofs.Ytabnafjndljimab
