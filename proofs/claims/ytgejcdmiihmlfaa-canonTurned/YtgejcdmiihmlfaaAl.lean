/-
  CanonAll's walk: whether any lengths may be, their codes, or the error.
-/
import Derived.Test.YtgejcdmiihmlfaaSc
import Derived.Test.YtgejcdmiihmlfaaCw
import Derived.Deep.RegionHeld3
import Derived.BigQuiet
namespace Go.Proofs.Ytgejcdmiihmlfaa
open Go.ChangeShapes Go.WideShapes Go.ChangeAt Go.RowKit
open Go.ChangeMaps (open_string shut_string)

theorem held_keep {w8 a b : World} {B : Nat} {u v : Value} (hB : B < w8.heap.size) (h : (a.cell? ⟨B, 0, none⟩ = some u ∧ a.cell? ⟨B, 1, none⟩ = some v) ∧ Below w8.heap.size w8 a) (k : Below a.heap.size a b) :
    (b.cell? ⟨B, 0, none⟩ = some u ∧ b.cell? ⟨B, 1, none⟩ = some v) ∧ Below w8.heap.size w8 b := by
  have hlt : B < a.heap.size := Nat.lt_of_lt_of_le hB h.2.size
  exact ⟨⟨by rw [k.cell (p := ⟨B, 0, none⟩) hlt]; exact h.1.1, by rw [k.cell (p := ⟨B, 1, none⟩) hlt]; exact h.1.2⟩, h.2.trans (k.mono h.2.size)⟩
theorem held_tail {w8 a : World} {p : Prop} (h : p ∧ Below w8.heap.size w8 a) : Below w8.heap.size w8 a := h.2
theorem held_same {a b : World} (h : b = a) : Below a.heap.size a b := by rw [h]; exact Below.refl _ _
set_option maxRecDepth 100000 in
set_option maxHeartbeats 4000000 in
theorem all_walk (a : Option Addr) (n cap : Nat) (f : List Int) (w : World) (h : RI w a n f) (hn : n ≤ 9223372036854775807) :
    Calls Try.prog 3 #[.slice a n cap] w fun e w' => e = .returned (.bool true) ∧ Below w.heap.size w w' := by
  have AW0 := awake_any w
  by_cases hbig : 100 < n
  · clear h
    go_enter Try.func3, Try.ntmps3
    go_wp2_with fail
    with_reducible refine AW0.mono ?_
    rintro e w4 ⟨rfl, k5⟩
    clear AW0
    go_wp2_with fail
    go_ret
    exact ⟨rfl, k5⟩
  · clear AW0 hn
    have R0 := Hid.intro h
    by_cases hm : mayL f = true
    · have CO := codes_yes a n cap f w h hm
      have RC := fun (W : World) (hW : Below w.heap.size w W) => rcanon_yes a n cap f W (ri_below h hW) hm
      have HM := Hid.intro hm
      have MAY : ∀ W, Below w.heap.size w W → Calls Try.prog 11 #[.slice a n cap] W fun e W' => e = .returned (.bool true) ∧ W' = W := fun W hW => by
        have c := may_any a n cap f W (ri_below R0.out hW) (by omega)
        rw [HM.out] at c; exact c
      have MAYL : ∀ W, Below w.heap.size w W → Calls Try.prog 12 #[.slice a n cap] W fun e W' => e = .returned (.bool true) ∧ W' = W := fun W hW => by
        have c := mayl_any a n cap f W (ri_below R0.out hW) (by omega)
        rw [HM.out] at c; exact c
      generalize codesOf (nat f) = l at *
      clear h hm HM R0
      have MAY := Hid.intro MAY
      have MAYL := Hid.intro MAYL
      have RC := Hid.intro RC
      go_enter Try.func3, Try.ntmps3
      go_wp2_with fail
      with_reducible refine CO.mono ?_
      rintro e w5 ⟨v, rfl, k3, k4⟩
      have RC5 := RC.out w5 k4
      have K3 := Hid.intro k3
      have K4 := Hid.intro k4
      obtain ⟨b, cb, rfl⟩ := own_slice k3 (by omega)
      clear CO RC k3 k4
      go_wp2_with fail
      with_reducible refine RC5.mono ?_
      rintro e w6 ⟨v2, rfl, j3, j4⟩
      obtain ⟨b2, cb2, rfl⟩ := own_slice j3 (by omega)
      have SAME : ∀ W, Below w6.heap.size w6 W → Calls Try.prog 13 #[.slice (some ⟨b, 0, none⟩) 65 cb, .slice (some ⟨b2, 0, none⟩) 65 cb2] W fun e W' => e = .returned (.bool true) ∧ Below W.heap.size W W' := fun W hW =>
        same_own b b2 cb cb2 _ _ l W (own_later (own_later K3.out j4) hW) (own_later j3 hW)
      have B6 : Hid (Below w.heap.size w w6) := K4.out.trans (j4.mono K4.out.size)
      clear RC5 j3 j4 K3 K4
      have b8 : Below w6.heap.size w6 (w6.alloc (.cells #[.slice (some ⟨b2, 0, none⟩) 65 cb2, .int .i64 0] 29)) := (Below.refl _ _).alloc (Nat.le_refl _) _
      have bk8 := blk_new w6 #[.slice (some ⟨b2, 0, none⟩) 65 cb2, .int .i64 0] 29
      obtain ⟨w8, hw8⟩ : ∃ w8, w6.alloc (.cells #[.slice (some ⟨b2, 0, none⟩) 65 cb2, .int .i64 0] 29) = w8 := ⟨_, rfl⟩
      rw [hw8] at b8 bk8
      have B8 : Below w.heap.size w w8 := B6.out.trans (b8.mono B6.out.size)
      have hS : (w8.drew.cell? ⟨w6.heap.size, 0, none⟩ = some (.slice (some ⟨b2, 0, none⟩) 65 cb2) ∧ w8.drew.cell? ⟨w6.heap.size, 1, none⟩ = some (.int .i64 0)) ∧ Below w8.heap.size w8 w8.drew := ⟨⟨by show w8.cell? _ = _; rw [blk_cell bk8]; rfl, by show w8.cell? _ = _; rw [blk_cell bk8]; rfl⟩, (Below.refl _ _).drew⟩
      have bkl := blk_lt bk8
      have M1 : ∀ W, Below w8.heap.size w8 W → Calls Try.prog 11 #[.slice a n cap] W fun e W' => e = .returned (.bool true) ∧ W' = W := fun W hW => MAY.out W (B8.trans (hW.mono B8.size))
      have M2 : ∀ W, Below w8.heap.size w8 W → Calls Try.prog 12 #[.slice a n cap] W fun e W' => e = .returned (.bool true) ∧ W' = W := fun W hW => MAYL.out W (B8.trans (hW.mono B8.size))
      have SA : ∀ W, Below w8.heap.size w8 W → Calls Try.prog 13 #[.slice (some ⟨b, 0, none⟩) 65 cb, .slice (some ⟨b2, 0, none⟩) 65 cb2] W fun e W' => e = .returned (.bool true) ∧ Below W.heap.size W W' := fun W hW => SAME W (b8.trans (hW.mono b8.size))
      have ER := fun W => err_any 0 W
      have AW := awake_any
      have HB8 := Hid.intro B8
      have HW8 := Hid.intro hw8
      clear b8 bk8 B8 hw8 MAY MAYL B6 SAME
      go_wp2_with fail
      rw [HW8.out]
      clear HW8
      go_region_held3 (fun W => (W.cell? ⟨w6.heap.size, 0, none⟩ = some (.slice (some ⟨b2, 0, none⟩) 65 cb2) ∧ W.cell? ⟨w6.heap.size, 1, none⟩ = some (.int .i64 0)) ∧ Below w8.heap.size w8 W) (first | exact hS | exact held_keep bkl (by assumption) (by assumption) | assumption) (first
        | (go_at_call 11; refine (M1 _ ?_).mono ?_; exact held_tail (by assumption); rintro e w9 ⟨rfl, hb9⟩; have hb9 := held_same hb9)
        | (go_at_call 12; refine (M2 _ ?_).mono ?_; exact held_tail (by assumption); rintro e w9 ⟨rfl, hb9⟩; have hb9 := held_same hb9)
        | (go_at_call 13; refine (SA _ ?_).mono ?_; exact held_tail (by assumption); rintro e w9 ⟨rfl, hb9⟩)
        | (go_at_call 14; refine (ER _).mono ?_; rintro e w9 ⟨rfl, hb9⟩; have hb9 := held_same hb9)
        | (go_at_call 8; refine (AW _).mono ?_; rintro e w9 ⟨rfl, hb9⟩))
      all_goals
        have hT : ∃ p : Prop, p ∧ Below w8.heap.size w8 w9 := ⟨_, by assumption⟩
        obtain ⟨_, _, hT⟩ := hT
        have B9 := Hid.intro (HB8.out.trans (hT.mono HB8.out.size))
        clear hT
        go_wp2_with fail
        go_ret
        exact ⟨rfl, B9.out⟩
    · have hm' : mayL f = false := by simpa using hm
      have CO := codes_no a n cap f w h (by omega) hm'
      have RC := rcanon_no a n cap f w h (by omega) hm'
      have HM := Hid.intro hm'
      have MAY : ∀ W, Below w.heap.size w W → Calls Try.prog 11 #[.slice a n cap] W fun e W' => e = .returned (.bool false) ∧ W' = W := fun W hW => by
        have c := may_any a n cap f W (ri_below R0.out hW) (by omega)
        rw [HM.out] at c; exact c
      have MAYL : ∀ W, Below w.heap.size w W → Calls Try.prog 12 #[.slice a n cap] W fun e W' => e = .returned (.bool false) ∧ W' = W := fun W hW => by
        have c := mayl_any a n cap f W (ri_below R0.out hW) (by omega)
        rw [HM.out] at c; exact c
      clear hm hm' h HM R0
      have MAY := Hid.intro MAY
      have MAYL := Hid.intro MAYL
      go_enter Try.func3, Try.ntmps3
      go_wp2_with fail
      with_reducible refine CO.mono ?_
      rintro e w5 ⟨rfl, rfl⟩
      clear CO
      go_wp2_with fail
      with_reducible refine RC.mono ?_
      rintro e w6 ⟨rfl, k4⟩
      have B6 := Hid.intro k4
      clear RC k4
      have b8 : Below w6.heap.size w6 (w6.alloc (.cells #[.slice none 0 0, .int .i64 3] 29)) := (Below.refl _ _).alloc (Nat.le_refl _) _
      have bk8 := blk_new w6 #[.slice none 0 0, .int .i64 3] 29
      obtain ⟨w8, hw8⟩ : ∃ w8, w6.alloc (.cells #[.slice none 0 0, .int .i64 3] 29) = w8 := ⟨_, rfl⟩
      rw [hw8] at b8 bk8
      have B8 : Below w5.heap.size w5 w8 := B6.out.trans (b8.mono B6.out.size)
      have hS : (w8.drew.cell? ⟨w6.heap.size, 0, none⟩ = some (.slice none 0 0) ∧ w8.drew.cell? ⟨w6.heap.size, 1, none⟩ = some (.int .i64 3)) ∧ Below w8.heap.size w8 w8.drew := ⟨⟨by show w8.cell? _ = _; rw [blk_cell bk8]; rfl, by show w8.cell? _ = _; rw [blk_cell bk8]; rfl⟩, (Below.refl _ _).drew⟩
      have bkl := blk_lt bk8
      have M1 : ∀ W, Below w8.heap.size w8 W → Calls Try.prog 11 #[.slice a n cap] W fun e W' => e = .returned (.bool false) ∧ W' = W := fun W hW => MAY.out W (B8.trans (hW.mono B8.size))
      have M2 : ∀ W, Below w8.heap.size w8 W → Calls Try.prog 12 #[.slice a n cap] W fun e W' => e = .returned (.bool false) ∧ W' = W := fun W hW => MAYL.out W (B8.trans (hW.mono B8.size))
      have SA := fun W => same_nil W
      have ER := fun W => err_any 3 W
      have AW := awake_any
      have HB8 := Hid.intro B8
      have HW8 := Hid.intro hw8
      clear b8 bk8 B8 hw8 MAY MAYL B6
      go_wp2_with fail
      rw [HW8.out]
      clear HW8
      go_region_held3 (fun W => (W.cell? ⟨w6.heap.size, 0, none⟩ = some (.slice none 0 0) ∧ W.cell? ⟨w6.heap.size, 1, none⟩ = some (.int .i64 3)) ∧ Below w8.heap.size w8 W) (first | exact hS | exact held_keep bkl (by assumption) (by assumption) | assumption) (first
        | (go_at_call 11; refine (M1 _ ?_).mono ?_; exact held_tail (by assumption); rintro e w9 ⟨rfl, hb9⟩; have hb9 := held_same hb9)
        | (go_at_call 12; refine (M2 _ ?_).mono ?_; exact held_tail (by assumption); rintro e w9 ⟨rfl, hb9⟩; have hb9 := held_same hb9)
        | (go_at_call 13; refine (SA _).mono ?_; rintro e w9 ⟨rfl, hb9⟩; have hb9 := held_same hb9)
        | (go_at_call 14; refine (ER _).mono ?_; rintro e w9 ⟨rfl, hb9⟩; have hb9 := held_same hb9)
        | (go_at_call 8; refine (AW _).mono ?_; rintro e w9 ⟨rfl, hb9⟩))
      all_goals
        have hT : ∃ p : Prop, p ∧ Below w8.heap.size w8 w9 := ⟨_, by assumption⟩
        obtain ⟨_, _, hT⟩ := hT
        have B9 := Hid.intro (HB8.out.trans (hT.mono HB8.out.size))
        clear hT
        go_wp2_with fail
        go_ret
        exact ⟨rfl, B9.out⟩
end Go.Proofs.Ytgejcdmiihmlfaa
