/-
  The lengths of any frequencies, by any limit, and what any lengths cost: the walk of MergeAll.
-/
import Derived.Test.YtabnafjndljimaaRy
import Derived.Deep.RegionHeld3
namespace Go.Proofs.Ytabnafjndljimaa
open Go.ChangeShapes Go.WideShapes Go.ChangeAt Go.RowKit
open Go.ChangeMaps (open_string shut_string)

theorem held_keep {w8 a b : World} {B : Nat} {u v : Value} (hB : B < w8.heap.size) (h : (a.cell? ⟨B, 0, none⟩ = some u ∧ a.cell? ⟨B, 1, none⟩ = some v) ∧ Below w8.heap.size w8 a) (k : Below a.heap.size a b) :
    (b.cell? ⟨B, 0, none⟩ = some u ∧ b.cell? ⟨B, 1, none⟩ = some v) ∧ Below w8.heap.size w8 b := by
  have hlt : B < a.heap.size := Nat.lt_of_lt_of_le hB h.2.size
  exact ⟨⟨by rw [k.cell (p := ⟨B, 0, none⟩) hlt]; exact h.1.1, by rw [k.cell (p := ⟨B, 1, none⟩) hlt]; exact h.1.2⟩, h.2.trans (k.mono h.2.size)⟩
theorem held_tail {w8 a : World} {p : Prop} (h : p ∧ Below w8.heap.size w8 a) : Below w8.heap.size w8 a := h.2
theorem held_same {a b : World} (h : b = a) : Below a.heap.size a b := by rw [h]; exact Below.refl _ _
theorem ranks_one {f : List Int} {limit : Nat} {o r q : List Nat} (h : Ranks f limit o r) (k : Ranks f limit o q) : r = q := by
  by_cases h2 : 2 ≤ o.length
  · obtain ⟨ls, c1, c2⟩ := h.2.2 h2
    obtain ⟨ms, d1, d2⟩ := k.2.2 h2
    obtain rfl := chain_one _ _ _ _ c1 d1
    rw [c2, d2]
  · by_cases h1 : o.length = 1
    · rw [h.2.1 h1, k.2.1 h1]
    · rw [List.eq_nil_of_length_eq_zero (by rw [h.1]; omega : r.length = 0), List.eq_nil_of_length_eq_zero (by rw [k.1]; omega : q.length = 0)]
def AlRel (f l : List Int) (w : World) (sv : Value) (wr : World) : Prop :=
  ∃ i : Nat, i ≤ l.length ∧ sv = .int .i64 i ∧ (∀ j (h : j < l.length), j < i → (-100 ≤ l[j] ∧ l[j] ≤ 100) ∧ ∀ (h' : j < f.length), -1099511627776 ≤ f[j] ∧ f[j] ≤ 1099511627776) ∧ wr = w
theorem al_step {f l : List Int} {i : Nat} (hi : i < l.length) (h : ∀ j (h : j < l.length), j < i → (-100 ≤ l[j] ∧ l[j] ≤ 100) ∧ ∀ (h' : j < f.length), -1099511627776 ≤ f[j] ∧ f[j] ≤ 1099511627776) (h1 : -100 ≤ l[i] ∧ l[i] ≤ 100) (h2 : ∀ (h' : i < f.length), -1099511627776 ≤ f[i] ∧ f[i] ≤ 1099511627776) :
    ∀ j (h : j < l.length), j < i + 1 → (-100 ≤ l[j] ∧ l[j] ≤ 100) ∧ ∀ (h' : j < f.length), -1099511627776 ≤ f[j] ∧ f[j] ≤ 1099511627776 := by
  intro j hj hji
  by_cases e : j = i
  · subst e; exact ⟨h1, h2⟩
  · exact h j hj (by omega)
theorem all_awake (w : World) : Calls Try.prog 9 #[] w fun e w' => e = .returned (.bool true) ∧ Below w.heap.size w w' := awake_any w
set_option maxRecDepth 100000 in
set_option maxHeartbeats 4000000 in
theorem all_walk (a0 a2 : Option Addr) (n0 n2 c0 c2 : Nat) (f l : List Int) (lim : Int) (w : World) (r0 : RI w a0 n0 f) (r2 : RI w a2 n2 l) (hn0 : n0 ≤ 9223372036854775807) (hn2 : n2 ≤ 9223372036854775807) :
    Calls Try.prog 3 #[.slice a0 n0 c0, .int .i64 lim, .slice a2 n2 c2] w fun e w' => e = .returned (.bool true) ∧ Below w.heap.size w w' := by
  have AW0 := awake_any w
  by_cases h0 : 100 < n0
  · clear r0 r2
    go_enter Try.func3, Try.ntmps3
    go_wp2_with fail
    with_reducible refine AW0.mono ?_
    rintro e w4 ⟨rfl, k5⟩
    clear AW0
    go_wp2_with fail
    go_ret
    exact ⟨rfl, k5⟩
  · by_cases h2 : 100 < n2
    · clear r0 r2
      go_enter Try.func3, Try.ntmps3
      go_wp2_with fail
      with_reducible refine AW0.mono ?_
      rintro e w4 ⟨rfl, k5⟩
      clear AW0
      go_wp2_with fail
      go_ret
      exact ⟨rfl, k5⟩
    · have R0 := Hid.intro r0
      have R2 := Hid.intro r2
      have L0 := Hid.intro r0.1
      have L2 := Hid.intro r2.1
      clear r0 r2
      go_enter Try.func3, Try.ntmps3
      go_wp2_with fail
      go_loopw [7] (fun sv wr => AlRel f l w sv wr) (fun sv _ => n2 - (intOf sv).toNat)
      case atStart => exact ⟨0, by omega, rfl, fun j _ hj => by omega, rfl⟩
      case round =>
        obtain ⟨i, hi, rfl, d1, rfl⟩ := hrel
        have hi' : i ≤ n2 := by rw [← L2.out]; exact hi
        clear hi
        by_cases hlt : i < n2
        · have hil : i < l.length := by rw [L2.out]; exact hlt
          obtain ⟨x, rfl, hx⟩ := R2.out.2 (by omega)
          have cx := hx i hil
          have ST := Hid.intro (fun h1 h2 => al_step hil d1 h1 h2)
          clear hx d1
          generalize l[i] = z at *
          by_cases hz1 : 100 < z
          · go_wp2_with fail
            with_reducible refine AW0.mono ?_
            rintro e w4 ⟨rfl, k5⟩
            clear AW0
            go_wp2_with fail
            go_ret
            exact ⟨rfl, k5⟩
          · by_cases hz2 : z < -100
            · go_wp2_with fail
              with_reducible refine AW0.mono ?_
              rintro e w4 ⟨rfl, k5⟩
              clear AW0
              go_wp2_with fail
              go_ret
              exact ⟨rfl, k5⟩
            · by_cases hif : i < n0
              · have hil0 : i < f.length := by rw [L0.out]; exact hif
                obtain ⟨y, rfl, hy⟩ := R0.out.2 (by omega)
                have cy := hy i hil0
                have ST2 := Hid.intro (fun (h2 : -1099511627776 ≤ f[i]'hil0 ∧ f[i]'hil0 ≤ 1099511627776) => ST.out (by omega) (fun _ => h2))
                clear hy ST
                generalize f[i] = u at *
                by_cases hu1 : 1099511627776 < u
                · go_wp2_with fail
                  with_reducible refine AW0.mono ?_
                  rintro e w4 ⟨rfl, k5⟩
                  clear AW0
                  go_wp2_with fail
                  go_ret
                  exact ⟨rfl, k5⟩
                · by_cases hu2 : u < -1099511627776
                  · go_wp2_with fail
                    with_reducible refine AW0.mono ?_
                    rintro e w4 ⟨rfl, k5⟩
                    clear AW0
                    go_wp2_with fail
                    go_ret
                    exact ⟨rfl, k5⟩
                  · have ST3 := Hid.intro (ST2.out (by omega))
                    clear ST2
                    go_wp2_with fail
                    go_roundw
                    case rel => exact ⟨i + 1, by rw [L2.out]; omega, by go_num, ST3.out, rfl⟩
                    case measure => simp [intOf]; omega
              · have ST3 := Hid.intro (ST.out (by omega) (fun h => absurd h (by rw [L0.out]; omega)))
                clear ST
                go_wp2_with fail
                go_roundw
                case rel => exact ⟨i + 1, by rw [L2.out]; omega, by go_num, ST3.out, rfl⟩
                case measure => simp [intOf]; omega
        · have HDB : Hid (DotB f l) := fun j h h' => by
            have q := d1 j h' (by have := L2.out; omega)
            exact prod_bd _ _ (q.2 h).1 (q.2 h).2 q.1.1 q.1.2
          clear d1 AW0
          by_cases hm : mayB f n0 lim = true
          · obtain ⟨e65, _, l7, l15⟩ := mayB_facts hm
            subst e65
            obtain ⟨limit, rfl⟩ : ∃ k : Nat, lim = (k : Int) := ⟨lim.toNat, by omega⟩
            have LE := lengths_yes a0 c0 f limit wr R0.out hm
            have HM := Hid.intro hm
            clear hm
            go_wp2_with fail
            with_reducible refine LE.mono ?_
            rintro e w5 ⟨v, o, r, rfl, k1, k2, k3, k4⟩
            have RL := rlengths_yes a0 c0 f limit w5 (ri_below R0.out k4) HM.out
            have K := Hid.intro (And.intro k1 (And.intro k2 (And.intro k3 k4)))
            obtain ⟨bl, cl, rfl⟩ := own_slice k3 (by omega)
            clear LE k1 k2 k3 k4
            go_wp2_with fail
            with_reducible refine RL.mono ?_
            rintro e w6 hpost
            obtain ⟨vx, o', r', rfl, m1, m2, m3, m4⟩ := hpost
            obtain ⟨k1, k2, k3, k4⟩ := K.out
            obtain rfl := ordered_one k1 m1
            obtain rfl := ranks_one k2 m2
            obtain ⟨bx, cx, rfl⟩ := own_slice m3 (by omega)
            have B6 : Hid (Below wr.heap.size wr w6) := k4.trans (m4.mono k4.size)
            have SAME : ∀ W, Below w6.heap.size w6 W → Calls Try.prog 12 #[.slice (some ⟨bl, 0, none⟩) 65 cl, .slice (some ⟨bx, 0, none⟩) 65 cx] W fun e W' => e = .returned (.bool true) ∧ Below W.heap.size W W' := fun W hW => by
              have c := sameI_any (some ⟨bl, 0, none⟩) (some ⟨bx, 0, none⟩) 65 65 cl cx _ _ W (ri_below (own_ri2 (own_later k3 m4)) hW) (ri_below (own_ri2 m3) hW) (by omega) (by omega)
              rw [decide_eq_true rfl] at c; exact c
            clear RL K k1 k2 k3 k4 m1 m2 m3 m4
            have b8 : Below w6.heap.size w6 (w6.alloc (.cells #[.slice (some ⟨bx, 0, none⟩) 65 cx, .int .i64 0] 28)) := (Below.refl _ _).alloc (Nat.le_refl _) _
            have bk8 := blk_new w6 #[.slice (some ⟨bx, 0, none⟩) 65 cx, .int .i64 0] 28
            obtain ⟨w8, hw8⟩ : ∃ w8, w6.alloc (.cells #[.slice (some ⟨bx, 0, none⟩) 65 cx, .int .i64 0] 28) = w8 := ⟨_, rfl⟩
            rw [hw8] at b8 bk8
            have B8 : Below wr.heap.size wr w8 := B6.out.trans (b8.mono B6.out.size)
            have hS : (w8.drew.cell? ⟨w6.heap.size, 0, none⟩ = some (.slice (some ⟨bx, 0, none⟩) 65 cx) ∧ w8.drew.cell? ⟨w6.heap.size, 1, none⟩ = some (.int .i64 0)) ∧ Below w8.heap.size w8 w8.drew := ⟨⟨by show w8.cell? _ = _; rw [blk_cell bk8]; rfl, by show w8.cell? _ = _; rw [blk_cell bk8]; rfl⟩, (Below.refl _ _).drew⟩
            have bkl := blk_lt bk8
            have SA : ∀ W, Below w8.heap.size w8 W → Calls Try.prog 12 #[.slice (some ⟨bl, 0, none⟩) 65 cl, .slice (some ⟨bx, 0, none⟩) 65 cx] W fun e W' => e = .returned (.bool true) ∧ Below W.heap.size W W' := fun W hW => by
              exact SAME W (b8.trans (hW.mono b8.size))
            have ER := fun W => err_any 0 W
            have C1 : ∀ W, Below w8.heap.size w8 W → Calls Try.prog 14 #[.slice a0 65 c0, .slice a2 n2 c2] W fun e W' => e = .returned (.int .i64 (dot f l)) ∧ Below W.heap.size W W' := fun W hW => cost_any a0 a2 65 n2 c0 c2 f l W (ri_below R0.out ((B8.trans (hW.mono B8.size)))) (ri_below R2.out (B8.trans (hW.mono B8.size))) (by omega) (by omega) HDB.out
            have C2 : ∀ W, Below w8.heap.size w8 W → Calls Try.prog 15 #[.slice a0 65 c0, .slice a2 n2 c2] W fun e W' => e = .returned (.int .i64 (dot f l)) ∧ Below W.heap.size W W' := fun W hW => rcost_any a0 a2 65 n2 c0 c2 f l W (ri_below R0.out ((B8.trans (hW.mono B8.size)))) (ri_below R2.out (B8.trans (hW.mono B8.size))) (by omega) (by omega) HDB.out
            have AW := awake_any
            have HB8 := Hid.intro B8
            generalize dot f l = dd at *
            have tt : ((dd : Int) == dd) = true := by simp
            have HW8 := Hid.intro hw8
            clear b8 bk8 B8 SAME hw8
            go_wp2_with fail
            rw [HW8.out]
            clear HW8
            go_region_held3 (fun W => (W.cell? ⟨w6.heap.size, 0, none⟩ = some (.slice (some ⟨bx, 0, none⟩) 65 cx) ∧ W.cell? ⟨w6.heap.size, 1, none⟩ = some (.int .i64 0)) ∧ Below w8.heap.size w8 W) (first | exact hS | exact held_keep bkl (by assumption) (by assumption) | assumption) (first
              | (go_at_call 12; refine (SA _ ?_).mono ?_; exact held_tail (by assumption); rintro e w9 ⟨rfl, hb9⟩)
              | (go_at_call 13; refine (ER _).mono ?_; rintro e w9 ⟨rfl, hb9⟩; have hb9 := held_same hb9)
              | (go_at_call 14; refine (C1 _ ?_).mono ?_; exact held_tail (by assumption); rintro e w9 ⟨rfl, hb9⟩)
              | (go_at_call 15; refine (C2 _ ?_).mono ?_; exact held_tail (by assumption); rintro e w9 ⟨rfl, hb9⟩)
              | (go_at_call 9; refine (AW _).mono ?_; rintro e w9 ⟨rfl, hb9⟩))
            all_goals
              have hT : ∃ p : Prop, p ∧ Below w8.heap.size w8 w9 := ⟨_, by assumption⟩
              obtain ⟨_, _, hT⟩ := hT
              have B9 := Hid.intro (HB8.out.trans (hT.mono HB8.out.size))
              clear hT
              go_wp2_with fail
              go_ret
              exact ⟨rfl, B9.out⟩
          · have hm' : mayB f n0 lim = false := by simpa using hm
            have LE := lengths_no a0 n0 c0 f lim wr R0.out (by omega) hm'
            have RL := rlengths_no a0 n0 c0 f lim wr R0.out (by omega) hm'
            clear hm hm'
            go_wp2_with fail
            with_reducible refine LE.mono ?_
            rintro e w5 ⟨rfl, rfl⟩
            clear LE
            go_wp2_with fail
            with_reducible refine RL.mono ?_
            rintro e w6 ⟨rfl, k4⟩
            have B6 := Hid.intro k4
            have SAME : ∀ W, Below w6.heap.size w6 W → Calls Try.prog 12 #[.slice none 0 0, .slice none 0 0] W fun e W' => e = .returned (.bool true) ∧ Below W.heap.size W W' := fun W hW => by
              have c := sameI_any none none 0 0 0 0 [] [] W ⟨rfl, fun h => by omega⟩ ⟨rfl, fun h => by omega⟩ (by omega) (by omega)
              rw [decide_eq_true rfl] at c; exact c
            clear RL k4
            have b8 : Below w6.heap.size w6 (w6.alloc (.cells #[.slice none 0 0, .int .i64 1] 28)) := (Below.refl _ _).alloc (Nat.le_refl _) _
            have bk8 := blk_new w6 #[.slice none 0 0, .int .i64 1] 28
            obtain ⟨w8, hw8⟩ : ∃ w8, w6.alloc (.cells #[.slice none 0 0, .int .i64 1] 28) = w8 := ⟨_, rfl⟩
            rw [hw8] at b8 bk8
            have B8 : Below w5.heap.size w5 w8 := B6.out.trans (b8.mono B6.out.size)
            have hS : (w8.drew.cell? ⟨w6.heap.size, 0, none⟩ = some (.slice none 0 0) ∧ w8.drew.cell? ⟨w6.heap.size, 1, none⟩ = some (.int .i64 1)) ∧ Below w8.heap.size w8 w8.drew := ⟨⟨by show w8.cell? _ = _; rw [blk_cell bk8]; rfl, by show w8.cell? _ = _; rw [blk_cell bk8]; rfl⟩, (Below.refl _ _).drew⟩
            have bkl := blk_lt bk8
            have SA : ∀ W, Below w8.heap.size w8 W → Calls Try.prog 12 #[.slice none 0 0, .slice none 0 0] W fun e W' => e = .returned (.bool true) ∧ Below W.heap.size W W' := fun W hW => by
              exact SAME W (b8.trans (hW.mono b8.size))
            have ER := fun W => err_any 1 W
            have C1 : ∀ W, Below w8.heap.size w8 W → Calls Try.prog 14 #[.slice a0 n0 c0, .slice a2 n2 c2] W fun e W' => e = .returned (.int .i64 (dot f l)) ∧ Below W.heap.size W W' := fun W hW => cost_any a0 a2 n0 n2 c0 c2 f l W (ri_below R0.out ((B8.trans (hW.mono B8.size)))) (ri_below R2.out (B8.trans (hW.mono B8.size))) (by omega) (by omega) HDB.out
            have C2 : ∀ W, Below w8.heap.size w8 W → Calls Try.prog 15 #[.slice a0 n0 c0, .slice a2 n2 c2] W fun e W' => e = .returned (.int .i64 (dot f l)) ∧ Below W.heap.size W W' := fun W hW => rcost_any a0 a2 n0 n2 c0 c2 f l W (ri_below R0.out ((B8.trans (hW.mono B8.size)))) (ri_below R2.out (B8.trans (hW.mono B8.size))) (by omega) (by omega) HDB.out
            have AW := awake_any
            have HB8 := Hid.intro B8
            generalize dot f l = dd at *
            have tt : ((dd : Int) == dd) = true := by simp
            have HW8 := Hid.intro hw8
            clear b8 bk8 B8 SAME hw8
            go_wp2_with fail
            rw [HW8.out]
            clear HW8
            go_region_held3 (fun W => (W.cell? ⟨w6.heap.size, 0, none⟩ = some (.slice none 0 0) ∧ W.cell? ⟨w6.heap.size, 1, none⟩ = some (.int .i64 1)) ∧ Below w8.heap.size w8 W) (first | exact hS | exact held_keep bkl (by assumption) (by assumption) | assumption) (first
              | (go_at_call 12; refine (SA _ ?_).mono ?_; exact held_tail (by assumption); rintro e w9 ⟨rfl, hb9⟩)
              | (go_at_call 13; refine (ER _).mono ?_; rintro e w9 ⟨rfl, hb9⟩; have hb9 := held_same hb9)
              | (go_at_call 14; refine (C1 _ ?_).mono ?_; exact held_tail (by assumption); rintro e w9 ⟨rfl, hb9⟩)
              | (go_at_call 15; refine (C2 _ ?_).mono ?_; exact held_tail (by assumption); rintro e w9 ⟨rfl, hb9⟩)
              | (go_at_call 9; refine (AW _).mono ?_; rintro e w9 ⟨rfl, hb9⟩))
            all_goals
              have hT : ∃ p : Prop, p ∧ Below w8.heap.size w8 w9 := ⟨_, by assumption⟩
              obtain ⟨_, _, hT⟩ := hT
              have B9 := Hid.intro (HB8.out.trans (hT.mono HB8.out.size))
              clear hT
              go_wp2_with fail
              go_ret
              exact ⟨rfl, B9.out⟩
end Go.Proofs.Ytabnafjndljimaa
