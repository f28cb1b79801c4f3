/-
  LensAll: the walk.
-/
import Derived.Test.YthjokhfjfiaaiaaRg
import Derived.Test.YthjokhfjfiaaiaaSi
namespace Go.Proofs.Ythjokhfjfiaaiaa
open Go.ChangeShapes Go.WideShapes Go.ChangeAt Go.RowKit
open Go.ChangeMaps (open_string shut_string)

theorem held_keep3 {w8 a b : World} {B : Nat} {u v x : Value} (hB : B < w8.heap.size) (h : (a.cell? ⟨B, 0, none⟩ = some u ∧ a.cell? ⟨B, 1, none⟩ = some v ∧ a.cell? ⟨B, 2, none⟩ = some x) ∧ Below w8.heap.size w8 a) (k : Below a.heap.size a b) :
    (b.cell? ⟨B, 0, none⟩ = some u ∧ b.cell? ⟨B, 1, none⟩ = some v ∧ b.cell? ⟨B, 2, none⟩ = some x) ∧ Below w8.heap.size w8 b := by
  have hs : B < a.heap.size := Nat.lt_of_lt_of_le hB h.2.size
  refine ⟨⟨?_, ?_, ?_⟩, h.2.trans (k.mono h.2.size)⟩
  · rw [(bcell k).1 B 0 hs]; exact h.1.1
  · rw [(bcell k).1 B 1 hs]; exact h.1.2.1
  · rw [(bcell k).1 B 2 hs]; exact h.1.2.2
set_option maxRecDepth 100000 in
set_option maxHeartbeats 4000000 in
theorem all_walk (a : Option Addr) (n cap : Nat) (f : List Int) (s : ByteArray) (at' : Int) (w : World) (h : RI w a n f) (hc : n ≤ cap) (hc2 : cap ≤ 9223372036854775807) (hs : s.size ≤ 9223372036854775807) :
    Calls Try.prog 3 #[.slice a n cap, .string s, .int .i64 at'] w fun e w' => e = .returned (.bool true) ∧ Below w.heap.size w w' := by
  by_cases hn : 100 < n
  · have AW := awake_any w
    clear h
    go_enter Try.func3, Try.ntmps3
    go_wp2_with fail
    with_reducible refine AW.mono ?_
    rintro e w1 ⟨rfl, b1⟩
    clear AW
    go_wp2_with fail
    go_ret
    exact ⟨rfl, b1⟩
  · by_cases hs2 : 200 < s.size
    · have AW := awake_any w
      clear h
      go_enter Try.func3, Try.ntmps3
      go_wp2_with fail
      with_reducible refine AW.mono ?_
      rintro e w1 ⟨rfl, b1⟩
      clear AW
      go_wp2_with fail
      go_ret
      exact ⟨rfl, b1⟩
    · have R0 := Hid.intro h
      have G := lget_any s at' w (by omega)
      have RG := Hid.intro (fun W => rgetl_any s at' W (by omega))
      obtain ⟨⟨er, L, nx⟩, hg⟩ : ∃ g, getA s.data.toList at' = g := ⟨_, rfl⟩
      rw [hg] at G RG
      have PU : Hid (∀ W, Below w.heap.size w W → Calls Try.prog 10 #[.slice a n cap] W fun e W' => e = .returned (.string (bs (putL f))) ∧ Below W.heap.size W W') := fun W hW => lput_any a n cap f W (ri_below R0.out hW) (by omega) hc hc2
      have RP : Hid (∀ W, Below w.heap.size w W → Calls Try.prog 11 #[.slice a n cap] W fun e W' => e = .returned (.string (bs (putL f))) ∧ Below W.heap.size W W') := fun W hW => rputl_any a n cap f W (ri_below R0.out hW) (by omega)
      obtain ⟨P, hP⟩ : ∃ P, bs (putL f) = P := ⟨_, rfl⟩
      rw [hP] at PU RP
      clear h hg hP R0
      go_enter Try.func3, Try.ntmps3
      go_wp2_with fail
      with_reducible refine G.mono ?_
      rintro e w5 ⟨a1, n1, cap1, rfl, r1, hn1, -, -, b5⟩
      have B5 := Hid.intro b5
      have R1 := Hid.intro r1
      clear G b5 r1
      go_wp2_with fail
      with_reducible refine (RG.out w5).mono ?_
      rintro e w6 ⟨a2, n2, cap2, rfl, r2, hn2, b6⟩
      have B6 := Hid.intro b6
      have R2 := Hid.intro r2
      clear RG b6 r2
      have b8 : Below w6.heap.size w6 (w6.alloc (.cells #[.slice a2 n2 cap2, .int .i64 (nx : Int), .int .i64 (er : Int)] 28)) := (Below.refl _ _).alloc (Nat.le_refl _) _
      have bk8 := blk_new w6 #[.slice a2 n2 cap2, .int .i64 (nx : Int), .int .i64 (er : Int)] 28
      obtain ⟨w8, hw8⟩ : ∃ w8, w6.alloc (.cells #[.slice a2 n2 cap2, .int .i64 (nx : Int), .int .i64 (er : Int)] 28) = w8 := ⟨_, rfl⟩
      rw [hw8] at b8 bk8
      have B8 : Below w.heap.size w w8 := (B5.out.trans (B6.out.mono B5.out.size)).trans (b8.mono (B5.out.trans (B6.out.mono B5.out.size)).size)
      have hS : (w8.drew.cell? ⟨w6.heap.size, 0, none⟩ = some (.slice a2 n2 cap2) ∧ w8.drew.cell? ⟨w6.heap.size, 1, none⟩ = some (.int .i64 (nx : Int)) ∧ w8.drew.cell? ⟨w6.heap.size, 2, none⟩ = some (.int .i64 (er : Int))) ∧ Below w8.heap.size w8 w8.drew := ⟨⟨by show w8.cell? _ = _; rw [blk_cell bk8]; rfl, by show w8.cell? _ = _; rw [blk_cell bk8]; rfl, by show w8.cell? _ = _; rw [blk_cell bk8]; rfl⟩, (Below.refl _ _).drew⟩
      have bkl := blk_lt bk8
      have P1 : ∀ W, Below w8.heap.size w8 W → Calls Try.prog 10 #[.slice a n cap] W fun e W' => e = .returned (.string P) ∧ Below W.heap.size W W' := fun W hW => PU.out W (B8.trans (hW.mono B8.size))
      have P2 : ∀ W, Below w8.heap.size w8 W → Calls Try.prog 11 #[.slice a n cap] W fun e W' => e = .returned (.string P) ∧ Below W.heap.size W W' := fun W hW => RP.out W (B8.trans (hW.mono B8.size))
      have SA : ∀ W, Below w8.heap.size w8 W → Calls Try.prog 12 #[.slice a1 n1 cap1, .slice a2 n2 cap2] W fun e W' => e = .returned (.bool true) ∧ Below W.heap.size W W' := fun W hW => by
        have c := sameI_any a1 a2 n1 n2 cap1 cap2 _ _ W (ri_below (ri_below (ri_below R1.out B6.out) b8) hW) (ri_below (ri_below R2.out b8) hW) (by omega) (by omega)
        rw [decide_eq_true rfl] at c; exact c
      have ER := fun W => err_any (er : Int) W
      have AW := awake_any
      have t0 : (P.toList == P.toList) = true := by simp
      have t1 : ((nx : Int) == (nx : Int)) = true := by simp
      have t2 : ((er : Int) == (er : Int)) = true := by simp
      have HB8 := Hid.intro B8
      have HW8 := Hid.intro hw8
      clear b8 bk8 B8 hw8 PU RP B5 B6 R1 R2
      go_wp2_with fail
      rw [HW8.out]
      clear HW8
      go_region_held3 (fun W => (W.cell? ⟨w6.heap.size, 0, none⟩ = some (.slice a2 n2 cap2) ∧ W.cell? ⟨w6.heap.size, 1, none⟩ = some (.int .i64 (nx : Int)) ∧ W.cell? ⟨w6.heap.size, 2, none⟩ = some (.int .i64 (er : Int))) ∧ Below w8.heap.size w8 W) (first | exact hS | exact held_keep3 bkl (by assumption) (by assumption) | assumption) (first
        | (go_at_call 10; refine (P1 _ ?_).mono ?_; exact held_tail (by assumption); rintro e w9 ⟨rfl, hb9⟩)
        | (go_at_call 11; refine (P2 _ ?_).mono ?_; exact held_tail (by assumption); rintro e w9 ⟨rfl, hb9⟩)
        | (go_at_call 12; refine (SA _ ?_).mono ?_; exact held_tail (by assumption); rintro e w9 ⟨rfl, hb9⟩)
        | (go_at_call 13; refine (ER _).mono ?_; rintro e w9 ⟨rfl, hb9⟩; have hb9 := held_same hb9)
        | (go_at_call 7; refine (AW _).mono ?_; rintro e w9 ⟨rfl, hb9⟩))
      all_goals
        have hT : ∃ p : Prop, p ∧ Below w8.heap.size w8 w9 := ⟨_, by assumption⟩
        obtain ⟨_, _, hT⟩ := hT
        have B9 := Hid.intro (HB8.out.trans (hT.mono HB8.out.size))
        clear hT
        go_wp2_with fail
        go_ret
        exact ⟨rfl, B9.out⟩
end Go.Proofs.Ythjokhfjfiaaiaa
