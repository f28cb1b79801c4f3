/-
  SpreadAll: the walk.
-/
import Derived.Test.YteceiinehcjdjaaRt
import Derived.Test.YteceiinehcjdjaaTt
import Derived.Test.YteceiinehcjdjaaSc
import Derived.Test.YteceiinehcjdjaaAw
import Derived.Deep.QuietTactic
import Derived.Deep.RegionWith
import Derived.Deep.RegionHeld3
import Derived.OwnWalk
import Derived.ChangeOld
import Derived.Below
import Derived.BigQuiet
namespace Go.Proofs.Yteceiinehcjdjaa
open Go.ChangeShapes Go.WideShapes Go.ChangeAt Go.RowKit
open Go.ChangeMaps (open_string shut_string)

theorem keep4 {w8 a b : World} {p q : Nat} {u0 u1 v0 v1 : Value} (hp : p < w8.heap.size) (hq : q < w8.heap.size) (h : (a.cell? ⟨p, 0, none⟩ = some u0 ∧ a.cell? ⟨p, 1, none⟩ = some u1 ∧ a.cell? ⟨q, 0, none⟩ = some v0 ∧ a.cell? ⟨q, 1, none⟩ = some v1) ∧ Below w8.heap.size w8 a) (k : Below a.heap.size a b) :
    (b.cell? ⟨p, 0, none⟩ = some u0 ∧ b.cell? ⟨p, 1, none⟩ = some u1 ∧ b.cell? ⟨q, 0, none⟩ = some v0 ∧ b.cell? ⟨q, 1, none⟩ = some v1) ∧ Below w8.heap.size w8 b := by
  have sp : p < a.heap.size := Nat.lt_of_lt_of_le hp h.2.size
  have sq : q < a.heap.size := Nat.lt_of_lt_of_le hq h.2.size
  refine ⟨⟨?_, ?_, ?_, ?_⟩, h.2.trans (k.mono h.2.size)⟩
  · rw [(bcell k).1 p 0 sp]; exact h.1.1
  · rw [(bcell k).1 p 1 sp]; exact h.1.2.1
  · rw [(bcell k).1 q 0 sq]; exact h.1.2.2.1
  · rw [(bcell k).1 q 1 sq]; exact h.1.2.2.2
theorem spr_le (f : List Int) (z : Int) : (sprA f z).2.length ≤ 4096 ∧ (tabA f z).2.length ≤ 4096 ∧ (sprA f z).1 = (tabA f z).1 := by
  by_cases h : may z f = true
  · obtain ⟨k, L, -, -, e3, e4, sp⟩ := may_spd h
    rw [sprA_yes h, tabA_yes h, e3, e4]
    have := pow_bd k sp.k12
    refine ⟨by rw [sp.all]; exact this, by rw [tab_len]; exact this, rfl⟩
  · have h' : may z f = false := by simpa using h
    rw [sprA_no h', tabA_no h']
    simp
set_option maxRecDepth 100000 in
set_option maxHeartbeats 8000000 in
theorem all_walk (a : Option Addr) (n cap : Nat) (f : List Int) (z : Int) (w : World) (h : RI w a n f) (hn2 : n ≤ 9223372036854775807) :
    Calls Try.prog 3 #[.slice a n cap, .int .i64 z] w fun e w' => e = .returned (.bool true) ∧ Below w.heap.size w w' := by
  have AW := Hid.intro awake_any
  by_cases hbig : 100 < n
  · clear h
    go_enter Try.func3, Try.ntmps3
    go_wp2_with fail
    with_reducible refine (AW.out _).mono ?_
    rintro e w1 ⟨rfl, b1⟩
    go_wp2_with fail
    go_ret
    exact ⟨rfl, b1⟩
  · have HR : Hid (∀ W, Below w.heap.size w W → RI W a n f) := fun W hW => ri_below h hW
    obtain ⟨l1, l2, l3⟩ := spr_le f z
    have C1 : Hid (∀ W, Below w.heap.size w W → Calls Try.prog 9 #[.slice a n cap, .int .i64 z] W fun e W' => SpPost (sprA f z) W e W') := fun W hW => spread_any a n cap f z W (HR.out W hW) (by omega)
    have C2 : Hid (∀ W, Below w.heap.size w W → Calls Try.prog 10 #[.slice a n cap, .int .i64 z] W fun e W' => RsPost (sprA f z) W e W') := fun W hW => rspread_any a n cap f z W (HR.out W hW) (by omega)
    have C3 : Hid (∀ W, Below w.heap.size w W → Calls Try.prog 11 #[.slice a n cap, .int .i64 z] W fun e W' => TbPost (tabA f z) W e W') := fun W hW => table_any a n cap f z W (HR.out W hW) (by omega)
    have C4 : Hid (∀ W, Below w.heap.size w W → Calls Try.prog 12 #[.slice a n cap, .int .i64 z] W fun e W' => RtPost (tabA f z) W e W') := fun W hW => rtable_any a n cap f z W (HR.out W hW) (by omega)
    obtain ⟨A, hA⟩ : ∃ A, sprA f z = A := ⟨_, rfl⟩
    obtain ⟨T, hT⟩ : ∃ T, tabA f z = T := ⟨_, rfl⟩
    rw [hA] at C1 C2 l1 l3
    rw [hT] at C3 C4 l2 l3
    obtain ⟨E, M⟩ := A
    obtain ⟨E', R⟩ := T
    simp only at l1 l2 l3
    subst l3
    clear h hA hT
    go_enter Try.func3, Try.ntmps3
    go_wp2_with fail
    with_reducible refine (C1.out w (Below.refl _ _)).mono ?_
    rintro e w1 ⟨v1, rfl, o1, b1⟩
    have o1' : w1.ownsRow w.heap.size 3 1 v1 M.length (ivs (M.map Int.ofNat)) := o1
    obtain ⟨a1, c1, rfl, -, -, -⟩ := own_ri o1'
    have O1 := Hid.intro o1'
    have B1 := Hid.intro b1
    clear o1 o1' b1 C1
    simp only
    go_wp2_with fail
    with_reducible refine (C2.out w1 B1.out).mono ?_
    rintro e w2 ⟨v2, rfl, o2, b2⟩
    have o2' : w2.ownsRow w1.heap.size 3 1 v2 M.length (ivs (M.map Int.ofNat)) := o2
    obtain ⟨a2, c2, rfl, -, -, -⟩ := own_ri o2'
    have B2 := Hid.intro (B1.out.trans (b2.mono B1.out.size))
    have O1 := Hid.intro (own_later O1.out b2)
    have O2 := Hid.intro o2'
    clear o2 o2' b2 C2 B1
    simp only
    have bX := blk_new w2 #[.slice a2 M.length c2, .int .i64 (E : Nat)] 28
    have b3 : Below w2.heap.size w2 (w2.alloc (.cells #[.slice a2 M.length c2, .int .i64 (E : Nat)] 28)) := (Below.refl _ _).alloc (Nat.le_refl _) _
    have B3 := Hid.intro (B2.out.trans (b3.mono B2.out.size))
    have O1 := Hid.intro (own_later O1.out b3)
    have O2 := Hid.intro (own_later O2.out b3)
    obtain ⟨X, hX⟩ : ∃ X, w2.heap.size = X := ⟨_, rfl⟩
    rw [hX] at bX
    have C3' := C3.out _ B3.out
    clear b3 B2 C3
    go_wp2_with fail
    generalize w2.alloc (.cells #[.slice a2 M.length c2, .int .i64 (E : Nat)] 28) = w3 at *
    clear hX
    with_reducible refine C3'.mono ?_
    rintro e w4 ⟨v3, rfl, o3, b4⟩
    have o3' : w4.ownsRow w3.heap.size 45 3 v3 R.length (cvs R) := o3
    obtain ⟨a3, c3, rfl, r3⟩ := own_rc o3'
    have B4 := Hid.intro (B3.out.trans (b4.mono B3.out.size))
    have O1 := Hid.intro (own_later O1.out b4)
    have O2 := Hid.intro (own_later O2.out b4)
    have O3 := Hid.intro r3
    have bX := blk_below bX b4 (blk_lt bX)
    clear o3 o3' r3 b4 C3' B3
    simp only
    go_wp2_with fail
    with_reducible refine (C4.out w4 B4.out).mono ?_
    rintro e w5 ⟨v4, rfl, o4, b5⟩
    have o4' : w5.ownsRow w4.heap.size 45 3 v4 R.length (cvs R) := o4
    obtain ⟨a4, c4, rfl, r4⟩ := own_rc o4'
    have B5 := Hid.intro (B4.out.trans (b5.mono B4.out.size))
    have O1 := Hid.intro (own_later O1.out b5)
    have O2 := Hid.intro (own_later O2.out b5)
    have O3 := Hid.intro (rc_later O3.out b5)
    have O4 := Hid.intro r4
    have bX := blk_below bX b5 (blk_lt bX)
    clear o4 o4' r4 b5 C4 B4
    simp only
    have bY := blk_new w5 #[.slice a4 R.length c4, .int .i64 (E : Nat)] 34
    have b6 : Below w5.heap.size w5 (w5.alloc (.cells #[.slice a4 R.length c4, .int .i64 (E : Nat)] 34)) := (Below.refl _ _).alloc (Nat.le_refl _) _
    have B6 := Hid.intro (B5.out.trans (b6.mono B5.out.size))
    have O1 := Hid.intro (own_later O1.out b6)
    have O2 := Hid.intro (own_later O2.out b6)
    have O3 := Hid.intro (rc_later O3.out b6)
    have O4 := Hid.intro (rc_later O4.out b6)
    have bX := blk_below bX b6 (blk_lt bX)
    obtain ⟨Y, hY⟩ : ∃ Y, w5.heap.size = Y := ⟨_, rfl⟩
    rw [hY] at bY
    have hY' := Hid.intro hY
    clear b6 B5
    go_wp2_with fail
    generalize w5.alloc (.cells #[.slice a4 R.length c4, .int .i64 (E : Nat)] 34) = w8 at *
    clear hY
    have hp := blk_lt bX
    have hq := blk_lt bY
    have x0 : w8.drew.cell? ⟨X, 0, none⟩ = some (.slice a2 M.length c2) := by show w8.cell? _ = _; rw [blk_cell bX]; rfl
    have x1 : w8.drew.cell? ⟨X, 1, none⟩ = some (.int .i64 (E : Int)) := by show w8.cell? _ = _; rw [blk_cell bX]; rfl
    have y0 : w8.drew.cell? ⟨Y, 0, none⟩ = some (.slice a4 R.length c4) := by show w8.cell? _ = _; rw [blk_cell bY]; rfl
    have y1 : w8.drew.cell? ⟨Y, 1, none⟩ = some (.int .i64 (E : Int)) := by show w8.cell? _ = _; rw [blk_cell bY]; rfl
    have SI : Hid (∀ W, Below w8.heap.size w8 W → Calls Try.prog 13 #[.slice a1 M.length c1, .slice a2 M.length c2] W fun e W' => e = .returned (.bool true) ∧ Below W.heap.size W W') := fun W hW => by
      have c := sameI_any a1 a2 M.length M.length c1 c2 (M.map Int.ofNat) (M.map Int.ofNat) W (own_ri' (own_later O1.out hW)) (own_ri' (own_later O2.out hW)) (by omega) (by omega)
      rw [decide_eq_true rfl] at c; exact c
    have SC : Hid (∀ W, Below w8.heap.size w8 W → Calls Try.prog 15 #[.slice a3 R.length c3, .slice a4 R.length c4] W fun e W' => e = .returned (.bool true) ∧ Below W.heap.size W W') := fun W hW => samec_any a3 a4 R.length c3 c4 R W (rc_later O3.out hW) (rc_later O4.out hW) (by omega)
    have tE : ((E : Int) == (E : Int)) = true := by simp
    have B8 := Hid.intro B6.out
    clear bX bY O1 O2 O3 O4 HR B6
    generalize M.length = m at *
    generalize R.length = r at *
    refine wp_region_held_drew (S := fun W => (W.cell? ⟨X, 0, none⟩ = some (.slice a2 m c2) ∧ W.cell? ⟨X, 1, none⟩ = some (.int .i64 (E : Int)) ∧ W.cell? ⟨Y, 0, none⟩ = some (.slice a4 r c4) ∧ W.cell? ⟨Y, 1, none⟩ = some (.int .i64 (E : Int))) ∧ Below w8.heap.size w8 W) (by kernel_rfl) ⟨⟨x0, x1, y0, y1⟩, (Below.refl _ _).drew⟩ (fun hHeld => ?_)
    refine take' (i := 0) (d := (some 33)) (v := ?_) rfl rfl (by kernel_rfl) (by kernel_rfl) (by kernel_rfl) (fun _ _ _ h => h) (Or.inl ⟨by rfl, ?_⟩) (by assumption) ?_
    rotate_left
    · intro w hSw; (try dsimp only at hSw); go_simp; try with_reducible rfl
    try simp only [Act.put, List.setIfInBounds_toArray, List.set_cons_zero, List.set_cons_succ]
    refine take' (i := 1) (d := (some 34)) (v := ?_) rfl rfl (by kernel_rfl) (by kernel_rfl) (by kernel_rfl) (fun _ _ _ h => h) (Or.inl ⟨by rfl, ?_⟩) (by assumption) ?_
    rotate_left
    · intro w hSw; (try dsimp only at hSw); go_simp; try with_reducible rfl
    try simp only [Act.put, List.setIfInBounds_toArray, List.set_cons_zero, List.set_cons_succ]
    refine take' (i := 2) (d := (some 35)) (v := ?_) rfl rfl (by kernel_rfl) (by kernel_rfl) (by kernel_rfl) (fun _ _ _ h => h) (Or.inl ⟨by rfl, ?_⟩) (by assumption) ?_
    rotate_left
    · intro w hSw; (try dsimp only at hSw); go_simp; try with_reducible rfl
    try simp only [Act.put, List.setIfInBounds_toArray, List.set_cons_zero, List.set_cons_succ]
    refine wpAnyH_ready (rs := [3]) (by kernel_rfl) (by simp) ?_
    refine AllReadyH.cons (o := _) rfl (fun K hK => ?_) AllReadyH.nil
    go_simp
    with_reducible refine (SI.out _ hHeld.2).mono ?_
    rintro e w10 ⟨rfl, hb10⟩
    go_wp2_with fail
    refine hK.out _ _ (keep4 hp hq hHeld hb10) (fun hHeld => ?_)
    clear hK K
    try simp only [Act.put, List.setIfInBounds_toArray, List.set_cons_zero, List.set_cons_succ]
    refine take' (i := 4) (d := (some 37)) (v := ?_) rfl rfl (by kernel_rfl) (by kernel_rfl) (by kernel_rfl) (fun _ _ _ h => h) (Or.inl ⟨by rfl, ?_⟩) (by assumption) ?_
    rotate_left
    · intro w hSw; (try dsimp only at hSw); go_simp; try with_reducible rfl
    try simp only [Act.put, List.setIfInBounds_toArray, List.set_cons_zero, List.set_cons_succ]
    refine take' (i := 5) (d := (some 38)) (v := ?_) rfl rfl (by kernel_rfl) (by kernel_rfl) (by kernel_rfl) (fun _ _ _ h => h) (Or.inl ⟨by rfl, ?_⟩) (by assumption) ?_
    rotate_left
    · intro w hSw; (try dsimp only at hSw); go_simp; try with_reducible rfl
    try simp only [Act.put, List.setIfInBounds_toArray, List.set_cons_zero, List.set_cons_succ]
    refine take' (i := 7) (d := (some 40)) (v := ?_) rfl rfl (by kernel_rfl) (by kernel_rfl) (by kernel_rfl) (fun _ _ _ h => h) (Or.inl ⟨by rfl, ?_⟩) (by assumption) ?_
    rotate_left
    · intro w hSw; (try dsimp only at hSw); go_simp; try with_reducible rfl
    try simp only [Act.put, List.setIfInBounds_toArray, List.set_cons_zero, List.set_cons_succ]
    refine take' (i := 8) (d := (some 41)) (v := ?_) rfl rfl (by kernel_rfl) (by kernel_rfl) (by kernel_rfl) (fun _ _ _ h => h) (Or.inl ⟨by rfl, ?_⟩) (by assumption) ?_
    rotate_left
    · intro w hSw; (try dsimp only at hSw); go_simp; try with_reducible rfl
    try simp only [Act.put, List.setIfInBounds_toArray, List.set_cons_zero, List.set_cons_succ]
    refine wpAnyH_ready (rs := [6]) (by kernel_rfl) (by simp) ?_
    refine AllReadyH.cons (o := _) rfl (fun K hK => ?_) AllReadyH.nil
    go_simp
    with_reducible refine (err_i _ _).mono ?_
    rintro e w10 ⟨rfl, hb10⟩
    cases hb10
    go_wp2_with fail
    refine hK.out _ _ hHeld (fun hHeld => ?_)
    clear hK K
    try simp only [Act.put, List.setIfInBounds_toArray, List.set_cons_zero, List.set_cons_succ]
    refine take' (i := 9) (d := (some 42)) (v := ?_) rfl rfl (by kernel_rfl) (by kernel_rfl) (by kernel_rfl) (fun _ _ _ h => h) (Or.inl ⟨by rfl, ?_⟩) (by assumption) ?_
    rotate_left
    · intro w hSw; (try dsimp only at hSw); go_simp; try with_reducible rfl
    try simp only [Act.put, List.setIfInBounds_toArray, List.set_cons_zero, List.set_cons_succ]
    refine take' (i := 10) (d := (some 43)) (v := ?_) rfl rfl (by kernel_rfl) (by kernel_rfl) (by kernel_rfl) (fun _ _ _ h => h) (Or.inl ⟨by rfl, ?_⟩) (by assumption) ?_
    rotate_left
    · intro w hSw; (try dsimp only at hSw); go_simp; try with_reducible rfl
    try simp only [Act.put, List.setIfInBounds_toArray, List.set_cons_zero, List.set_cons_succ]
    refine take' (i := 11) (d := (some 44)) (v := ?_) rfl rfl (by kernel_rfl) (by kernel_rfl) (by kernel_rfl) (fun _ _ _ h => h) (Or.inl ⟨by rfl, ?_⟩) (by assumption) ?_
    rotate_left
    · intro w hSw; (try dsimp only at hSw); go_simp; try with_reducible rfl
    try simp only [Act.put, List.setIfInBounds_toArray, List.set_cons_zero, List.set_cons_succ]
    refine take' (i := 12) (d := (some 45)) (v := ?_) rfl rfl (by kernel_rfl) (by kernel_rfl) (by kernel_rfl) (fun _ _ _ h => h) (Or.inl ⟨by rfl, ?_⟩) (by assumption) ?_
    rotate_left
    · intro w hSw; (try dsimp only at hSw); go_simp; try with_reducible rfl
    try simp only [Act.put, List.setIfInBounds_toArray, List.set_cons_zero, List.set_cons_succ]
    refine take' (i := 13) (d := (some 46)) (v := ?_) rfl rfl (by kernel_rfl) (by kernel_rfl) (by kernel_rfl) (fun _ _ _ h => h) (Or.inl ⟨by rfl, ?_⟩) (by assumption) ?_
    rotate_left
    · intro w hSw; (try dsimp only at hSw); go_simp; try with_reducible rfl
    try simp only [Act.put, List.setIfInBounds_toArray, List.set_cons_zero, List.set_cons_succ]
    refine take' (i := 14) (d := (some 47)) (v := ?_) rfl rfl (by kernel_rfl) (by kernel_rfl) (by kernel_rfl) (fun _ _ _ h => h) (Or.inl ⟨by rfl, ?_⟩) (by assumption) ?_
    rotate_left
    · intro w hSw; (try dsimp only at hSw); go_simp; try with_reducible rfl
    try simp only [Act.put, List.setIfInBounds_toArray, List.set_cons_zero, List.set_cons_succ]
    refine wpAnyH_ready (rs := [15]) (by kernel_rfl) (by simp) ?_
    refine AllReadyH.cons (o := _) rfl (fun K hK => ?_) AllReadyH.nil
    go_simp
    with_reducible refine (SC.out _ hHeld.2).mono ?_
    rintro e w10 ⟨rfl, hb10⟩
    go_wp2_with fail
    refine hK.out _ _ (keep4 hp hq hHeld hb10) (fun hHeld => ?_)
    clear hK K
    try simp only [Act.put, List.setIfInBounds_toArray, List.set_cons_zero, List.set_cons_succ]
    refine take' (i := 16) (d := (some 49)) (v := ?_) rfl rfl (by kernel_rfl) (by kernel_rfl) (by kernel_rfl) (fun _ _ _ h => h) (Or.inl ⟨by rfl, ?_⟩) (by assumption) ?_
    rotate_left
    · intro w hSw; (try dsimp only at hSw); go_simp; try with_reducible rfl
    try simp only [Act.put, List.setIfInBounds_toArray, List.set_cons_zero, List.set_cons_succ]
    refine take' (i := 17) (d := (some 50)) (v := ?_) rfl rfl (by kernel_rfl) (by kernel_rfl) (by kernel_rfl) (fun _ _ _ h => h) (Or.inl ⟨by rfl, ?_⟩) (by assumption) ?_
    rotate_left
    · intro w hSw; (try dsimp only at hSw); go_simp; try with_reducible rfl
    try simp only [Act.put, List.setIfInBounds_toArray, List.set_cons_zero, List.set_cons_succ]
    refine take' (i := 18) (d := (some 51)) (v := ?_) rfl rfl (by kernel_rfl) (by kernel_rfl) (by kernel_rfl) (fun _ _ _ h => h) (Or.inl ⟨by rfl, ?_⟩) (by assumption) ?_
    rotate_left
    · intro w hSw; (try dsimp only at hSw); go_simp; try with_reducible rfl
    try simp only [Act.put, List.setIfInBounds_toArray, List.set_cons_zero, List.set_cons_succ]
    refine take' (i := 20) (d := (some 53)) (v := ?_) rfl rfl (by kernel_rfl) (by kernel_rfl) (by kernel_rfl) (fun _ _ _ h => h) (Or.inl ⟨by rfl, ?_⟩) (by assumption) ?_
    rotate_left
    · intro w hSw; (try dsimp only at hSw); go_simp; try with_reducible rfl
    try simp only [Act.put, List.setIfInBounds_toArray, List.set_cons_zero, List.set_cons_succ]
    refine take' (i := 21) (d := (some 54)) (v := ?_) rfl rfl (by kernel_rfl) (by kernel_rfl) (by kernel_rfl) (fun _ _ _ h => h) (Or.inl ⟨by rfl, ?_⟩) (by assumption) ?_
    rotate_left
    · intro w hSw; (try dsimp only at hSw); go_simp; try with_reducible rfl
    try simp only [Act.put, List.setIfInBounds_toArray, List.set_cons_zero, List.set_cons_succ]
    refine wpAnyH_ready (rs := [19]) (by kernel_rfl) (by simp) ?_
    refine AllReadyH.cons (o := _) rfl (fun K hK => ?_) AllReadyH.nil
    go_simp
    with_reducible refine (err_i _ _).mono ?_
    rintro e w10 ⟨rfl, hb10⟩
    cases hb10
    go_wp2_with fail
    refine hK.out _ _ hHeld (fun hHeld => ?_)
    clear hK K
    try simp only [Act.put, List.setIfInBounds_toArray, List.set_cons_zero, List.set_cons_succ]
    refine take' (i := 22) (d := (some 55)) (v := ?_) rfl rfl (by kernel_rfl) (by kernel_rfl) (by kernel_rfl) (fun _ _ _ h => h) (Or.inl ⟨by rfl, ?_⟩) (by assumption) ?_
    rotate_left
    · intro w hSw; (try dsimp only at hSw); go_simp; try with_reducible rfl
    try simp only [Act.put, List.setIfInBounds_toArray, List.set_cons_zero, List.set_cons_succ]
    refine take' (i := 23) (d := (some 56)) (v := ?_) rfl rfl (by kernel_rfl) (by kernel_rfl) (by kernel_rfl) (fun _ _ _ h => h) (Or.inl ⟨by rfl, ?_⟩) (by assumption) ?_
    rotate_left
    · intro w hSw; (try dsimp only at hSw); go_simp; try with_reducible rfl
    try simp only [Act.put, List.setIfInBounds_toArray, List.set_cons_zero, List.set_cons_succ]
    refine take' (i := 24) (d := (some 57)) (v := ?_) rfl rfl (by kernel_rfl) (by kernel_rfl) (by kernel_rfl) (fun _ _ _ h => h) (Or.inl ⟨by rfl, ?_⟩) (by assumption) ?_
    rotate_left
    · intro w hSw; (try dsimp only at hSw); go_simp; try with_reducible rfl
    try simp only [Act.put, List.setIfInBounds_toArray, List.set_cons_zero, List.set_cons_succ]
    refine wpAnyH_ready (rs := [25]) (by kernel_rfl) (by simp) ?_
    refine AllReadyH.cons (o := _) rfl (fun K hK => ?_) AllReadyH.nil
    go_simp
    with_reducible refine (AW.out _).mono ?_
    rintro e w10 ⟨rfl, hb10⟩
    go_wp2_with fail
    refine hK.out _ _ (keep4 hp hq hHeld hb10) (fun hHeld => ?_)
    clear hK K
    try simp only [Act.put, List.setIfInBounds_toArray, List.set_cons_zero, List.set_cons_succ]
    refine take' (i := 26) (d := (some 59)) (v := ?_) rfl rfl (by kernel_rfl) (by kernel_rfl) (by kernel_rfl) (fun _ _ _ h => h) (Or.inl ⟨by rfl, ?_⟩) (by assumption) ?_
    rotate_left
    · intro w hSw; (try dsimp only at hSw); go_simp; try with_reducible rfl
    try simp only [Act.put, List.setIfInBounds_toArray, List.set_cons_zero, List.set_cons_succ]
    refine take' (i := 27) (d := (some 4)) (v := ?_) rfl rfl (by kernel_rfl) (by kernel_rfl) (by kernel_rfl) (fun _ _ _ h => h) (Or.inl ⟨by rfl, ?_⟩) (by assumption) ?_
    rotate_left
    · intro w hSw; (try dsimp only at hSw); go_simp; try with_reducible rfl
    try simp only [Act.put, List.setIfInBounds_toArray, List.set_cons_zero, List.set_cons_succ]
    refine wpAnyH_done (by kernel_rfl) ?_ _
    have HF := Hid.intro (B8.out.trans (hHeld.2.mono B8.out.size))
    clear hHeld
    go_wp2_with fail
    go_ret
    exact ⟨rfl, HF.out⟩
end Go.Proofs.Yteceiinehcjdjaa
