/-
  CanonTurned's walk: with one length another one, one fewer, or one more, they may not be.
-/
import Derived.Test.YtgejcdmiihmlfaaTn
import Derived.BigRegion
import Derived.Deep.RegionHeld3
namespace Go.Proofs.Ytgejcdmiihmlfaa
open Go.ChangeShapes Go.WideShapes Go.ChangeAt Go.RowKit
open Go.ChangeMaps (open_string shut_string)

def TcRel (C : Nat → Nat) (w : World) (sv iv : Value) (wr : World) : Prop := ∃ i : Nat, i ≤ 65 ∧ iv = .int .i64 i ∧ sv = .int .i64 (C i : Nat) ∧ wr = w
theorem held_two {w8 a b : World} {B D k : Nat} {u v : Value} (hB : B < w8.heap.size) (hD : D < w8.heap.size) (h : (a.cell? ⟨B, k, none⟩ = some u ∧ a.cell? ⟨D, k, none⟩ = some v) ∧ Below w8.heap.size w8 a) (hk : Below w8.heap.size a b) :
    (b.cell? ⟨B, k, none⟩ = some u ∧ b.cell? ⟨D, k, none⟩ = some v) ∧ Below w8.heap.size w8 b :=
  ⟨⟨by rw [hk.cell (p := ⟨B, k, none⟩) hB]; exact h.1.1, by rw [hk.cell (p := ⟨D, k, none⟩) hD]; exact h.1.2⟩, h.2.trans hk⟩
theorem one_blk {W : World} {n : Nat} {u : Value} (h : Blk W n #[u] 3) : ∀ j x, [u][j]? = some x → W.cell? ((⟨n, 0, none⟩ : Addr).add j) = some x := by
  intro j x hj
  rw [Addr.add_lit, blk_cell h, ← hj]
  simp
theorem moved_from {B : Nat} {W : World} {n m c : Nat} {v' : Value} (h : Moved W (.slice (some ⟨n, 0, none⟩) m c) v') (hn : B ≤ n) (hW : B ≤ W.heap.size) : From B v' := fun k hk => (h k hk).elim (fun e => by simp [Value.ownBlock] at e; omega) (fun e => by omega)
theorem alloc_b {B : Nat} (W : World) (o : Obj) (h : B ≤ W.heap.size) : Below B W (W.alloc o) := (Below.refl _ _).alloc h _
theorem grown_b {B n m c : Nat} {W W' : World} (g : W.grownBy W' (Value.slice (some ⟨n, 0, none⟩) m c).ownBlock) (h : B ≤ W.heap.size) (hn : B ≤ n) : Below B W W' := below_grown (Below.refl _ _) g h (fun k hk => by simp [Value.ownBlock] at hk; omega)
theorem size_alloc (W : World) (o : Obj) : (W.alloc o).heap.size = W.heap.size + 1 := by simp
theorem six_ivs (L : List Nat) : ni L ++ [Value.int .i64 0] = ivs (L.map Int.ofNat ++ [0]) := by unfold ni; rw [ivs_append]; rfl
set_option maxRecDepth 100000 in
set_option maxHeartbeats 8000000 in
theorem turned_walk (a : Option Addr) (n cap : Nat) (a1 a2 : Int) (w : World) (h : RU w a n) (hn : n ≤ 9223372036854775807) (h1 : 0 ≤ a1 ∧ a1 ≤ 255) (h2 : 0 ≤ a2 ∧ a2 ≤ 255) :
    Calls Try.prog 5 #[.slice a n cap, .int .u8 a1, .int .u8 a2] w fun e w' => e = .returned (.bool true) ∧ Below w.heap.size w w' := by
  by_cases h0 : 140 < n
  · have AW0 := awake_any w
    clear h
    go_enter Try.func5, Try.ntmps5
    go_wp2_with fail
    with_reducible refine AW0.mono ?_
    rintro e w4 ⟨rfl, k5⟩
    clear AW0
    go_wp2_with fail
    go_ret
    exact ⟨rfl, k5⟩
  · have FQ := freq_any a n cap w h (by omega)
    obtain ⟨i0, hi0, hz0, hs0, hb0⟩ := info_all info3
    have fi := fld_ints
    obtain ⟨k, hk⟩ : ∃ k : Nat, a1 % 65 = (k : Int) := ⟨(a1 % 65).toNat, by omega⟩
    have hk65 : k < 65 := by omega
    obtain ⟨v, hv⟩ : ∃ v : Nat, a2 % 16 = (v : Int) := ⟨(a2 % 16).toNat, by omega⟩
    have hv15 : v ≤ 15 := by omega
    clear h
    go_enter Try.func5, Try.ntmps5
    go_wp2_with fail
    with_reducible refine FQ.mono ?_
    rintro e w1 ⟨vF, F, rfl, f1, f2, f3, f4⟩
    obtain ⟨bf, cf, rfl⟩ := own_slice f3 (by omega)
    have MB := may_of f2 12 (by omega) (by omega)
    have RL := rlengths_yes (some ⟨bf, 0, none⟩) cf F 12 w1 (own_ri2 f3) MB
    rw [show ((12 : Nat) : Int) = 12 from rfl] at RL
    have HF := Hid.intro f4
    clear FQ f1 f2 f3 f4 MB
    go_wp2_with fail
    with_reducible refine RL.mono ?_
    rintro e w6 hpost
    obtain ⟨vx, o, r, rfl, m1, m2, m3, m4⟩ := hpost
    obtain ⟨bl, cl, rfl⟩ := own_slice m3 (by omega)
    obtain ⟨pb, pk, _⟩ := put_may m1 m2 (by omega) (by omega)
    obtain ⟨L, hL⟩ : ∃ L, put o r = L := ⟨_, rfl⟩
    have hLl : L.length = 65 := by rw [← hL]; exact put_len o r
    rw [hL] at pb pk m3
    have B6 : Hid (Below w.heap.size w w6) := HF.out.trans (m4.mono HF.out.size)
    have LR := Hid.intro (own_low m3 (Nat.zero_le _))
    have hcl : 65 ≤ cl := by
      rcases m3.2 with ⟨h0, _⟩ | ⟨g', cap', cur, hv, _, _, hc, _⟩
      · cases h0
      · injection hv with _ _ e3; omega
    have hblw : bl < w6.heap.size := (m3.lt bl rfl).2
    have TN : Unit → ¬ v = at0 L k → 2 < mC (L.set k v) 65 → mayL ((L.set k v).map Int.ofNat) = false := fun _ hne hc => by
      rw [mayL_of _ (by rw [List.length_set]; exact hLl) (fun c => by
        rw [at0_set L k v c (by omega)]
        split
        · exact hv15
        · exact pb c)]
      exact turned_no hLl pb pk k v hk65 hv15 hne hc
    have ri : RI (w6.alloc (.cells #[] 3)) (some ⟨bl, 0, none⟩) 65 (L.map Int.ofNat) := ri_below (own_ri2 m3) ((Below.refl _ _).alloc (Nat.le_refl _) _)
    have e0 := own_low (own_empty w6 3 1) (Nat.zero_le _)
    have NL : Hid ((ni L).length = 65 * 1) := by show _ = _; rw [ni_len, hLl]
    have cells : Hid (∀ j u, (ni L)[j]? = some u → (w6.alloc (.cells #[] 3)).cell? ((⟨bl, 0, none⟩ : Addr).add j) = some u) := ri_cells ri _ rfl
    have HLL := Hid.intro hLl
    have hlk := pb k
    clear RL hL m1 m2 m3 m4 pb pk HF ri hLl
    go_wp2_with (at_builtin; refine wpList_push _ rfl (.tmp 26) (.tmp 27) 22 rfl 3 i0 (.int .i64 0) 1 8 Try.underlying22 hi0 hz0 hs0 hb0 rfl (by decide) (by decide) (.slice (some ⟨w6.heap.size, 0, none⟩) 0 0) 0 [] rfl e0 ⟨bl, 0, none⟩ 65 cl (ni L) rfl NL.out cells.out (ivs_one _) (by omega) ?_)
    intro v7 w7 g1 g2 g3
    have c7 : Chg (fun _ => False) w6 w7 := chg_grown (chg_alloc (chg_refl _ _) _) g2 (fun j hj hl => by simp [Value.ownBlock] at hj; omega)
    have f7 : From w6.heap.size v7 := fun j hj => (g3 j hj).elim (fun e => by simp [Value.ownBlock] at e; omega) (fun e => by simp at e; omega)
    have l7 := own_kept LR.out c7 (fun _ _ h => h)
    have b7 : Below w.heap.size w w7 := B6.out.trans (chg_below c7 B6.out.size (fun _ h => h.elim))
    obtain ⟨bm, cm, rfl⟩ := own_slice g1 (by omega)
    have hbm : w6.heap.size ≤ bm := f7 bm rfl
    obtain ⟨u, hu, fu⟩ := own_one g1 k hk65
    have o8 := own_set g1 k (.int .i64 (v : Int))
    rw [ni_set] at o8
    have c8 : Chg (· = bm) w7 (w7.setCell ⟨bm, k, none⟩ (.int .i64 (v : Int))) := chg_in (chg_refl _ _) _ _
    have l8 := own_kept l7 c8 (fun j hj e => by simp [Value.ownBlock] at hj; omega)
    have b8 : Below w.heap.size w (w7.setCell ⟨bm, k, none⟩ (.int .i64 (v : Int))) := b7.trans (chg_below c8 b7.size (fun j hj => by have := B6.out.size; omega))
    clear g1 g2 g3 c7 f7 l7 b7 c8 e0 NL cells LR B6
    go_wp2_with fail
    generalize w7.setCell ⟨bm, k, none⟩ (.int .i64 (v : Int)) = w8 at *
    clear hu fu
    have O8 := Hid.intro o8
    have L8 := Hid.intro l8
    have B8 := Hid.intro b8
    have C0 : mC (L.set k v) 0 = 0 := rfl
    have CS := mC_succ (L.set k v)
    have CB := mC_bd (L.set k v)
    obtain ⟨C, hC⟩ : ∃ C, mC (L.set k v) = C := ⟨_, rfl⟩
    rw [hC] at C0 CS CB TN
    have C0 := Hid.intro C0
    have CS := Hid.intro CS
    have CB := Hid.intro CB
    clear o8 l8 b8 hC
    obtain ⟨ws, hws⟩ : ∃ ws, ws = w8 := ⟨_, rfl⟩
    rw [← hws] at O8 L8 B8
    rw [← hws]
    clear hws
    go_loopw [10, 11] (fun sv iv wr => TcRel C ws sv iv wr) (fun _ iv _ => 65 - (intOf iv).toNat)
    case atStart => exact ⟨0, by omega, rfl, by rw [C0.out]; rfl, rfl⟩
    case round =>
      obtain ⟨i, hi, rfl, rfl, rfl⟩ := hrel
      have cb := CB.out i
      by_cases hlt : i < 65
      · have cx := ni_cell O8.out i hlt
        have C1 := Hid.intro (CS.out i)
        generalize at0 (L.set k v) i = y at *
        generalize C i = c at *
        by_cases hy : 0 < y
        · rw [if_pos hy] at C1
          go_wp2_with fail
          go_roundw
          case rel => exact ⟨i + 1, by omega, by go_num, by rw [C1.out, Int.natCast_add]; rfl, rfl⟩
          case measure => simp [intOf]; omega
        · rw [if_neg hy] at C1
          go_wp2_with fail
          go_roundw
          case rel => exact ⟨i + 1, by omega, by go_num, by rw [C1.out, Nat.add_zero], rfl⟩
          case measure => simp [intOf]; omega
      · obtain rfl : i = 65 := by omega
        obtain ⟨c5, hc5⟩ : ∃ c5, C 65 = c5 := ⟨_, rfl⟩
        rw [hc5] at cb ⊢
        have TN : Unit → ¬ v = at0 L k → 2 < c5 → mayL ((L.set k v).map Int.ofNat) = false := fun u h1 h2 => TN u h1 (by rw [hc5]; exact h2)
        clear hc5 CS CB C0
        have CO := codes_some (some ⟨bm, 0, none⟩) 65 cm _ wr (own_ri2 O8.out) (by omega)
        go_wp2_with fail
        with_reducible refine CO.mono ?_
        rintro e w9 ⟨av, nv, cv, e9, rfl, q1, q2, q3⟩
        have o9 := own_later O8.out q3
        have l9 := own_later L8.out q3
        have B9 : Hid (Below w.heap.size w w9) := B8.out.trans (q3.mono B8.out.size)
        have E9 : Unit → mayL ((L.set k v).map Int.ofNat) = false → e9 = 3 := fun _ => q1
        have cm9 : w9.cell? ⟨bm, k, none⟩ = some (.int .i64 (v : Int)) := by rw [ni_cell o9 k hk65, at0_set _ _ _ _ (by rw [HLL.out]; exact hk65), if_pos rfl]
        have cl9 := ni_cell l9 k hk65
        have hbm9 : bm < w9.heap.size := (o9.lt bm rfl).2
        have hbl9 : bl < w9.heap.size := (l9.lt bl rfl).2
        have M1 : Unit → ∀ W, Below w9.heap.size w9 W → Calls Try.prog 11 #[.slice (some ⟨bm, 0, none⟩) 65 cm] W fun e W' => e = .returned (.bool (mayL ((L.set k v).map Int.ofNat))) ∧ W' = W := fun _ W hW => may_any _ 65 cm _ W (ri_below (own_ri2 o9) hW) (by omega)
        have M2 : ∀ W, Below w9.heap.size w9 W → Calls Try.prog 11 #[.slice (some ⟨bl, 0, none⟩) 64 cl] W fun e W' => e = .returned (.bool false) ∧ W' = W := fun W hW => by
          have c := may_any (some ⟨bl, 0, none⟩) 64 cl _ W (ri_take (ri_below (own_ri2 l9) hW) 64 (by omega)) (by omega)
          rw [may_no65 (by rw [List.length_take]; omega)] at c
          exact c
        have M2 := Hid.intro M2
        have M3 : ∀ (W : World) (b c : Nat) (xs : List Int), W.ownsRow 0 3 1 (.slice (some ⟨b, 0, none⟩) 66 c) 66 (ivs xs) → Calls Try.prog 11 #[.slice (some ⟨b, 0, none⟩) 66 c] W fun e W' => e = .returned (.bool false) ∧ W' = W := fun W b c xs hW => by
          have r := own_ri2 hW
          have c := may_any (some ⟨b, 0, none⟩) 66 c xs W r (by omega)
          rw [may_no65 (by rw [r.1]; omega)] at c
          exact c
        have M3 := Hid.intro M3
        have LC : Hid (∀ W, Below w9.heap.size w9 W → ∀ j u, (ni L)[j]? = some u → W.cell? ((⟨bl, 0, none⟩ : Addr).add j) = some u) := fun W hW => ri_cells (ri_below (own_ri2 l9) hW) _ rfl
        have NL : Hid ((ni L).length = 65 * 1) := by show _ = _; rw [ni_len, HLL.out]
        have AW := Hid.intro awake_any
        have ER := Hid.intro err_any
        have hcl2 : (64 : Int) ≤ (cl : Int) := by omega
        have hkI : (k : Int) < 65 := by omega
        have hk0 : (0 : Int) ≤ (k : Int) := by omega
        clear CO o9 l9 q1 q3 O8 L8 B8
        obtain ⟨y, hy⟩ : ∃ y, at0 L k = y := ⟨_, rfl⟩
        rw [hy] at cl9 TN hlk
        clear hy
        by_cases hA : v = y
        · subst hA
          have t1 : ((v : Int) == (v : Int)) = true := by simp
          go_wp2_with fail
          refine wp_region_held_drew (S := fun W => (W.cell? ⟨bm, k, none⟩ = some (.int .i64 (v : Int)) ∧ W.cell? ⟨bl, k, none⟩ = some (.int .i64 (v : Int))) ∧ Below w9.heap.size w9 W) (by kernel_rfl) ⟨⟨cm9, cl9⟩, (Below.refl _ _).drew⟩ (fun hHeld => ?_)
          refine take' (i := 0) (d := some 56) (v := ?_) rfl rfl (by kernel_rfl) (by kernel_rfl) (by kernel_rfl) (fun _ _ _ h => h) (Or.inl ⟨by rfl, ?_⟩) (by assumption) ?_
          rotate_left
          · intro w hSw; (try dsimp only at hSw); go_simp; try with_reducible rfl
          try simp only [Act.put, List.setIfInBounds_toArray, List.set_cons_zero, List.set_cons_succ]
          refine take' (i := 1) (d := some 57) (v := ?_) rfl rfl (by kernel_rfl) (by kernel_rfl) (by kernel_rfl) (fun _ _ _ h => h) (Or.inl ⟨by rfl, ?_⟩) (by assumption) ?_
          rotate_left
          · intro w hSw; (try dsimp only at hSw); go_simp; try with_reducible rfl
          try simp only [Act.put, List.setIfInBounds_toArray, List.set_cons_zero, List.set_cons_succ]
          refine take' (i := 2) (d := some 58) (v := ?_) rfl rfl (by kernel_rfl) (by kernel_rfl) (by kernel_rfl) (fun _ _ _ h => h) (Or.inl ⟨by rfl, ?_⟩) (by assumption) ?_
          rotate_left
          · intro w hSw; (try dsimp only at hSw); go_simp; try with_reducible rfl
          try simp only [Act.put, List.setIfInBounds_toArray, List.set_cons_zero, List.set_cons_succ]
          refine take' (i := 3) (d := some 59) (v := ?_) rfl rfl (by kernel_rfl) (by kernel_rfl) (by kernel_rfl) (fun _ _ _ h => h) (Or.inl ⟨by rfl, ?_⟩) (by assumption) ?_
          rotate_left
          · intro w hSw; (try dsimp only at hSw); go_simp; try with_reducible rfl
          try simp only [Act.put, List.setIfInBounds_toArray, List.set_cons_zero, List.set_cons_succ]
          refine take' (i := 4) (d := some 60) (v := ?_) rfl rfl (by kernel_rfl) (by kernel_rfl) (by kernel_rfl) (fun _ _ _ h => h) (Or.inl ⟨by rfl, ?_⟩) (by assumption) ?_
          rotate_left
          · intro w hSw; (try dsimp only at hSw); go_simp; try with_reducible rfl
          try simp only [Act.put, List.setIfInBounds_toArray, List.set_cons_zero, List.set_cons_succ]
          refine take' (i := 5) (d := some 61) (v := ?_) rfl rfl (by kernel_rfl) (by kernel_rfl) (by kernel_rfl) (fun _ _ _ h => h) (Or.inl ⟨by rfl, ?_⟩) (by assumption) ?_
          rotate_left
          · intro w hSw; (try dsimp only at hSw); go_simp; try with_reducible rfl
          try simp only [Act.put, List.setIfInBounds_toArray, List.set_cons_zero, List.set_cons_succ]
          refine take' (i := 6) (d := some 62) (v := ?_) rfl rfl (by kernel_rfl) (by kernel_rfl) (by kernel_rfl) (fun _ _ _ h => h) (Or.inl ⟨by rfl, ?_⟩) (by assumption) ?_
          rotate_left
          · intro w hSw; (try dsimp only at hSw); go_simp; try with_reducible rfl
          try simp only [Act.put, List.setIfInBounds_toArray, List.set_cons_zero, List.set_cons_succ]
          refine take' (i := 7) (d := some 63) (v := ?_) rfl rfl (by kernel_rfl) (by kernel_rfl) (by kernel_rfl) (fun _ _ _ h => h) (Or.inl ⟨by rfl, ?_⟩) (by assumption) ?_
          rotate_left
          · intro w hSw; (try dsimp only at hSw); go_simp; try with_reducible rfl
          try simp only [Act.put, List.setIfInBounds_toArray, List.set_cons_zero, List.set_cons_succ]
          refine take' (i := 8) (d := some 64) (v := ?_) rfl rfl (by kernel_rfl) (by kernel_rfl) (by kernel_rfl) (fun _ _ _ h => h) (Or.inl ⟨by rfl, ?_⟩) (by assumption) ?_
          rotate_left
          · intro w hSw; (try dsimp only at hSw); go_simp; try with_reducible rfl
          try simp only [Act.put, List.setIfInBounds_toArray, List.set_cons_zero, List.set_cons_succ]
          refine take' (i := 9) (d := some 65) (v := ?_) rfl rfl (by kernel_rfl) (by kernel_rfl) (by kernel_rfl) (fun _ _ _ h => h) (Or.inl ⟨by rfl, ?_⟩) (by assumption) ?_
          rotate_left
          · intro w hSw; (try dsimp only at hSw); go_simp; try with_reducible rfl
          try simp only [Act.put, List.setIfInBounds_toArray, List.set_cons_zero, List.set_cons_succ]
          refine take' (i := 10) (d := some 66) (v := undef) rfl rfl (by kernel_rfl) (by kernel_rfl) (by kernel_rfl) (fun _ _ _ h => h) (Or.inr ⟨by rfl, rfl⟩) (by assumption) ?_
          try simp only [Act.put, List.setIfInBounds_toArray, List.set_cons_zero, List.set_cons_succ]
          refine take' (i := 11) (d := some 67) (v := ?_) rfl rfl (by kernel_rfl) (by kernel_rfl) (by kernel_rfl) (fun _ _ _ h => h) (Or.inl ⟨by rfl, ?_⟩) (by assumption) ?_
          rotate_left
          · intro w hSw; (try dsimp only at hSw); go_simp; try with_reducible rfl
          try simp only [Act.put, List.setIfInBounds_toArray, List.set_cons_zero, List.set_cons_succ]
          refine take' (i := 12) (d := some 68) (v := ?_) rfl rfl (by kernel_rfl) (by kernel_rfl) (by kernel_rfl) (fun _ _ _ h => h) (Or.inl ⟨by rfl, ?_⟩) (by assumption) ?_
          rotate_left
          · intro w hSw; (try dsimp only at hSw); go_simp; try with_reducible rfl
          try simp only [Act.put, List.setIfInBounds_toArray, List.set_cons_zero, List.set_cons_succ]
          refine take' (i := 13) (d := some 69) (v := undef) rfl rfl (by kernel_rfl) (by kernel_rfl) (by kernel_rfl) (fun _ _ _ h => h) (Or.inr ⟨by rfl, rfl⟩) (by assumption) ?_
          try simp only [Act.put, List.setIfInBounds_toArray, List.set_cons_zero, List.set_cons_succ]
          refine take' (i := 14) (d := some 70) (v := undef) rfl rfl (by kernel_rfl) (by kernel_rfl) (by kernel_rfl) (fun _ _ _ h => h) (Or.inr ⟨by rfl, rfl⟩) (by assumption) ?_
          try simp only [Act.put, List.setIfInBounds_toArray, List.set_cons_zero, List.set_cons_succ]
          refine take' (i := 15) (d := some 71) (v := undef) rfl rfl (by kernel_rfl) (by kernel_rfl) (by kernel_rfl) (fun _ _ _ h => h) (Or.inr ⟨by rfl, rfl⟩) (by assumption) ?_
          try simp only [Act.put, List.setIfInBounds_toArray, List.set_cons_zero, List.set_cons_succ]
          refine take' (i := 16) (d := some 72) (v := undef) rfl rfl (by kernel_rfl) (by kernel_rfl) (by kernel_rfl) (fun _ _ _ h => h) (Or.inr ⟨by rfl, rfl⟩) (by assumption) ?_
          try simp only [Act.put, List.setIfInBounds_toArray, List.set_cons_zero, List.set_cons_succ]
          refine take' (i := 17) (d := some 73) (v := undef) rfl rfl (by kernel_rfl) (by kernel_rfl) (by kernel_rfl) (fun _ _ _ h => h) (Or.inr ⟨by rfl, rfl⟩) (by assumption) ?_
          try simp only [Act.put, List.setIfInBounds_toArray, List.set_cons_zero, List.set_cons_succ]
          refine take' (i := 18) (d := some 74) (v := undef) rfl rfl (by kernel_rfl) (by kernel_rfl) (by kernel_rfl) (fun _ _ _ h => h) (Or.inr ⟨by rfl, rfl⟩) (by assumption) ?_
          try simp only [Act.put, List.setIfInBounds_toArray, List.set_cons_zero, List.set_cons_succ]
          refine take' (i := 19) (d := some 75) (v := undef) rfl rfl (by kernel_rfl) (by kernel_rfl) (by kernel_rfl) (fun _ _ _ h => h) (Or.inr ⟨by rfl, rfl⟩) (by assumption) ?_
          try simp only [Act.put, List.setIfInBounds_toArray, List.set_cons_zero, List.set_cons_succ]
          refine take' (i := 20) (d := some 76) (v := undef) rfl rfl (by kernel_rfl) (by kernel_rfl) (by kernel_rfl) (fun _ _ _ h => h) (Or.inr ⟨by rfl, rfl⟩) (by assumption) ?_
          try simp only [Act.put, List.setIfInBounds_toArray, List.set_cons_zero, List.set_cons_succ]
          refine take' (i := 21) (d := some 77) (v := ?_) rfl rfl (by kernel_rfl) (by kernel_rfl) (by kernel_rfl) (fun _ _ _ h => h) (Or.inl ⟨by rfl, ?_⟩) (by assumption) ?_
          rotate_left
          · intro w hSw; (try dsimp only at hSw); go_simp; try with_reducible rfl
          try simp only [Act.put, List.setIfInBounds_toArray, List.set_cons_zero, List.set_cons_succ]
          refine take' (i := 22) (d := some 78) (v := ?_) rfl rfl (by kernel_rfl) (by kernel_rfl) (by kernel_rfl) (fun _ _ _ h => h) (Or.inl ⟨by rfl, ?_⟩) (by assumption) ?_
          rotate_left
          · intro w hSw; (try dsimp only at hSw); go_simp; try with_reducible rfl
          try simp only [Act.put, List.setIfInBounds_toArray, List.set_cons_zero, List.set_cons_succ]
          refine take' (i := 23) (d := some 79) (v := ?_) rfl rfl (by kernel_rfl) (by kernel_rfl) (by kernel_rfl) (fun _ _ _ h => h) (Or.inl ⟨by rfl, ?_⟩) (by assumption) ?_
          rotate_left
          · intro w hSw; (try dsimp only at hSw); go_simp; try with_reducible rfl
          try simp only [Act.put, List.setIfInBounds_toArray, List.set_cons_zero, List.set_cons_succ]
          refine take' (i := 24) (d := some 80) (v := ?_) rfl rfl (by kernel_rfl) (by kernel_rfl) (by kernel_rfl) (fun _ _ _ h => h) (Or.inl ⟨by rfl, ?_⟩) (by assumption) ?_
          rotate_left
          · intro w hSw; (try dsimp only at hSw); go_simp; try with_reducible rfl
          try simp only [Act.put, List.setIfInBounds_toArray, List.set_cons_zero, List.set_cons_succ]
          refine wpAnyH_ready (rs := [25]) (by kernel_rfl) (by simp) ?_
          refine AllReadyH.cons (o := _) rfl (fun K hK => ?_) AllReadyH.nil
          go_simp
          refine (M2.out _ hHeld.2).mono ?_
          rintro e w12 ⟨rfl, hw12⟩
          cases hw12
          go_wp2_with fail
          refine hK.out _ _ (by assumption) (fun hHeld => ?_)
          clear hK K
          try simp only [Act.put, List.setIfInBounds_toArray, List.set_cons_zero, List.set_cons_succ]
          refine take' (i := 26) (d := some 82) (v := ?_) rfl rfl (by kernel_rfl) (by kernel_rfl) (by kernel_rfl) (fun _ _ _ h => h) (Or.inl ⟨by rfl, ?_⟩) (by assumption) ?_
          rotate_left
          · intro w hSw; (try dsimp only at hSw); go_simp; try with_reducible rfl
          try simp only [Act.put, List.setIfInBounds_toArray, List.set_cons_zero, List.set_cons_succ]
          refine take' (i := 27) (d := some 83) (v := ?_) rfl rfl (by kernel_rfl) (by kernel_rfl) (by kernel_rfl) (fun _ _ _ h => h) (Or.inl ⟨by rfl, ?_⟩) (by assumption) ?_
          rotate_left
          · intro w hSw; (try dsimp only at hSw); go_simp; try with_reducible rfl
          try simp only [Act.put, List.setIfInBounds_toArray, List.set_cons_zero, List.set_cons_succ]
          refine take' (i := 28) (d := some 84) (v := ?_) rfl rfl (by kernel_rfl) (by kernel_rfl) (by kernel_rfl) (fun _ _ _ h => h) (Or.inl ⟨by rfl, ?_⟩) (by assumption) ?_
          rotate_left
          · intro w hSw; (try dsimp only at hSw); go_simp; try with_reducible rfl
          try simp only [Act.put, List.setIfInBounds_toArray, List.set_cons_zero, List.set_cons_succ]
          refine take' (i := 30) (d := some 86) (v := ?_) rfl rfl (by kernel_rfl) (by kernel_rfl) (by kernel_rfl) (fun _ _ _ h => h) (Or.inl ⟨by rfl, ?_⟩) (by assumption) ?_
          rotate_left
          · intro w hSw; (try dsimp only at hSw); go_simp; try with_reducible rfl
          try simp only [Act.put, List.setIfInBounds_toArray, List.set_cons_zero, List.set_cons_succ]
          generalize w9.drew = x0 at *
          have z0 := hHeld.2.size
          refine wpAnyH_ready (rs := [29, 32]) (by kernel_rfl) (by simp) ?_
          refine AllReadyH.cons (o := _) rfl (fun K hK => ?_) ?_
          · go_simp
            refine hK.out _ _ (held_two hbm9 hbl9 hHeld (alloc_b _ _ z0)) (fun hHeld => ?_)
            clear hK K
            try simp only [Act.put, List.setIfInBounds_toArray, List.set_cons_zero, List.set_cons_succ]
            have e1 := own_low (own_empty x0 3 1) (Nat.zero_le _)
            have z1 := Hid.intro (size_alloc x0 (.cells #[] 3))
            obtain ⟨x1, hx1⟩ : ∃ x1, x0.alloc (.cells #[] 3) = x1 := ⟨_, rfl⟩
            rw [hx1] at e1 z1 hHeld ⊢
            clear hx1
            refine wpAnyH_ready (rs := [31, 32]) (by kernel_rfl) (by simp) ?_
            refine AllReadyH.cons (o := _) rfl (fun K hK => ?_) ?_
            · refine step_pushG (by rfl) (.tmp 85) (.tmp 86) 22 rfl 3 i0 (.int .i64 0) 1 8 Try.underlying22 hi0 hz0 hs0 hb0 rfl (by decide) (by decide) (.slice (some ⟨x0.heap.size, 0, none⟩) 0 0) 0 [] rfl e1 ⟨bl, 0, none⟩ 65 cl (ni L) rfl NL.out (LC.out _ hHeld.2) (ivs_one _) (by omega) ?_
              intro v2 x2 g1 g2 g3
              have f2 := moved_from (B := w9.heap.size) g3 z0 (by have := z1.out; omega)
              have bl2 := grown_b (B := w9.heap.size) g2 (by have := z1.out; omega) z0
              rw [Nat.zero_add, List.nil_append] at g1
              obtain ⟨b2, c2, rfl⟩ := own_slice g1 (by omega)
              have hb2 : w9.heap.size ≤ b2 := f2 b2 rfl
              refine hK.out _ _ (held_two hbm9 hbl9 hHeld bl2) (fun hHeld => ?_)
              clear hK K g2 g3 f2
              try simp only [Act.put, List.setIfInBounds_toArray]
              have z2 := hHeld.2.size
              refine wpAnyH_ready (rs := [32]) (by kernel_rfl) (by simp) ?_
              refine AllReadyH.cons (o := _) rfl (fun K hK => ?_) AllReadyH.nil
              go_simp
              refine hK.out _ _ (held_two hbm9 hbl9 hHeld (alloc_b _ _ z2)) (fun hHeld => ?_)
              clear hK K
              try simp only [Act.put, List.setIfInBounds_toArray, List.set_cons_zero, List.set_cons_succ]
              have o3 := World.ownsRow.alloc g1 (.cells #[.int .i64 0] 3)
              have bk3 := blk_new x2 #[.int .i64 0] 3
              obtain ⟨x3, hx3⟩ : ∃ x3, x2.alloc (.cells #[.int .i64 0] 3) = x3 := ⟨_, rfl⟩
              rw [hx3] at o3 bk3 hHeld ⊢
              clear hx3 g1
              refine wpAnyH_ready (rs := [33]) (by kernel_rfl) (by simp) ?_
              refine AllReadyH.cons (o := _) rfl (fun K hK => ?_) AllReadyH.nil
              refine step_pushG (by rfl) (.tmp 87) (.tmp 88) 22 rfl 3 i0 (.int .i64 0) 1 8 Try.underlying22 hi0 hz0 hs0 hb0 rfl (by decide) (by decide) (.slice (some ⟨b2, 0, none⟩) 65 c2) 65 (ni L) rfl o3 ⟨x2.heap.size, 0, none⟩ 1 1 [.int .i64 0] rfl rfl (one_blk bk3) (by intro u hu; simp at hu; subst hu; rfl) (by omega) ?_
              intro v4 x4 g1 g2 g3
              have bl4 := grown_b (B := w9.heap.size) g2 hHeld.2.size hb2
              rw [six_ivs] at g1
              obtain ⟨b4, c4, rfl⟩ := own_slice g1 (by omega)
              refine hK.out _ _ (held_two hbm9 hbl9 hHeld bl4) (fun hHeld => ?_)
              clear hK K g2 g3
              try simp only [Act.put, List.setIfInBounds_toArray]
              refine wpAnyH_ready (rs := [34]) (by kernel_rfl) (by simp) ?_
              refine AllReadyH.cons (o := _) rfl (fun K hK => ?_) AllReadyH.nil
              go_simp
              refine (M3.out _ b4 c4 _ g1).mono ?_
              rintro e x5 ⟨rfl, hx5⟩
              cases hx5
              go_wp2_with fail
              refine hK.out _ _ (by assumption) (fun hHeld => ?_)
              clear hK K
              try simp only [Act.put, List.setIfInBounds_toArray, List.set_cons_zero, List.set_cons_succ]
              refine take' (i := 35) (d := some 91) (v := ?_) rfl rfl (by kernel_rfl) (by kernel_rfl) (by kernel_rfl) (fun _ _ _ h => h) (Or.inl ⟨by rfl, ?_⟩) (by assumption) ?_
              rotate_left
              · intro w hSw; (try dsimp only at hSw); go_simp; try with_reducible rfl
              try simp only [Act.put, List.setIfInBounds_toArray, List.set_cons_zero, List.set_cons_succ]
              refine take' (i := 36) (d := some 92) (v := ?_) rfl rfl (by kernel_rfl) (by kernel_rfl) (by kernel_rfl) (fun _ _ _ h => h) (Or.inl ⟨by rfl, ?_⟩) (by assumption) ?_
              rotate_left
              · intro w hSw; (try dsimp only at hSw); go_simp; try with_reducible rfl
              try simp only [Act.put, List.setIfInBounds_toArray, List.set_cons_zero, List.set_cons_succ]
              refine take' (i := 37) (d := some 93) (v := ?_) rfl rfl (by kernel_rfl) (by kernel_rfl) (by kernel_rfl) (fun _ _ _ h => h) (Or.inl ⟨by rfl, ?_⟩) (by assumption) ?_
              rotate_left
              · intro w hSw; (try dsimp only at hSw); go_simp; try with_reducible rfl
              try simp only [Act.put, List.setIfInBounds_toArray, List.set_cons_zero, List.set_cons_succ]
              refine wpAnyH_ready (rs := [38]) (by kernel_rfl) (by simp) ?_
              refine AllReadyH.cons (o := _) rfl (fun K hK => ?_) AllReadyH.nil
              go_simp
              refine (AW.out _).mono ?_
              rintro e x6 ⟨rfl, ba⟩
              go_wp2_with fail
              refine hK.out _ _ (held_two hbm9 hbl9 hHeld (ba.mono hHeld.2.size)) (fun hHeld => ?_)
              clear hK K
              try simp only [Act.put, List.setIfInBounds_toArray, List.set_cons_zero, List.set_cons_succ]
              refine take' (i := 39) (d := some 95) (v := ?_) rfl rfl (by kernel_rfl) (by kernel_rfl) (by kernel_rfl) (fun _ _ _ h => h) (Or.inl ⟨by rfl, ?_⟩) (by assumption) ?_
              rotate_left
              · intro w hSw; (try dsimp only at hSw); go_simp; try with_reducible rfl
              try simp only [Act.put, List.setIfInBounds_toArray, List.set_cons_zero, List.set_cons_succ]
              refine take' (i := 40) (d := some 6) (v := ?_) rfl rfl (by kernel_rfl) (by kernel_rfl) (by kernel_rfl) (fun _ _ _ h => h) (Or.inl ⟨by rfl, ?_⟩) (by assumption) ?_
              rotate_left
              · intro w hSw; (try dsimp only at hSw); go_simp; try with_reducible rfl
              try simp only [Act.put, List.setIfInBounds_toArray, List.set_cons_zero, List.set_cons_succ]
              refine wpAnyH_done (by kernel_rfl) ?_ _
              have B10 := Hid.intro (B9.out.trans (hHeld.2.mono B9.out.size))
              clear hHeld
              go_wp2_with fail
              go_ret
              exact ⟨rfl, B10.out⟩
            refine AllReadyH.cons (o := _) rfl (fun K hK => ?_) AllReadyH.nil
            go_simp
            refine hK.out _ _ (held_two hbm9 hbl9 hHeld (alloc_b _ _ (by have := z1.out; omega))) (fun hHeld => ?_)
            clear hK K
            try simp only [Act.put, List.setIfInBounds_toArray, List.set_cons_zero, List.set_cons_succ]
            have e2 := World.ownsRow.alloc e1 (.cells #[.int .i64 0] 3)
            have bk2 := blk_new x1 #[.int .i64 0] 3
            have z2 := Hid.intro (size_alloc x1 (.cells #[.int .i64 0] 3))
            obtain ⟨x2, hx2⟩ : ∃ x2, x1.alloc (.cells #[.int .i64 0] 3) = x2 := ⟨_, rfl⟩
            rw [hx2] at e2 bk2 z2 hHeld ⊢
            clear hx2 e1
            refine wpAnyH_ready (rs := [31]) (by kernel_rfl) (by simp) ?_
            refine AllReadyH.cons (o := _) rfl (fun K hK => ?_) AllReadyH.nil
            refine step_pushG (by rfl) (.tmp 85) (.tmp 86) 22 rfl 3 i0 (.int .i64 0) 1 8 Try.underlying22 hi0 hz0 hs0 hb0 rfl (by decide) (by decide) (.slice (some ⟨x0.heap.size, 0, none⟩) 0 0) 0 [] rfl e2 ⟨bl, 0, none⟩ 65 cl (ni L) rfl NL.out (LC.out _ hHeld.2) (ivs_one _) (by omega) ?_
            intro v3 x3 g1 g2 g3
            have f3 := moved_from (B := w9.heap.size) g3 (by have := z1.out; omega) (by have := z1.out; have := z2.out; omega)
            have bl3 := grown_b (B := w9.heap.size) g2 (by have := z1.out; have := z2.out; omega) (by have := z1.out; omega)
            have bk3 := blk_grown bk2 g2 (by have := z1.out; simp [Value.ownBlock]; omega)
            rw [Nat.zero_add, List.nil_append] at g1
            obtain ⟨b2, c2, rfl⟩ := own_slice g1 (by omega)
            have hb2 : w9.heap.size ≤ b2 := f3 b2 rfl
            refine hK.out _ _ (held_two hbm9 hbl9 hHeld bl3) (fun hHeld => ?_)
            clear hK K g2 g3 f3
            try simp only [Act.put, List.setIfInBounds_toArray]
            have o3 := g1
            refine wpAnyH_ready (rs := [33]) (by kernel_rfl) (by simp) ?_
            refine AllReadyH.cons (o := _) rfl (fun K hK => ?_) AllReadyH.nil
            refine step_pushG (by rfl) (.tmp 87) (.tmp 88) 22 rfl 3 i0 (.int .i64 0) 1 8 Try.underlying22 hi0 hz0 hs0 hb0 rfl (by decide) (by decide) (.slice (some ⟨b2, 0, none⟩) 65 c2) 65 (ni L) rfl o3 ⟨x1.heap.size, 0, none⟩ 1 1 [.int .i64 0] rfl rfl (one_blk bk3) (by intro u hu; simp at hu; subst hu; rfl) (by omega) ?_
            intro v4 x4 g1 g2 g3
            have bl4 := grown_b (B := w9.heap.size) g2 hHeld.2.size hb2
            rw [six_ivs] at g1
            obtain ⟨b4, c4, rfl⟩ := own_slice g1 (by omega)
            refine hK.out _ _ (held_two hbm9 hbl9 hHeld bl4) (fun hHeld => ?_)
            clear hK K g2 g3
            try simp only [Act.put]
            refine wpAnyH_ready (rs := [34]) (by kernel_rfl) (by simp) ?_
            refine AllReadyH.cons (o := _) rfl (fun K hK => ?_) AllReadyH.nil
            go_simp
            refine (M3.out _ b4 c4 _ g1).mono ?_
            rintro e x5 ⟨rfl, hx5⟩
            cases hx5
            go_wp2_with fail
            refine hK.out _ _ (by assumption) (fun hHeld => ?_)
            clear hK K
            try simp only [Act.put, List.setIfInBounds_toArray, List.set_cons_zero, List.set_cons_succ]
            refine take' (i := 35) (d := some 91) (v := ?_) rfl rfl (by kernel_rfl) (by kernel_rfl) (by kernel_rfl) (fun _ _ _ h => h) (Or.inl ⟨by rfl, ?_⟩) (by assumption) ?_
            rotate_left
            · intro w hSw; (try dsimp only at hSw); go_simp; try with_reducible rfl
            try simp only [Act.put, List.setIfInBounds_toArray, List.set_cons_zero, List.set_cons_succ]
            refine take' (i := 36) (d := some 92) (v := ?_) rfl rfl (by kernel_rfl) (by kernel_rfl) (by kernel_rfl) (fun _ _ _ h => h) (Or.inl ⟨by rfl, ?_⟩) (by assumption) ?_
            rotate_left
            · intro w hSw; (try dsimp only at hSw); go_simp; try with_reducible rfl
            try simp only [Act.put, List.setIfInBounds_toArray, List.set_cons_zero, List.set_cons_succ]
            refine take' (i := 37) (d := some 93) (v := ?_) rfl rfl (by kernel_rfl) (by kernel_rfl) (by kernel_rfl) (fun _ _ _ h => h) (Or.inl ⟨by rfl, ?_⟩) (by assumption) ?_
            rotate_left
            · intro w hSw; (try dsimp only at hSw); go_simp; try with_reducible rfl
            try simp only [Act.put, List.setIfInBounds_toArray, List.set_cons_zero, List.set_cons_succ]
            refine wpAnyH_ready (rs := [38]) (by kernel_rfl) (by simp) ?_
            refine AllReadyH.cons (o := _) rfl (fun K hK => ?_) AllReadyH.nil
            go_simp
            refine (AW.out _).mono ?_
            rintro e x6 ⟨rfl, ba⟩
            go_wp2_with fail
            refine hK.out _ _ (held_two hbm9 hbl9 hHeld (ba.mono hHeld.2.size)) (fun hHeld => ?_)
            clear hK K
            try simp only [Act.put, List.setIfInBounds_toArray, List.set_cons_zero, List.set_cons_succ]
            refine take' (i := 39) (d := some 95) (v := ?_) rfl rfl (by kernel_rfl) (by kernel_rfl) (by kernel_rfl) (fun _ _ _ h => h) (Or.inl ⟨by rfl, ?_⟩) (by assumption) ?_
            rotate_left
            · intro w hSw; (try dsimp only at hSw); go_simp; try with_reducible rfl
            try simp only [Act.put, List.setIfInBounds_toArray, List.set_cons_zero, List.set_cons_succ]
            refine take' (i := 40) (d := some 6) (v := ?_) rfl rfl (by kernel_rfl) (by kernel_rfl) (by kernel_rfl) (fun _ _ _ h => h) (Or.inl ⟨by rfl, ?_⟩) (by assumption) ?_
            rotate_left
            · intro w hSw; (try dsimp only at hSw); go_simp; try with_reducible rfl
            try simp only [Act.put, List.setIfInBounds_toArray, List.set_cons_zero, List.set_cons_succ]
            refine wpAnyH_done (by kernel_rfl) ?_ _
            have B10 := Hid.intro (B9.out.trans (hHeld.2.mono B9.out.size))
            clear hHeld
            go_wp2_with fail
            go_ret
            exact ⟨rfl, B10.out⟩
          refine AllReadyH.cons (o := _) rfl (fun K hK => ?_) AllReadyH.nil
          go_simp
          refine hK.out _ _ (held_two hbm9 hbl9 hHeld (alloc_b _ _ z0)) (fun hHeld => ?_)
          clear hK K
          try simp only [Act.put, List.setIfInBounds_toArray, List.set_cons_zero, List.set_cons_succ]
          have bk1 := blk_new x0 #[.int .i64 0] 3
          have z1 := Hid.intro (size_alloc x0 (.cells #[.int .i64 0] 3))
          obtain ⟨x1, hx1⟩ : ∃ x1, x0.alloc (.cells #[.int .i64 0] 3) = x1 := ⟨_, rfl⟩
          rw [hx1] at bk1 z1 hHeld ⊢
          clear hx1
          refine wpAnyH_ready (rs := [29]) (by kernel_rfl) (by simp) ?_
          refine AllReadyH.cons (o := _) rfl (fun K hK => ?_) AllReadyH.nil
          go_simp
          refine hK.out _ _ (held_two hbm9 hbl9 hHeld (alloc_b _ _ (by have := z1.out; omega))) (fun hHeld => ?_)
          clear hK K
          try simp only [Act.put, List.setIfInBounds_toArray, List.set_cons_zero, List.set_cons_succ]
          have e2 := own_low (own_empty x1 3 1) (Nat.zero_le _)
          have bk2 := blk_alloc bk1 (.cells #[] 3)
          have z2 := Hid.intro (size_alloc x1 (.cells #[] 3))
          obtain ⟨x2, hx2⟩ : ∃ x2, x1.alloc (.cells #[] 3) = x2 := ⟨_, rfl⟩
          rw [hx2] at e2 bk2 z2 hHeld ⊢
          clear hx2 bk1
          refine wpAnyH_ready (rs := [31]) (by kernel_rfl) (by simp) ?_
          refine AllReadyH.cons (o := _) rfl (fun K hK => ?_) AllReadyH.nil
          refine step_pushG (by rfl) (.tmp 85) (.tmp 86) 22 rfl 3 i0 (.int .i64 0) 1 8 Try.underlying22 hi0 hz0 hs0 hb0 rfl (by decide) (by decide) (.slice (some ⟨x1.heap.size, 0, none⟩) 0 0) 0 [] rfl e2 ⟨bl, 0, none⟩ 65 cl (ni L) rfl NL.out (LC.out _ hHeld.2) (ivs_one _) (by omega) ?_
          intro v3 x3 g1 g2 g3
          have f3 := moved_from (B := w9.heap.size) g3 (by have := z1.out; omega) (by have := z1.out; have := z2.out; omega)
          have bl3 := grown_b (B := w9.heap.size) g2 (by have := z1.out; have := z2.out; omega) (by have := z1.out; omega)
          have bk3 := blk_grown bk2 g2 (by have := z1.out; simp [Value.ownBlock]; omega)
          rw [Nat.zero_add, List.nil_append] at g1
          obtain ⟨b2, c2, rfl⟩ := own_slice g1 (by omega)
          have hb2 : w9.heap.size ≤ b2 := f3 b2 rfl
          refine hK.out _ _ (held_two hbm9 hbl9 hHeld bl3) (fun hHeld => ?_)
          clear hK K g2 g3 f3
          try simp only [Act.put, List.setIfInBounds_toArray]
          have o3 := g1
          refine wpAnyH_ready (rs := [33]) (by kernel_rfl) (by simp) ?_
          refine AllReadyH.cons (o := _) rfl (fun K hK => ?_) AllReadyH.nil
          refine step_pushG (by rfl) (.tmp 87) (.tmp 88) 22 rfl 3 i0 (.int .i64 0) 1 8 Try.underlying22 hi0 hz0 hs0 hb0 rfl (by decide) (by decide) (.slice (some ⟨b2, 0, none⟩) 65 c2) 65 (ni L) rfl o3 ⟨x0.heap.size, 0, none⟩ 1 1 [.int .i64 0] rfl rfl (one_blk bk3) (by intro u hu; simp at hu; subst hu; rfl) (by omega) ?_
          intro v4 x4 g1 g2 g3
          have bl4 := grown_b (B := w9.heap.size) g2 hHeld.2.size hb2
          rw [six_ivs] at g1
          obtain ⟨b4, c4, rfl⟩ := own_slice g1 (by omega)
          refine hK.out _ _ (held_two hbm9 hbl9 hHeld bl4) (fun hHeld => ?_)
          clear hK K g2 g3
          try simp only [Act.put]
          refine wpAnyH_ready (rs := [34]) (by kernel_rfl) (by simp) ?_
          refine AllReadyH.cons (o := _) rfl (fun K hK => ?_) AllReadyH.nil
          go_simp
          refine (M3.out _ b4 c4 _ g1).mono ?_
          rintro e x5 ⟨rfl, hx5⟩
          cases hx5
          go_wp2_with fail
          refine hK.out _ _ (by assumption) (fun hHeld => ?_)
          clear hK K
          try simp only [Act.put, List.setIfInBounds_toArray, List.set_cons_zero, List.set_cons_succ]
          refine take' (i := 35) (d := some 91) (v := ?_) rfl rfl (by kernel_rfl) (by kernel_rfl) (by kernel_rfl) (fun _ _ _ h => h) (Or.inl ⟨by rfl, ?_⟩) (by assumption) ?_
          rotate_left
          · intro w hSw; (try dsimp only at hSw); go_simp; try with_reducible rfl
          try simp only [Act.put, List.setIfInBounds_toArray, List.set_cons_zero, List.set_cons_succ]
          refine take' (i := 36) (d := some 92) (v := ?_) rfl rfl (by kernel_rfl) (by kernel_rfl) (by kernel_rfl) (fun _ _ _ h => h) (Or.inl ⟨by rfl, ?_⟩) (by assumption) ?_
          rotate_left
          · intro w hSw; (try dsimp only at hSw); go_simp; try with_reducible rfl
          try simp only [Act.put, List.setIfInBounds_toArray, List.set_cons_zero, List.set_cons_succ]
          refine take' (i := 37) (d := some 93) (v := ?_) rfl rfl (by kernel_rfl) (by kernel_rfl) (by kernel_rfl) (fun _ _ _ h => h) (Or.inl ⟨by rfl, ?_⟩) (by assumption) ?_
          rotate_left
          · intro w hSw; (try dsimp only at hSw); go_simp; try with_reducible rfl
          try simp only [Act.put, List.setIfInBounds_toArray, List.set_cons_zero, List.set_cons_succ]
          refine wpAnyH_ready (rs := [38]) (by kernel_rfl) (by simp) ?_
          refine AllReadyH.cons (o := _) rfl (fun K hK => ?_) AllReadyH.nil
          go_simp
          refine (AW.out _).mono ?_
          rintro e x6 ⟨rfl, ba⟩
          go_wp2_with fail
          refine hK.out _ _ (held_two hbm9 hbl9 hHeld (ba.mono hHeld.2.size)) (fun hHeld => ?_)
          clear hK K
          try simp only [Act.put, List.setIfInBounds_toArray, List.set_cons_zero, List.set_cons_succ]
          refine take' (i := 39) (d := some 95) (v := ?_) rfl rfl (by kernel_rfl) (by kernel_rfl) (by kernel_rfl) (fun _ _ _ h => h) (Or.inl ⟨by rfl, ?_⟩) (by assumption) ?_
          rotate_left
          · intro w hSw; (try dsimp only at hSw); go_simp; try with_reducible rfl
          try simp only [Act.put, List.setIfInBounds_toArray, List.set_cons_zero, List.set_cons_succ]
          refine take' (i := 40) (d := some 6) (v := ?_) rfl rfl (by kernel_rfl) (by kernel_rfl) (by kernel_rfl) (fun _ _ _ h => h) (Or.inl ⟨by rfl, ?_⟩) (by assumption) ?_
          rotate_left
          · intro w hSw; (try dsimp only at hSw); go_simp; try with_reducible rfl
          try simp only [Act.put, List.setIfInBounds_toArray, List.set_cons_zero, List.set_cons_succ]
          refine wpAnyH_done (by kernel_rfl) ?_ _
          have B10 := Hid.intro (B9.out.trans (hHeld.2.mono B9.out.size))
          clear hHeld
          go_wp2_with fail
          go_ret
          exact ⟨rfl, B10.out⟩
        · have t1 : ((v : Int) == (y : Int)) = false := by simp; omega
          by_cases hB : c5 ≤ 2
          · have t2 : decide ((c5 : Int) ≤ 2) = true := decide_eq_true (by omega)
            go_wp2_with fail
            refine wp_region_held_drew (S := fun W => (W.cell? ⟨bm, k, none⟩ = some (.int .i64 (v : Int)) ∧ W.cell? ⟨bl, k, none⟩ = some (.int .i64 (y : Int))) ∧ Below w9.heap.size w9 W) (by kernel_rfl) ⟨⟨cm9, cl9⟩, (Below.refl _ _).drew⟩ (fun hHeld => ?_)
            refine take' (i := 0) (d := some 56) (v := ?_) rfl rfl (by kernel_rfl) (by kernel_rfl) (by kernel_rfl) (fun _ _ _ h => h) (Or.inl ⟨by rfl, ?_⟩) (by assumption) ?_
            rotate_left
            · intro w hSw; (try dsimp only at hSw); go_simp; try with_reducible rfl
            try simp only [Act.put, List.setIfInBounds_toArray, List.set_cons_zero, List.set_cons_succ]
            refine take' (i := 1) (d := some 57) (v := ?_) rfl rfl (by kernel_rfl) (by kernel_rfl) (by kernel_rfl) (fun _ _ _ h => h) (Or.inl ⟨by rfl, ?_⟩) (by assumption) ?_
            rotate_left
            · intro w hSw; (try dsimp only at hSw); go_simp; try with_reducible rfl
            try simp only [Act.put, List.setIfInBounds_toArray, List.set_cons_zero, List.set_cons_succ]
            refine take' (i := 2) (d := some 58) (v := ?_) rfl rfl (by kernel_rfl) (by kernel_rfl) (by kernel_rfl) (fun _ _ _ h => h) (Or.inl ⟨by rfl, ?_⟩) (by assumption) ?_
            rotate_left
            · intro w hSw; (try dsimp only at hSw); go_simp; try with_reducible rfl
            try simp only [Act.put, List.setIfInBounds_toArray, List.set_cons_zero, List.set_cons_succ]
            refine take' (i := 3) (d := some 59) (v := ?_) rfl rfl (by kernel_rfl) (by kernel_rfl) (by kernel_rfl) (fun _ _ _ h => h) (Or.inl ⟨by rfl, ?_⟩) (by assumption) ?_
            rotate_left
            · intro w hSw; (try dsimp only at hSw); go_simp; try with_reducible rfl
            try simp only [Act.put, List.setIfInBounds_toArray, List.set_cons_zero, List.set_cons_succ]
            refine take' (i := 4) (d := some 60) (v := ?_) rfl rfl (by kernel_rfl) (by kernel_rfl) (by kernel_rfl) (fun _ _ _ h => h) (Or.inl ⟨by rfl, ?_⟩) (by assumption) ?_
            rotate_left
            · intro w hSw; (try dsimp only at hSw); go_simp; try with_reducible rfl
            try simp only [Act.put, List.setIfInBounds_toArray, List.set_cons_zero, List.set_cons_succ]
            refine take' (i := 5) (d := some 61) (v := ?_) rfl rfl (by kernel_rfl) (by kernel_rfl) (by kernel_rfl) (fun _ _ _ h => h) (Or.inl ⟨by rfl, ?_⟩) (by assumption) ?_
            rotate_left
            · intro w hSw; (try dsimp only at hSw); go_simp; try with_reducible rfl
            try simp only [Act.put, List.setIfInBounds_toArray, List.set_cons_zero, List.set_cons_succ]
            refine take' (i := 6) (d := some 62) (v := ?_) rfl rfl (by kernel_rfl) (by kernel_rfl) (by kernel_rfl) (fun _ _ _ h => h) (Or.inl ⟨by rfl, ?_⟩) (by assumption) ?_
            rotate_left
            · intro w hSw; (try dsimp only at hSw); go_simp; try with_reducible rfl
            try simp only [Act.put, List.setIfInBounds_toArray, List.set_cons_zero, List.set_cons_succ]
            refine take' (i := 7) (d := some 63) (v := ?_) rfl rfl (by kernel_rfl) (by kernel_rfl) (by kernel_rfl) (fun _ _ _ h => h) (Or.inl ⟨by rfl, ?_⟩) (by assumption) ?_
            rotate_left
            · intro w hSw; (try dsimp only at hSw); go_simp; try with_reducible rfl
            try simp only [Act.put, List.setIfInBounds_toArray, List.set_cons_zero, List.set_cons_succ]
            refine take' (i := 8) (d := some 64) (v := ?_) rfl rfl (by kernel_rfl) (by kernel_rfl) (by kernel_rfl) (fun _ _ _ h => h) (Or.inl ⟨by rfl, ?_⟩) (by assumption) ?_
            rotate_left
            · intro w hSw; (try dsimp only at hSw); go_simp; try with_reducible rfl
            try simp only [Act.put, List.setIfInBounds_toArray, List.set_cons_zero, List.set_cons_succ]
            refine take' (i := 9) (d := some 65) (v := ?_) rfl rfl (by kernel_rfl) (by kernel_rfl) (by kernel_rfl) (fun _ _ _ h => h) (Or.inl ⟨by rfl, ?_⟩) (by assumption) ?_
            rotate_left
            · intro w hSw; (try dsimp only at hSw); go_simp; try with_reducible rfl
            try simp only [Act.put, List.setIfInBounds_toArray, List.set_cons_zero, List.set_cons_succ]
            refine take' (i := 10) (d := some 66) (v := ?_) rfl rfl (by kernel_rfl) (by kernel_rfl) (by kernel_rfl) (fun _ _ _ h => h) (Or.inl ⟨by rfl, ?_⟩) (by assumption) ?_
            rotate_left
            · intro w hSw; (try dsimp only at hSw); go_simp; try with_reducible rfl
            try simp only [Act.put, List.setIfInBounds_toArray, List.set_cons_zero, List.set_cons_succ]
            refine take' (i := 11) (d := some 67) (v := ?_) rfl rfl (by kernel_rfl) (by kernel_rfl) (by kernel_rfl) (fun _ _ _ h => h) (Or.inl ⟨by rfl, ?_⟩) (by assumption) ?_
            rotate_left
            · intro w hSw; (try dsimp only at hSw); go_simp; try with_reducible rfl
            try simp only [Act.put, List.setIfInBounds_toArray, List.set_cons_zero, List.set_cons_succ]
            refine take' (i := 12) (d := some 68) (v := ?_) rfl rfl (by kernel_rfl) (by kernel_rfl) (by kernel_rfl) (fun _ _ _ h => h) (Or.inl ⟨by rfl, ?_⟩) (by assumption) ?_
            rotate_left
            · intro w hSw; (try dsimp only at hSw); go_simp; try with_reducible rfl
            try simp only [Act.put, List.setIfInBounds_toArray, List.set_cons_zero, List.set_cons_succ]
            refine take' (i := 13) (d := some 69) (v := undef) rfl rfl (by kernel_rfl) (by kernel_rfl) (by kernel_rfl) (fun _ _ _ h => h) (Or.inr ⟨by rfl, rfl⟩) (by assumption) ?_
            try simp only [Act.put, List.setIfInBounds_toArray, List.set_cons_zero, List.set_cons_succ]
            refine take' (i := 14) (d := some 70) (v := undef) rfl rfl (by kernel_rfl) (by kernel_rfl) (by kernel_rfl) (fun _ _ _ h => h) (Or.inr ⟨by rfl, rfl⟩) (by assumption) ?_
            try simp only [Act.put, List.setIfInBounds_toArray, List.set_cons_zero, List.set_cons_succ]
            refine take' (i := 15) (d := some 71) (v := undef) rfl rfl (by kernel_rfl) (by kernel_rfl) (by kernel_rfl) (fun _ _ _ h => h) (Or.inr ⟨by rfl, rfl⟩) (by assumption) ?_
            try simp only [Act.put, List.setIfInBounds_toArray, List.set_cons_zero, List.set_cons_succ]
            refine take' (i := 16) (d := some 72) (v := undef) rfl rfl (by kernel_rfl) (by kernel_rfl) (by kernel_rfl) (fun _ _ _ h => h) (Or.inr ⟨by rfl, rfl⟩) (by assumption) ?_
            try simp only [Act.put, List.setIfInBounds_toArray, List.set_cons_zero, List.set_cons_succ]
            refine take' (i := 17) (d := some 73) (v := undef) rfl rfl (by kernel_rfl) (by kernel_rfl) (by kernel_rfl) (fun _ _ _ h => h) (Or.inr ⟨by rfl, rfl⟩) (by assumption) ?_
            try simp only [Act.put, List.setIfInBounds_toArray, List.set_cons_zero, List.set_cons_succ]
            refine take' (i := 18) (d := some 74) (v := undef) rfl rfl (by kernel_rfl) (by kernel_rfl) (by kernel_rfl) (fun _ _ _ h => h) (Or.inr ⟨by rfl, rfl⟩) (by assumption) ?_
            try simp only [Act.put, List.setIfInBounds_toArray, List.set_cons_zero, List.set_cons_succ]
            refine take' (i := 19) (d := some 75) (v := undef) rfl rfl (by kernel_rfl) (by kernel_rfl) (by kernel_rfl) (fun _ _ _ h => h) (Or.inr ⟨by rfl, rfl⟩) (by assumption) ?_
            try simp only [Act.put, List.setIfInBounds_toArray, List.set_cons_zero, List.set_cons_succ]
            refine take' (i := 20) (d := some 76) (v := undef) rfl rfl (by kernel_rfl) (by kernel_rfl) (by kernel_rfl) (fun _ _ _ h => h) (Or.inr ⟨by rfl, rfl⟩) (by assumption) ?_
            try simp only [Act.put, List.setIfInBounds_toArray, List.set_cons_zero, List.set_cons_succ]
            refine take' (i := 21) (d := some 77) (v := ?_) rfl rfl (by kernel_rfl) (by kernel_rfl) (by kernel_rfl) (fun _ _ _ h => h) (Or.inl ⟨by rfl, ?_⟩) (by assumption) ?_
            rotate_left
            · intro w hSw; (try dsimp only at hSw); go_simp; try with_reducible rfl
            try simp only [Act.put, List.setIfInBounds_toArray, List.set_cons_zero, List.set_cons_succ]
            refine take' (i := 22) (d := some 78) (v := ?_) rfl rfl (by kernel_rfl) (by kernel_rfl) (by kernel_rfl) (fun _ _ _ h => h) (Or.inl ⟨by rfl, ?_⟩) (by assumption) ?_
            rotate_left
            · intro w hSw; (try dsimp only at hSw); go_simp; try with_reducible rfl
            try simp only [Act.put, List.setIfInBounds_toArray, List.set_cons_zero, List.set_cons_succ]
            refine take' (i := 23) (d := some 79) (v := ?_) rfl rfl (by kernel_rfl) (by kernel_rfl) (by kernel_rfl) (fun _ _ _ h => h) (Or.inl ⟨by rfl, ?_⟩) (by assumption) ?_
            rotate_left
            · intro w hSw; (try dsimp only at hSw); go_simp; try with_reducible rfl
            try simp only [Act.put, List.setIfInBounds_toArray, List.set_cons_zero, List.set_cons_succ]
            refine take' (i := 24) (d := some 80) (v := ?_) rfl rfl (by kernel_rfl) (by kernel_rfl) (by kernel_rfl) (fun _ _ _ h => h) (Or.inl ⟨by rfl, ?_⟩) (by assumption) ?_
            rotate_left
            · intro w hSw; (try dsimp only at hSw); go_simp; try with_reducible rfl
            try simp only [Act.put, List.setIfInBounds_toArray, List.set_cons_zero, List.set_cons_succ]
            refine wpAnyH_ready (rs := [25]) (by kernel_rfl) (by simp) ?_
            refine AllReadyH.cons (o := _) rfl (fun K hK => ?_) AllReadyH.nil
            go_simp
            refine (M2.out _ hHeld.2).mono ?_
            rintro e w12 ⟨rfl, hw12⟩
            cases hw12
            go_wp2_with fail
            refine hK.out _ _ (by assumption) (fun hHeld => ?_)
            clear hK K
            try simp only [Act.put, List.setIfInBounds_toArray, List.set_cons_zero, List.set_cons_succ]
            refine take' (i := 26) (d := some 82) (v := ?_) rfl rfl (by kernel_rfl) (by kernel_rfl) (by kernel_rfl) (fun _ _ _ h => h) (Or.inl ⟨by rfl, ?_⟩) (by assumption) ?_
            rotate_left
            · intro w hSw; (try dsimp only at hSw); go_simp; try with_reducible rfl
            try simp only [Act.put, List.setIfInBounds_toArray, List.set_cons_zero, List.set_cons_succ]
            refine take' (i := 27) (d := some 83) (v := ?_) rfl rfl (by kernel_rfl) (by kernel_rfl) (by kernel_rfl) (fun _ _ _ h => h) (Or.inl ⟨by rfl, ?_⟩) (by assumption) ?_
            rotate_left
            · intro w hSw; (try dsimp only at hSw); go_simp; try with_reducible rfl
            try simp only [Act.put, List.setIfInBounds_toArray, List.set_cons_zero, List.set_cons_succ]
            refine take' (i := 28) (d := some 84) (v := ?_) rfl rfl (by kernel_rfl) (by kernel_rfl) (by kernel_rfl) (fun _ _ _ h => h) (Or.inl ⟨by rfl, ?_⟩) (by assumption) ?_
            rotate_left
            · intro w hSw; (try dsimp only at hSw); go_simp; try with_reducible rfl
            try simp only [Act.put, List.setIfInBounds_toArray, List.set_cons_zero, List.set_cons_succ]
            refine take' (i := 30) (d := some 86) (v := ?_) rfl rfl (by kernel_rfl) (by kernel_rfl) (by kernel_rfl) (fun _ _ _ h => h) (Or.inl ⟨by rfl, ?_⟩) (by assumption) ?_
            rotate_left
            · intro w hSw; (try dsimp only at hSw); go_simp; try with_reducible rfl
            try simp only [Act.put, List.setIfInBounds_toArray, List.set_cons_zero, List.set_cons_succ]
            generalize w9.drew = x0 at *
            have z0 := hHeld.2.size
            refine wpAnyH_ready (rs := [29, 32]) (by kernel_rfl) (by simp) ?_
            refine AllReadyH.cons (o := _) rfl (fun K hK => ?_) ?_
            · go_simp
              refine hK.out _ _ (held_two hbm9 hbl9 hHeld (alloc_b _ _ z0)) (fun hHeld => ?_)
              clear hK K
              try simp only [Act.put, List.setIfInBounds_toArray, List.set_cons_zero, List.set_cons_succ]
              have e1 := own_low (own_empty x0 3 1) (Nat.zero_le _)
              have z1 := Hid.intro (size_alloc x0 (.cells #[] 3))
              obtain ⟨x1, hx1⟩ : ∃ x1, x0.alloc (.cells #[] 3) = x1 := ⟨_, rfl⟩
              rw [hx1] at e1 z1 hHeld ⊢
              clear hx1
              refine wpAnyH_ready (rs := [31, 32]) (by kernel_rfl) (by simp) ?_
              refine AllReadyH.cons (o := _) rfl (fun K hK => ?_) ?_
              · refine step_pushG (by rfl) (.tmp 85) (.tmp 86) 22 rfl 3 i0 (.int .i64 0) 1 8 Try.underlying22 hi0 hz0 hs0 hb0 rfl (by decide) (by decide) (.slice (some ⟨x0.heap.size, 0, none⟩) 0 0) 0 [] rfl e1 ⟨bl, 0, none⟩ 65 cl (ni L) rfl NL.out (LC.out _ hHeld.2) (ivs_one _) (by omega) ?_
                intro v2 x2 g1 g2 g3
                have f2 := moved_from (B := w9.heap.size) g3 z0 (by have := z1.out; omega)
                have bl2 := grown_b (B := w9.heap.size) g2 (by have := z1.out; omega) z0
                rw [Nat.zero_add, List.nil_append] at g1
                obtain ⟨b2, c2, rfl⟩ := own_slice g1 (by omega)
                have hb2 : w9.heap.size ≤ b2 := f2 b2 rfl
                refine hK.out _ _ (held_two hbm9 hbl9 hHeld bl2) (fun hHeld => ?_)
                clear hK K g2 g3 f2
                try simp only [Act.put, List.setIfInBounds_toArray]
                have z2 := hHeld.2.size
                refine wpAnyH_ready (rs := [32]) (by kernel_rfl) (by simp) ?_
                refine AllReadyH.cons (o := _) rfl (fun K hK => ?_) AllReadyH.nil
                go_simp
                refine hK.out _ _ (held_two hbm9 hbl9 hHeld (alloc_b _ _ z2)) (fun hHeld => ?_)
                clear hK K
                try simp only [Act.put, List.setIfInBounds_toArray, List.set_cons_zero, List.set_cons_succ]
                have o3 := World.ownsRow.alloc g1 (.cells #[.int .i64 0] 3)
                have bk3 := blk_new x2 #[.int .i64 0] 3
                obtain ⟨x3, hx3⟩ : ∃ x3, x2.alloc (.cells #[.int .i64 0] 3) = x3 := ⟨_, rfl⟩
                rw [hx3] at o3 bk3 hHeld ⊢
                clear hx3 g1
                refine wpAnyH_ready (rs := [33]) (by kernel_rfl) (by simp) ?_
                refine AllReadyH.cons (o := _) rfl (fun K hK => ?_) AllReadyH.nil
                refine step_pushG (by rfl) (.tmp 87) (.tmp 88) 22 rfl 3 i0 (.int .i64 0) 1 8 Try.underlying22 hi0 hz0 hs0 hb0 rfl (by decide) (by decide) (.slice (some ⟨b2, 0, none⟩) 65 c2) 65 (ni L) rfl o3 ⟨x2.heap.size, 0, none⟩ 1 1 [.int .i64 0] rfl rfl (one_blk bk3) (by intro u hu; simp at hu; subst hu; rfl) (by omega) ?_
                intro v4 x4 g1 g2 g3
                have bl4 := grown_b (B := w9.heap.size) g2 hHeld.2.size hb2
                rw [six_ivs] at g1
                obtain ⟨b4, c4, rfl⟩ := own_slice g1 (by omega)
                refine hK.out _ _ (held_two hbm9 hbl9 hHeld bl4) (fun hHeld => ?_)
                clear hK K g2 g3
                try simp only [Act.put, List.setIfInBounds_toArray]
                refine wpAnyH_ready (rs := [34]) (by kernel_rfl) (by simp) ?_
                refine AllReadyH.cons (o := _) rfl (fun K hK => ?_) AllReadyH.nil
                go_simp
                refine (M3.out _ b4 c4 _ g1).mono ?_
                rintro e x5 ⟨rfl, hx5⟩
                cases hx5
                go_wp2_with fail
                refine hK.out _ _ (by assumption) (fun hHeld => ?_)
                clear hK K
                try simp only [Act.put, List.setIfInBounds_toArray, List.set_cons_zero, List.set_cons_succ]
                refine take' (i := 35) (d := some 91) (v := ?_) rfl rfl (by kernel_rfl) (by kernel_rfl) (by kernel_rfl) (fun _ _ _ h => h) (Or.inl ⟨by rfl, ?_⟩) (by assumption) ?_
                rotate_left
                · intro w hSw; (try dsimp only at hSw); go_simp; try with_reducible rfl
                try simp only [Act.put, List.setIfInBounds_toArray, List.set_cons_zero, List.set_cons_succ]
                refine take' (i := 36) (d := some 92) (v := ?_) rfl rfl (by kernel_rfl) (by kernel_rfl) (by kernel_rfl) (fun _ _ _ h => h) (Or.inl ⟨by rfl, ?_⟩) (by assumption) ?_
                rotate_left
                · intro w hSw; (try dsimp only at hSw); go_simp; try with_reducible rfl
                try simp only [Act.put, List.setIfInBounds_toArray, List.set_cons_zero, List.set_cons_succ]
                refine take' (i := 37) (d := some 93) (v := ?_) rfl rfl (by kernel_rfl) (by kernel_rfl) (by kernel_rfl) (fun _ _ _ h => h) (Or.inl ⟨by rfl, ?_⟩) (by assumption) ?_
                rotate_left
                · intro w hSw; (try dsimp only at hSw); go_simp; try with_reducible rfl
                try simp only [Act.put, List.setIfInBounds_toArray, List.set_cons_zero, List.set_cons_succ]
                refine wpAnyH_ready (rs := [38]) (by kernel_rfl) (by simp) ?_
                refine AllReadyH.cons (o := _) rfl (fun K hK => ?_) AllReadyH.nil
                go_simp
                refine (AW.out _).mono ?_
                rintro e x6 ⟨rfl, ba⟩
                go_wp2_with fail
                refine hK.out _ _ (held_two hbm9 hbl9 hHeld (ba.mono hHeld.2.size)) (fun hHeld => ?_)
                clear hK K
                try simp only [Act.put, List.setIfInBounds_toArray, List.set_cons_zero, List.set_cons_succ]
                refine take' (i := 39) (d := some 95) (v := ?_) rfl rfl (by kernel_rfl) (by kernel_rfl) (by kernel_rfl) (fun _ _ _ h => h) (Or.inl ⟨by rfl, ?_⟩) (by assumption) ?_
                rotate_left
                · intro w hSw; (try dsimp only at hSw); go_simp; try with_reducible rfl
                try simp only [Act.put, List.setIfInBounds_toArray, List.set_cons_zero, List.set_cons_succ]
                refine take' (i := 40) (d := some 6) (v := ?_) rfl rfl (by kernel_rfl) (by kernel_rfl) (by kernel_rfl) (fun _ _ _ h => h) (Or.inl ⟨by rfl, ?_⟩) (by assumption) ?_
                rotate_left
                · intro w hSw; (try dsimp only at hSw); go_simp; try with_reducible rfl
                try simp only [Act.put, List.setIfInBounds_toArray, List.set_cons_zero, List.set_cons_succ]
                refine wpAnyH_done (by kernel_rfl) ?_ _
                have B10 := Hid.intro (B9.out.trans (hHeld.2.mono B9.out.size))
                clear hHeld
                go_wp2_with fail
                go_ret
                exact ⟨rfl, B10.out⟩
              refine AllReadyH.cons (o := _) rfl (fun K hK => ?_) AllReadyH.nil
              go_simp
              refine hK.out _ _ (held_two hbm9 hbl9 hHeld (alloc_b _ _ (by have := z1.out; omega))) (fun hHeld => ?_)
              clear hK K
              try simp only [Act.put, List.setIfInBounds_toArray, List.set_cons_zero, List.set_cons_succ]
              have e2 := World.ownsRow.alloc e1 (.cells #[.int .i64 0] 3)
              have bk2 := blk_new x1 #[.int .i64 0] 3
              have z2 := Hid.intro (size_alloc x1 (.cells #[.int .i64 0] 3))
              obtain ⟨x2, hx2⟩ : ∃ x2, x1.alloc (.cells #[.int .i64 0] 3) = x2 := ⟨_, rfl⟩
              rw [hx2] at e2 bk2 z2 hHeld ⊢
              clear hx2 e1
              refine wpAnyH_ready (rs := [31]) (by kernel_rfl) (by simp) ?_
              refine AllReadyH.cons (o := _) rfl (fun K hK => ?_) AllReadyH.nil
              refine step_pushG (by rfl) (.tmp 85) (.tmp 86) 22 rfl 3 i0 (.int .i64 0) 1 8 Try.underlying22 hi0 hz0 hs0 hb0 rfl (by decide) (by decide) (.slice (some ⟨x0.heap.size, 0, none⟩) 0 0) 0 [] rfl e2 ⟨bl, 0, none⟩ 65 cl (ni L) rfl NL.out (LC.out _ hHeld.2) (ivs_one _) (by omega) ?_
              intro v3 x3 g1 g2 g3
              have f3 := moved_from (B := w9.heap.size) g3 (by have := z1.out; omega) (by have := z1.out; have := z2.out; omega)
              have bl3 := grown_b (B := w9.heap.size) g2 (by have := z1.out; have := z2.out; omega) (by have := z1.out; omega)
              have bk3 := blk_grown bk2 g2 (by have := z1.out; simp [Value.ownBlock]; omega)
              rw [Nat.zero_add, List.nil_append] at g1
              obtain ⟨b2, c2, rfl⟩ := own_slice g1 (by omega)
              have hb2 : w9.heap.size ≤ b2 := f3 b2 rfl
              refine hK.out _ _ (held_two hbm9 hbl9 hHeld bl3) (fun hHeld => ?_)
              clear hK K g2 g3 f3
              try simp only [Act.put, List.setIfInBounds_toArray]
              have o3 := g1
              refine wpAnyH_ready (rs := [33]) (by kernel_rfl) (by simp) ?_
              refine AllReadyH.cons (o := _) rfl (fun K hK => ?_) AllReadyH.nil
              refine step_pushG (by rfl) (.tmp 87) (.tmp 88) 22 rfl 3 i0 (.int .i64 0) 1 8 Try.underlying22 hi0 hz0 hs0 hb0 rfl (by decide) (by decide) (.slice (some ⟨b2, 0, none⟩) 65 c2) 65 (ni L) rfl o3 ⟨x1.heap.size, 0, none⟩ 1 1 [.int .i64 0] rfl rfl (one_blk bk3) (by intro u hu; simp at hu; subst hu; rfl) (by omega) ?_
              intro v4 x4 g1 g2 g3
              have bl4 := grown_b (B := w9.heap.size) g2 hHeld.2.size hb2
              rw [six_ivs] at g1
              obtain ⟨b4, c4, rfl⟩ := own_slice g1 (by omega)
              refine hK.out _ _ (held_two hbm9 hbl9 hHeld bl4) (fun hHeld => ?_)
              clear hK K g2 g3
              try simp only [Act.put]
              refine wpAnyH_ready (rs := [34]) (by kernel_rfl) (by simp) ?_
              refine AllReadyH.cons (o := _) rfl (fun K hK => ?_) AllReadyH.nil
              go_simp
              refine (M3.out _ b4 c4 _ g1).mono ?_
              rintro e x5 ⟨rfl, hx5⟩
              cases hx5
              go_wp2_with fail
              refine hK.out _ _ (by assumption) (fun hHeld => ?_)
              clear hK K
              try simp only [Act.put, List.setIfInBounds_toArray, List.set_cons_zero, List.set_cons_succ]
              refine take' (i := 35) (d := some 91) (v := ?_) rfl rfl (by kernel_rfl) (by kernel_rfl) (by kernel_rfl) (fun _ _ _ h => h) (Or.inl ⟨by rfl, ?_⟩) (by assumption) ?_
              rotate_left
              · intro w hSw; (try dsimp only at hSw); go_simp; try with_reducible rfl
              try simp only [Act.put, List.setIfInBounds_toArray, List.set_cons_zero, List.set_cons_succ]
              refine take' (i := 36) (d := some 92) (v := ?_) rfl rfl (by kernel_rfl) (by kernel_rfl) (by kernel_rfl) (fun _ _ _ h => h) (Or.inl ⟨by rfl, ?_⟩) (by assumption) ?_
              rotate_left
              · intro w hSw; (try dsimp only at hSw); go_simp; try with_reducible rfl
              try simp only [Act.put, List.setIfInBounds_toArray, List.set_cons_zero, List.set_cons_succ]
              refine take' (i := 37) (d := some 93) (v := ?_) rfl rfl (by kernel_rfl) (by kernel_rfl) (by kernel_rfl) (fun _ _ _ h => h) (Or.inl ⟨by rfl, ?_⟩) (by assumption) ?_
              rotate_left
              · intro w hSw; (try dsimp only at hSw); go_simp; try with_reducible rfl
              try simp only [Act.put, List.setIfInBounds_toArray, List.set_cons_zero, List.set_cons_succ]
              refine wpAnyH_ready (rs := [38]) (by kernel_rfl) (by simp) ?_
              refine AllReadyH.cons (o := _) rfl (fun K hK => ?_) AllReadyH.nil
              go_simp
              refine (AW.out _).mono ?_
              rintro e x6 ⟨rfl, ba⟩
              go_wp2_with fail
              refine hK.out _ _ (held_two hbm9 hbl9 hHeld (ba.mono hHeld.2.size)) (fun hHeld => ?_)
              clear hK K
              try simp only [Act.put, List.setIfInBounds_toArray, List.set_cons_zero, List.set_cons_succ]
              refine take' (i := 39) (d := some 95) (v := ?_) rfl rfl (by kernel_rfl) (by kernel_rfl) (by kernel_rfl) (fun _ _ _ h => h) (Or.inl ⟨by rfl, ?_⟩) (by assumption) ?_
              rotate_left
              · intro w hSw; (try dsimp only at hSw); go_simp; try with_reducible rfl
              try simp only [Act.put, List.setIfInBounds_toArray, List.set_cons_zero, List.set_cons_succ]
              refine take' (i := 40) (d := some 6) (v := ?_) rfl rfl (by kernel_rfl) (by kernel_rfl) (by kernel_rfl) (fun _ _ _ h => h) (Or.inl ⟨by rfl, ?_⟩) (by assumption) ?_
              rotate_left
              · intro w hSw; (try dsimp only at hSw); go_simp; try with_reducible rfl
              try simp only [Act.put, List.setIfInBounds_toArray, List.set_cons_zero, List.set_cons_succ]
              refine wpAnyH_done (by kernel_rfl) ?_ _
              have B10 := Hid.intro (B9.out.trans (hHeld.2.mono B9.out.size))
              clear hHeld
              go_wp2_with fail
              go_ret
              exact ⟨rfl, B10.out⟩
            refine AllReadyH.cons (o := _) rfl (fun K hK => ?_) AllReadyH.nil
            go_simp
            refine hK.out _ _ (held_two hbm9 hbl9 hHeld (alloc_b _ _ z0)) (fun hHeld => ?_)
            clear hK K
            try simp only [Act.put, List.setIfInBounds_toArray, List.set_cons_zero, List.set_cons_succ]
            have bk1 := blk_new x0 #[.int .i64 0] 3
            have z1 := Hid.intro (size_alloc x0 (.cells #[.int .i64 0] 3))
            obtain ⟨x1, hx1⟩ : ∃ x1, x0.alloc (.cells #[.int .i64 0] 3) = x1 := ⟨_, rfl⟩
            rw [hx1] at bk1 z1 hHeld ⊢
            clear hx1
            refine wpAnyH_ready (rs := [29]) (by kernel_rfl) (by simp) ?_
            refine AllReadyH.cons (o := _) rfl (fun K hK => ?_) AllReadyH.nil
            go_simp
            refine hK.out _ _ (held_two hbm9 hbl9 hHeld (alloc_b _ _ (by have := z1.out; omega))) (fun hHeld => ?_)
            clear hK K
            try simp only [Act.put, List.setIfInBounds_toArray, List.set_cons_zero, List.set_cons_succ]
            have e2 := own_low (own_empty x1 3 1) (Nat.zero_le _)
            have bk2 := blk_alloc bk1 (.cells #[] 3)
            have z2 := Hid.intro (size_alloc x1 (.cells #[] 3))
            obtain ⟨x2, hx2⟩ : ∃ x2, x1.alloc (.cells #[] 3) = x2 := ⟨_, rfl⟩
            rw [hx2] at e2 bk2 z2 hHeld ⊢
            clear hx2 bk1
            refine wpAnyH_ready (rs := [31]) (by kernel_rfl) (by simp) ?_
            refine AllReadyH.cons (o := _) rfl (fun K hK => ?_) AllReadyH.nil
            refine step_pushG (by rfl) (.tmp 85) (.tmp 86) 22 rfl 3 i0 (.int .i64 0) 1 8 Try.underlying22 hi0 hz0 hs0 hb0 rfl (by decide) (by decide) (.slice (some ⟨x1.heap.size, 0, none⟩) 0 0) 0 [] rfl e2 ⟨bl, 0, none⟩ 65 cl (ni L) rfl NL.out (LC.out _ hHeld.2) (ivs_one _) (by omega) ?_
            intro v3 x3 g1 g2 g3
            have f3 := moved_from (B := w9.heap.size) g3 (by have := z1.out; omega) (by have := z1.out; have := z2.out; omega)
            have bl3 := grown_b (B := w9.heap.size) g2 (by have := z1.out; have := z2.out; omega) (by have := z1.out; omega)
            have bk3 := blk_grown bk2 g2 (by have := z1.out; simp [Value.ownBlock]; omega)
            rw [Nat.zero_add, List.nil_append] at g1
            obtain ⟨b2, c2, rfl⟩ := own_slice g1 (by omega)
            have hb2 : w9.heap.size ≤ b2 := f3 b2 rfl
            refine hK.out _ _ (held_two hbm9 hbl9 hHeld bl3) (fun hHeld => ?_)
            clear hK K g2 g3 f3
            try simp only [Act.put, List.setIfInBounds_toArray]
            have o3 := g1
            refine wpAnyH_ready (rs := [33]) (by kernel_rfl) (by simp) ?_
            refine AllReadyH.cons (o := _) rfl (fun K hK => ?_) AllReadyH.nil
            refine step_pushG (by rfl) (.tmp 87) (.tmp 88) 22 rfl 3 i0 (.int .i64 0) 1 8 Try.underlying22 hi0 hz0 hs0 hb0 rfl (by decide) (by decide) (.slice (some ⟨b2, 0, none⟩) 65 c2) 65 (ni L) rfl o3 ⟨x0.heap.size, 0, none⟩ 1 1 [.int .i64 0] rfl rfl (one_blk bk3) (by intro u hu; simp at hu; subst hu; rfl) (by omega) ?_
            intro v4 x4 g1 g2 g3
            have bl4 := grown_b (B := w9.heap.size) g2 hHeld.2.size hb2
            rw [six_ivs] at g1
            obtain ⟨b4, c4, rfl⟩ := own_slice g1 (by omega)
            refine hK.out _ _ (held_two hbm9 hbl9 hHeld bl4) (fun hHeld => ?_)
            clear hK K g2 g3
            try simp only [Act.put]
            refine wpAnyH_ready (rs := [34]) (by kernel_rfl) (by simp) ?_
            refine AllReadyH.cons (o := _) rfl (fun K hK => ?_) AllReadyH.nil
            go_simp
            refine (M3.out _ b4 c4 _ g1).mono ?_
            rintro e x5 ⟨rfl, hx5⟩
            cases hx5
            go_wp2_with fail
            refine hK.out _ _ (by assumption) (fun hHeld => ?_)
            clear hK K
            try simp only [Act.put, List.setIfInBounds_toArray, List.set_cons_zero, List.set_cons_succ]
            refine take' (i := 35) (d := some 91) (v := ?_) rfl rfl (by kernel_rfl) (by kernel_rfl) (by kernel_rfl) (fun _ _ _ h => h) (Or.inl ⟨by rfl, ?_⟩) (by assumption) ?_
            rotate_left
            · intro w hSw; (try dsimp only at hSw); go_simp; try with_reducible rfl
            try simp only [Act.put, List.setIfInBounds_toArray, List.set_cons_zero, List.set_cons_succ]
            refine take' (i := 36) (d := some 92) (v := ?_) rfl rfl (by kernel_rfl) (by kernel_rfl) (by kernel_rfl) (fun _ _ _ h => h) (Or.inl ⟨by rfl, ?_⟩) (by assumption) ?_
            rotate_left
            · intro w hSw; (try dsimp only at hSw); go_simp; try with_reducible rfl
            try simp only [Act.put, List.setIfInBounds_toArray, List.set_cons_zero, List.set_cons_succ]
            refine take' (i := 37) (d := some 93) (v := ?_) rfl rfl (by kernel_rfl) (by kernel_rfl) (by kernel_rfl) (fun _ _ _ h => h) (Or.inl ⟨by rfl, ?_⟩) (by assumption) ?_
            rotate_left
            · intro w hSw; (try dsimp only at hSw); go_simp; try with_reducible rfl
            try simp only [Act.put, List.setIfInBounds_toArray, List.set_cons_zero, List.set_cons_succ]
            refine wpAnyH_ready (rs := [38]) (by kernel_rfl) (by simp) ?_
            refine AllReadyH.cons (o := _) rfl (fun K hK => ?_) AllReadyH.nil
            go_simp
            refine (AW.out _).mono ?_
            rintro e x6 ⟨rfl, ba⟩
            go_wp2_with fail
            refine hK.out _ _ (held_two hbm9 hbl9 hHeld (ba.mono hHeld.2.size)) (fun hHeld => ?_)
            clear hK K
            try simp only [Act.put, List.setIfInBounds_toArray, List.set_cons_zero, List.set_cons_succ]
            refine take' (i := 39) (d := some 95) (v := ?_) rfl rfl (by kernel_rfl) (by kernel_rfl) (by kernel_rfl) (fun _ _ _ h => h) (Or.inl ⟨by rfl, ?_⟩) (by assumption) ?_
            rotate_left
            · intro w hSw; (try dsimp only at hSw); go_simp; try with_reducible rfl
            try simp only [Act.put, List.setIfInBounds_toArray, List.set_cons_zero, List.set_cons_succ]
            refine take' (i := 40) (d := some 6) (v := ?_) rfl rfl (by kernel_rfl) (by kernel_rfl) (by kernel_rfl) (fun _ _ _ h => h) (Or.inl ⟨by rfl, ?_⟩) (by assumption) ?_
            rotate_left
            · intro w hSw; (try dsimp only at hSw); go_simp; try with_reducible rfl
            try simp only [Act.put, List.setIfInBounds_toArray, List.set_cons_zero, List.set_cons_succ]
            refine wpAnyH_done (by kernel_rfl) ?_ _
            have B10 := Hid.intro (B9.out.trans (hHeld.2.mono B9.out.size))
            clear hHeld
            go_wp2_with fail
            go_ret
            exact ⟨rfl, B10.out⟩
          · have t2 : decide ((c5 : Int) ≤ 2) = false := decide_eq_false (by omega)
            have mf := TN () hA (by omega)
            obtain rfl : e9 = 3 := E9 () mf
            go_wp2_with fail
            refine wp_region_held_drew (S := fun W => (W.cell? ⟨bm, k, none⟩ = some (.int .i64 (v : Int)) ∧ W.cell? ⟨bl, k, none⟩ = some (.int .i64 (y : Int))) ∧ Below w9.heap.size w9 W) (by kernel_rfl) ⟨⟨cm9, cl9⟩, (Below.refl _ _).drew⟩ (fun hHeld => ?_)
            refine take' (i := 0) (d := some 56) (v := ?_) rfl rfl (by kernel_rfl) (by kernel_rfl) (by kernel_rfl) (fun _ _ _ h => h) (Or.inl ⟨by rfl, ?_⟩) (by assumption) ?_
            rotate_left
            · intro w hSw; (try dsimp only at hSw); go_simp; try with_reducible rfl
            try simp only [Act.put, List.setIfInBounds_toArray, List.set_cons_zero, List.set_cons_succ]
            refine take' (i := 1) (d := some 57) (v := ?_) rfl rfl (by kernel_rfl) (by kernel_rfl) (by kernel_rfl) (fun _ _ _ h => h) (Or.inl ⟨by rfl, ?_⟩) (by assumption) ?_
            rotate_left
            · intro w hSw; (try dsimp only at hSw); go_simp; try with_reducible rfl
            try simp only [Act.put, List.setIfInBounds_toArray, List.set_cons_zero, List.set_cons_succ]
            refine take' (i := 2) (d := some 58) (v := ?_) rfl rfl (by kernel_rfl) (by kernel_rfl) (by kernel_rfl) (fun _ _ _ h => h) (Or.inl ⟨by rfl, ?_⟩) (by assumption) ?_
            rotate_left
            · intro w hSw; (try dsimp only at hSw); go_simp; try with_reducible rfl
            try simp only [Act.put, List.setIfInBounds_toArray, List.set_cons_zero, List.set_cons_succ]
            refine take' (i := 3) (d := some 59) (v := ?_) rfl rfl (by kernel_rfl) (by kernel_rfl) (by kernel_rfl) (fun _ _ _ h => h) (Or.inl ⟨by rfl, ?_⟩) (by assumption) ?_
            rotate_left
            · intro w hSw; (try dsimp only at hSw); go_simp; try with_reducible rfl
            try simp only [Act.put, List.setIfInBounds_toArray, List.set_cons_zero, List.set_cons_succ]
            refine take' (i := 4) (d := some 60) (v := ?_) rfl rfl (by kernel_rfl) (by kernel_rfl) (by kernel_rfl) (fun _ _ _ h => h) (Or.inl ⟨by rfl, ?_⟩) (by assumption) ?_
            rotate_left
            · intro w hSw; (try dsimp only at hSw); go_simp; try with_reducible rfl
            try simp only [Act.put, List.setIfInBounds_toArray, List.set_cons_zero, List.set_cons_succ]
            refine take' (i := 5) (d := some 61) (v := ?_) rfl rfl (by kernel_rfl) (by kernel_rfl) (by kernel_rfl) (fun _ _ _ h => h) (Or.inl ⟨by rfl, ?_⟩) (by assumption) ?_
            rotate_left
            · intro w hSw; (try dsimp only at hSw); go_simp; try with_reducible rfl
            try simp only [Act.put, List.setIfInBounds_toArray, List.set_cons_zero, List.set_cons_succ]
            refine take' (i := 6) (d := some 62) (v := ?_) rfl rfl (by kernel_rfl) (by kernel_rfl) (by kernel_rfl) (fun _ _ _ h => h) (Or.inl ⟨by rfl, ?_⟩) (by assumption) ?_
            rotate_left
            · intro w hSw; (try dsimp only at hSw); go_simp; try with_reducible rfl
            try simp only [Act.put, List.setIfInBounds_toArray, List.set_cons_zero, List.set_cons_succ]
            refine take' (i := 7) (d := some 63) (v := ?_) rfl rfl (by kernel_rfl) (by kernel_rfl) (by kernel_rfl) (fun _ _ _ h => h) (Or.inl ⟨by rfl, ?_⟩) (by assumption) ?_
            rotate_left
            · intro w hSw; (try dsimp only at hSw); go_simp; try with_reducible rfl
            try simp only [Act.put, List.setIfInBounds_toArray, List.set_cons_zero, List.set_cons_succ]
            refine take' (i := 8) (d := some 64) (v := ?_) rfl rfl (by kernel_rfl) (by kernel_rfl) (by kernel_rfl) (fun _ _ _ h => h) (Or.inl ⟨by rfl, ?_⟩) (by assumption) ?_
            rotate_left
            · intro w hSw; (try dsimp only at hSw); go_simp; try with_reducible rfl
            try simp only [Act.put, List.setIfInBounds_toArray, List.set_cons_zero, List.set_cons_succ]
            refine take' (i := 9) (d := some 65) (v := ?_) rfl rfl (by kernel_rfl) (by kernel_rfl) (by kernel_rfl) (fun _ _ _ h => h) (Or.inl ⟨by rfl, ?_⟩) (by assumption) ?_
            rotate_left
            · intro w hSw; (try dsimp only at hSw); go_simp; try with_reducible rfl
            try simp only [Act.put, List.setIfInBounds_toArray, List.set_cons_zero, List.set_cons_succ]
            refine take' (i := 10) (d := some 66) (v := ?_) rfl rfl (by kernel_rfl) (by kernel_rfl) (by kernel_rfl) (fun _ _ _ h => h) (Or.inl ⟨by rfl, ?_⟩) (by assumption) ?_
            rotate_left
            · intro w hSw; (try dsimp only at hSw); go_simp; try with_reducible rfl
            try simp only [Act.put, List.setIfInBounds_toArray, List.set_cons_zero, List.set_cons_succ]
            refine take' (i := 11) (d := some 67) (v := ?_) rfl rfl (by kernel_rfl) (by kernel_rfl) (by kernel_rfl) (fun _ _ _ h => h) (Or.inl ⟨by rfl, ?_⟩) (by assumption) ?_
            rotate_left
            · intro w hSw; (try dsimp only at hSw); go_simp; try with_reducible rfl
            try simp only [Act.put, List.setIfInBounds_toArray, List.set_cons_zero, List.set_cons_succ]
            refine take' (i := 12) (d := some 68) (v := ?_) rfl rfl (by kernel_rfl) (by kernel_rfl) (by kernel_rfl) (fun _ _ _ h => h) (Or.inl ⟨by rfl, ?_⟩) (by assumption) ?_
            rotate_left
            · intro w hSw; (try dsimp only at hSw); go_simp; try with_reducible rfl
            try simp only [Act.put, List.setIfInBounds_toArray, List.set_cons_zero, List.set_cons_succ]
            refine take' (i := 13) (d := some 69) (v := ?_) rfl rfl (by kernel_rfl) (by kernel_rfl) (by kernel_rfl) (fun _ _ _ h => h) (Or.inl ⟨by rfl, ?_⟩) (by assumption) ?_
            rotate_left
            · intro w hSw; (try dsimp only at hSw); go_simp; try with_reducible rfl
            try simp only [Act.put, List.setIfInBounds_toArray, List.set_cons_zero, List.set_cons_succ]
            refine wpAnyH_ready (rs := [14]) (by kernel_rfl) (by simp) ?_
            refine AllReadyH.cons (o := _) rfl (fun K hK => ?_) AllReadyH.nil
            go_simp
            refine (M1 () _ hHeld.2).mono ?_
            rintro e w10 ⟨rfl, hw10⟩
            rw [mf]
            cases hw10
            go_wp2_with fail
            refine hK.out _ _ (by assumption) (fun hHeld => ?_)
            clear hK K
            try simp only [Act.put, List.setIfInBounds_toArray, List.set_cons_zero, List.set_cons_succ]
            refine take' (i := 15) (d := some 71) (v := ?_) rfl rfl (by kernel_rfl) (by kernel_rfl) (by kernel_rfl) (fun _ _ _ h => h) (Or.inl ⟨by rfl, ?_⟩) (by assumption) ?_
            rotate_left
            · intro w hSw; (try dsimp only at hSw); go_simp; try with_reducible rfl
            try simp only [Act.put, List.setIfInBounds_toArray, List.set_cons_zero, List.set_cons_succ]
            refine take' (i := 16) (d := some 72) (v := ?_) rfl rfl (by kernel_rfl) (by kernel_rfl) (by kernel_rfl) (fun _ _ _ h => h) (Or.inl ⟨by rfl, ?_⟩) (by assumption) ?_
            rotate_left
            · intro w hSw; (try dsimp only at hSw); go_simp; try with_reducible rfl
            try simp only [Act.put, List.setIfInBounds_toArray, List.set_cons_zero, List.set_cons_succ]
            refine take' (i := 17) (d := some 73) (v := ?_) rfl rfl (by kernel_rfl) (by kernel_rfl) (by kernel_rfl) (fun _ _ _ h => h) (Or.inl ⟨by rfl, ?_⟩) (by assumption) ?_
            rotate_left
            · intro w hSw; (try dsimp only at hSw); go_simp; try with_reducible rfl
            try simp only [Act.put, List.setIfInBounds_toArray, List.set_cons_zero, List.set_cons_succ]
            refine wpAnyH_ready (rs := [18]) (by kernel_rfl) (by simp) ?_
            refine AllReadyH.cons (o := _) rfl (fun K hK => ?_) AllReadyH.nil
            go_simp
            refine (ER.out _ _).mono ?_
            rintro e w11 ⟨rfl, hw11⟩
            cases hw11
            go_wp2_with fail
            refine hK.out _ _ (by assumption) (fun hHeld => ?_)
            clear hK K
            try simp only [Act.put, List.setIfInBounds_toArray, List.set_cons_zero, List.set_cons_succ]
            refine take' (i := 19) (d := some 75) (v := ?_) rfl rfl (by kernel_rfl) (by kernel_rfl) (by kernel_rfl) (fun _ _ _ h => h) (Or.inl ⟨by rfl, ?_⟩) (by assumption) ?_
            rotate_left
            · intro w hSw; (try dsimp only at hSw); go_simp; try with_reducible rfl
            try simp only [Act.put, List.setIfInBounds_toArray, List.set_cons_zero, List.set_cons_succ]
            refine take' (i := 20) (d := some 76) (v := ?_) rfl rfl (by kernel_rfl) (by kernel_rfl) (by kernel_rfl) (fun _ _ _ h => h) (Or.inl ⟨by rfl, ?_⟩) (by assumption) ?_
            rotate_left
            · intro w hSw; (try dsimp only at hSw); go_simp; try with_reducible rfl
            try simp only [Act.put, List.setIfInBounds_toArray, List.set_cons_zero, List.set_cons_succ]
            refine take' (i := 21) (d := some 77) (v := ?_) rfl rfl (by kernel_rfl) (by kernel_rfl) (by kernel_rfl) (fun _ _ _ h => h) (Or.inl ⟨by rfl, ?_⟩) (by assumption) ?_
            rotate_left
            · intro w hSw; (try dsimp only at hSw); go_simp; try with_reducible rfl
            try simp only [Act.put, List.setIfInBounds_toArray, List.set_cons_zero, List.set_cons_succ]
            refine take' (i := 22) (d := some 78) (v := ?_) rfl rfl (by kernel_rfl) (by kernel_rfl) (by kernel_rfl) (fun _ _ _ h => h) (Or.inl ⟨by rfl, ?_⟩) (by assumption) ?_
            rotate_left
            · intro w hSw; (try dsimp only at hSw); go_simp; try with_reducible rfl
            try simp only [Act.put, List.setIfInBounds_toArray, List.set_cons_zero, List.set_cons_succ]
            refine take' (i := 23) (d := some 79) (v := ?_) rfl rfl (by kernel_rfl) (by kernel_rfl) (by kernel_rfl) (fun _ _ _ h => h) (Or.inl ⟨by rfl, ?_⟩) (by assumption) ?_
            rotate_left
            · intro w hSw; (try dsimp only at hSw); go_simp; try with_reducible rfl
            try simp only [Act.put, List.setIfInBounds_toArray, List.set_cons_zero, List.set_cons_succ]
            refine take' (i := 24) (d := some 80) (v := ?_) rfl rfl (by kernel_rfl) (by kernel_rfl) (by kernel_rfl) (fun _ _ _ h => h) (Or.inl ⟨by rfl, ?_⟩) (by assumption) ?_
            rotate_left
            · intro w hSw; (try dsimp only at hSw); go_simp; try with_reducible rfl
            try simp only [Act.put, List.setIfInBounds_toArray, List.set_cons_zero, List.set_cons_succ]
            refine wpAnyH_ready (rs := [25]) (by kernel_rfl) (by simp) ?_
            refine AllReadyH.cons (o := _) rfl (fun K hK => ?_) AllReadyH.nil
            go_simp
            refine (M2.out _ hHeld.2).mono ?_
            rintro e w12 ⟨rfl, hw12⟩
            cases hw12
            go_wp2_with fail
            refine hK.out _ _ (by assumption) (fun hHeld => ?_)
            clear hK K
            try simp only [Act.put, List.setIfInBounds_toArray, List.set_cons_zero, List.set_cons_succ]
            refine take' (i := 26) (d := some 82) (v := ?_) rfl rfl (by kernel_rfl) (by kernel_rfl) (by kernel_rfl) (fun _ _ _ h => h) (Or.inl ⟨by rfl, ?_⟩) (by assumption) ?_
            rotate_left
            · intro w hSw; (try dsimp only at hSw); go_simp; try with_reducible rfl
            try simp only [Act.put, List.setIfInBounds_toArray, List.set_cons_zero, List.set_cons_succ]
            refine take' (i := 27) (d := some 83) (v := ?_) rfl rfl (by kernel_rfl) (by kernel_rfl) (by kernel_rfl) (fun _ _ _ h => h) (Or.inl ⟨by rfl, ?_⟩) (by assumption) ?_
            rotate_left
            · intro w hSw; (try dsimp only at hSw); go_simp; try with_reducible rfl
            try simp only [Act.put, List.setIfInBounds_toArray, List.set_cons_zero, List.set_cons_succ]
            refine take' (i := 28) (d := some 84) (v := ?_) rfl rfl (by kernel_rfl) (by kernel_rfl) (by kernel_rfl) (fun _ _ _ h => h) (Or.inl ⟨by rfl, ?_⟩) (by assumption) ?_
            rotate_left
            · intro w hSw; (try dsimp only at hSw); go_simp; try with_reducible rfl
            try simp only [Act.put, List.setIfInBounds_toArray, List.set_cons_zero, List.set_cons_succ]
            refine take' (i := 30) (d := some 86) (v := ?_) rfl rfl (by kernel_rfl) (by kernel_rfl) (by kernel_rfl) (fun _ _ _ h => h) (Or.inl ⟨by rfl, ?_⟩) (by assumption) ?_
            rotate_left
            · intro w hSw; (try dsimp only at hSw); go_simp; try with_reducible rfl
            try simp only [Act.put, List.setIfInBounds_toArray, List.set_cons_zero, List.set_cons_succ]
            generalize w9.drew = x0 at *
            have z0 := hHeld.2.size
            refine wpAnyH_ready (rs := [29, 32]) (by kernel_rfl) (by simp) ?_
            refine AllReadyH.cons (o := _) rfl (fun K hK => ?_) ?_
            · go_simp
              refine hK.out _ _ (held_two hbm9 hbl9 hHeld (alloc_b _ _ z0)) (fun hHeld => ?_)
              clear hK K
              try simp only [Act.put, List.setIfInBounds_toArray, List.set_cons_zero, List.set_cons_succ]
              have e1 := own_low (own_empty x0 3 1) (Nat.zero_le _)
              have z1 := Hid.intro (size_alloc x0 (.cells #[] 3))
              obtain ⟨x1, hx1⟩ : ∃ x1, x0.alloc (.cells #[] 3) = x1 := ⟨_, rfl⟩
              rw [hx1] at e1 z1 hHeld ⊢
              clear hx1
              refine wpAnyH_ready (rs := [31, 32]) (by kernel_rfl) (by simp) ?_
              refine AllReadyH.cons (o := _) rfl (fun K hK => ?_) ?_
              · refine step_pushG (by rfl) (.tmp 85) (.tmp 86) 22 rfl 3 i0 (.int .i64 0) 1 8 Try.underlying22 hi0 hz0 hs0 hb0 rfl (by decide) (by decide) (.slice (some ⟨x0.heap.size, 0, none⟩) 0 0) 0 [] rfl e1 ⟨bl, 0, none⟩ 65 cl (ni L) rfl NL.out (LC.out _ hHeld.2) (ivs_one _) (by omega) ?_
                intro v2 x2 g1 g2 g3
                have f2 := moved_from (B := w9.heap.size) g3 z0 (by have := z1.out; omega)
                have bl2 := grown_b (B := w9.heap.size) g2 (by have := z1.out; omega) z0
                rw [Nat.zero_add, List.nil_append] at g1
                obtain ⟨b2, c2, rfl⟩ := own_slice g1 (by omega)
                have hb2 : w9.heap.size ≤ b2 := f2 b2 rfl
                refine hK.out _ _ (held_two hbm9 hbl9 hHeld bl2) (fun hHeld => ?_)
                clear hK K g2 g3 f2
                try simp only [Act.put, List.setIfInBounds_toArray]
                have z2 := hHeld.2.size
                refine wpAnyH_ready (rs := [32]) (by kernel_rfl) (by simp) ?_
                refine AllReadyH.cons (o := _) rfl (fun K hK => ?_) AllReadyH.nil
                go_simp
                refine hK.out _ _ (held_two hbm9 hbl9 hHeld (alloc_b _ _ z2)) (fun hHeld => ?_)
                clear hK K
                try simp only [Act.put, List.setIfInBounds_toArray, List.set_cons_zero, List.set_cons_succ]
                have o3 := World.ownsRow.alloc g1 (.cells #[.int .i64 0] 3)
                have bk3 := blk_new x2 #[.int .i64 0] 3
                obtain ⟨x3, hx3⟩ : ∃ x3, x2.alloc (.cells #[.int .i64 0] 3) = x3 := ⟨_, rfl⟩
                rw [hx3] at o3 bk3 hHeld ⊢
                clear hx3 g1
                refine wpAnyH_ready (rs := [33]) (by kernel_rfl) (by simp) ?_
                refine AllReadyH.cons (o := _) rfl (fun K hK => ?_) AllReadyH.nil
                refine step_pushG (by rfl) (.tmp 87) (.tmp 88) 22 rfl 3 i0 (.int .i64 0) 1 8 Try.underlying22 hi0 hz0 hs0 hb0 rfl (by decide) (by decide) (.slice (some ⟨b2, 0, none⟩) 65 c2) 65 (ni L) rfl o3 ⟨x2.heap.size, 0, none⟩ 1 1 [.int .i64 0] rfl rfl (one_blk bk3) (by intro u hu; simp at hu; subst hu; rfl) (by omega) ?_
                intro v4 x4 g1 g2 g3
                have bl4 := grown_b (B := w9.heap.size) g2 hHeld.2.size hb2
                rw [six_ivs] at g1
                obtain ⟨b4, c4, rfl⟩ := own_slice g1 (by omega)
                refine hK.out _ _ (held_two hbm9 hbl9 hHeld bl4) (fun hHeld => ?_)
                clear hK K g2 g3
                try simp only [Act.put, List.setIfInBounds_toArray]
                refine wpAnyH_ready (rs := [34]) (by kernel_rfl) (by simp) ?_
                refine AllReadyH.cons (o := _) rfl (fun K hK => ?_) AllReadyH.nil
                go_simp
                refine (M3.out _ b4 c4 _ g1).mono ?_
                rintro e x5 ⟨rfl, hx5⟩
                cases hx5
                go_wp2_with fail
                refine hK.out _ _ (by assumption) (fun hHeld => ?_)
                clear hK K
                try simp only [Act.put, List.setIfInBounds_toArray, List.set_cons_zero, List.set_cons_succ]
                refine take' (i := 35) (d := some 91) (v := ?_) rfl rfl (by kernel_rfl) (by kernel_rfl) (by kernel_rfl) (fun _ _ _ h => h) (Or.inl ⟨by rfl, ?_⟩) (by assumption) ?_
                rotate_left
                · intro w hSw; (try dsimp only at hSw); go_simp; try with_reducible rfl
                try simp only [Act.put, List.setIfInBounds_toArray, List.set_cons_zero, List.set_cons_succ]
                refine take' (i := 36) (d := some 92) (v := ?_) rfl rfl (by kernel_rfl) (by kernel_rfl) (by kernel_rfl) (fun _ _ _ h => h) (Or.inl ⟨by rfl, ?_⟩) (by assumption) ?_
                rotate_left
                · intro w hSw; (try dsimp only at hSw); go_simp; try with_reducible rfl
                try simp only [Act.put, List.setIfInBounds_toArray, List.set_cons_zero, List.set_cons_succ]
                refine take' (i := 37) (d := some 93) (v := ?_) rfl rfl (by kernel_rfl) (by kernel_rfl) (by kernel_rfl) (fun _ _ _ h => h) (Or.inl ⟨by rfl, ?_⟩) (by assumption) ?_
                rotate_left
                · intro w hSw; (try dsimp only at hSw); go_simp; try with_reducible rfl
                try simp only [Act.put, List.setIfInBounds_toArray, List.set_cons_zero, List.set_cons_succ]
                refine wpAnyH_ready (rs := [38]) (by kernel_rfl) (by simp) ?_
                refine AllReadyH.cons (o := _) rfl (fun K hK => ?_) AllReadyH.nil
                go_simp
                refine (AW.out _).mono ?_
                rintro e x6 ⟨rfl, ba⟩
                go_wp2_with fail
                refine hK.out _ _ (held_two hbm9 hbl9 hHeld (ba.mono hHeld.2.size)) (fun hHeld => ?_)
                clear hK K
                try simp only [Act.put, List.setIfInBounds_toArray, List.set_cons_zero, List.set_cons_succ]
                refine take' (i := 39) (d := some 95) (v := ?_) rfl rfl (by kernel_rfl) (by kernel_rfl) (by kernel_rfl) (fun _ _ _ h => h) (Or.inl ⟨by rfl, ?_⟩) (by assumption) ?_
                rotate_left
                · intro w hSw; (try dsimp only at hSw); go_simp; try with_reducible rfl
                try simp only [Act.put, List.setIfInBounds_toArray, List.set_cons_zero, List.set_cons_succ]
                refine take' (i := 40) (d := some 6) (v := ?_) rfl rfl (by kernel_rfl) (by kernel_rfl) (by kernel_rfl) (fun _ _ _ h => h) (Or.inl ⟨by rfl, ?_⟩) (by assumption) ?_
                rotate_left
                · intro w hSw; (try dsimp only at hSw); go_simp; try with_reducible rfl
                try simp only [Act.put, List.setIfInBounds_toArray, List.set_cons_zero, List.set_cons_succ]
                refine wpAnyH_done (by kernel_rfl) ?_ _
                have B10 := Hid.intro (B9.out.trans (hHeld.2.mono B9.out.size))
                clear hHeld
                go_wp2_with fail
                go_ret
                exact ⟨rfl, B10.out⟩
              refine AllReadyH.cons (o := _) rfl (fun K hK => ?_) AllReadyH.nil
              go_simp
              refine hK.out _ _ (held_two hbm9 hbl9 hHeld (alloc_b _ _ (by have := z1.out; omega))) (fun hHeld => ?_)
              clear hK K
              try simp only [Act.put, List.setIfInBounds_toArray, List.set_cons_zero, List.set_cons_succ]
              have e2 := World.ownsRow.alloc e1 (.cells #[.int .i64 0] 3)
              have bk2 := blk_new x1 #[.int .i64 0] 3
              have z2 := Hid.intro (size_alloc x1 (.cells #[.int .i64 0] 3))
              obtain ⟨x2, hx2⟩ : ∃ x2, x1.alloc (.cells #[.int .i64 0] 3) = x2 := ⟨_, rfl⟩
              rw [hx2] at e2 bk2 z2 hHeld ⊢
              clear hx2 e1
              refine wpAnyH_ready (rs := [31]) (by kernel_rfl) (by simp) ?_
              refine AllReadyH.cons (o := _) rfl (fun K hK => ?_) AllReadyH.nil
              refine step_pushG (by rfl) (.tmp 85) (.tmp 86) 22 rfl 3 i0 (.int .i64 0) 1 8 Try.underlying22 hi0 hz0 hs0 hb0 rfl (by decide) (by decide) (.slice (some ⟨x0.heap.size, 0, none⟩) 0 0) 0 [] rfl e2 ⟨bl, 0, none⟩ 65 cl (ni L) rfl NL.out (LC.out _ hHeld.2) (ivs_one _) (by omega) ?_
              intro v3 x3 g1 g2 g3
              have f3 := moved_from (B := w9.heap.size) g3 (by have := z1.out; omega) (by have := z1.out; have := z2.out; omega)
              have bl3 := grown_b (B := w9.heap.size) g2 (by have := z1.out; have := z2.out; omega) (by have := z1.out; omega)
              have bk3 := blk_grown bk2 g2 (by have := z1.out; simp [Value.ownBlock]; omega)
              rw [Nat.zero_add, List.nil_append] at g1
              obtain ⟨b2, c2, rfl⟩ := own_slice g1 (by omega)
              have hb2 : w9.heap.size ≤ b2 := f3 b2 rfl
              refine hK.out _ _ (held_two hbm9 hbl9 hHeld bl3) (fun hHeld => ?_)
              clear hK K g2 g3 f3
              try simp only [Act.put, List.setIfInBounds_toArray]
              have o3 := g1
              refine wpAnyH_ready (rs := [33]) (by kernel_rfl) (by simp) ?_
              refine AllReadyH.cons (o := _) rfl (fun K hK => ?_) AllReadyH.nil
              refine step_pushG (by rfl) (.tmp 87) (.tmp 88) 22 rfl 3 i0 (.int .i64 0) 1 8 Try.underlying22 hi0 hz0 hs0 hb0 rfl (by decide) (by decide) (.slice (some ⟨b2, 0, none⟩) 65 c2) 65 (ni L) rfl o3 ⟨x1.heap.size, 0, none⟩ 1 1 [.int .i64 0] rfl rfl (one_blk bk3) (by intro u hu; simp at hu; subst hu; rfl) (by omega) ?_
              intro v4 x4 g1 g2 g3
              have bl4 := grown_b (B := w9.heap.size) g2 hHeld.2.size hb2
              rw [six_ivs] at g1
              obtain ⟨b4, c4, rfl⟩ := own_slice g1 (by omega)
              refine hK.out _ _ (held_two hbm9 hbl9 hHeld bl4) (fun hHeld => ?_)
              clear hK K g2 g3
              try simp only [Act.put]
              refine wpAnyH_ready (rs := [34]) (by kernel_rfl) (by simp) ?_
              refine AllReadyH.cons (o := _) rfl (fun K hK => ?_) AllReadyH.nil
              go_simp
              refine (M3.out _ b4 c4 _ g1).mono ?_
              rintro e x5 ⟨rfl, hx5⟩
              cases hx5
              go_wp2_with fail
              refine hK.out _ _ (by assumption) (fun hHeld => ?_)
              clear hK K
              try simp only [Act.put, List.setIfInBounds_toArray, List.set_cons_zero, List.set_cons_succ]
              refine take' (i := 35) (d := some 91) (v := ?_) rfl rfl (by kernel_rfl) (by kernel_rfl) (by kernel_rfl) (fun _ _ _ h => h) (Or.inl ⟨by rfl, ?_⟩) (by assumption) ?_
              rotate_left
              · intro w hSw; (try dsimp only at hSw); go_simp; try with_reducible rfl
              try simp only [Act.put, List.setIfInBounds_toArray, List.set_cons_zero, List.set_cons_succ]
              refine take' (i := 36) (d := some 92) (v := ?_) rfl rfl (by kernel_rfl) (by kernel_rfl) (by kernel_rfl) (fun _ _ _ h => h) (Or.inl ⟨by rfl, ?_⟩) (by assumption) ?_
              rotate_left
              · intro w hSw; (try dsimp only at hSw); go_simp; try with_reducible rfl
              try simp only [Act.put, List.setIfInBounds_toArray, List.set_cons_zero, List.set_cons_succ]
              refine take' (i := 37) (d := some 93) (v := ?_) rfl rfl (by kernel_rfl) (by kernel_rfl) (by kernel_rfl) (fun _ _ _ h => h) (Or.inl ⟨by rfl, ?_⟩) (by assumption) ?_
              rotate_left
              · intro w hSw; (try dsimp only at hSw); go_simp; try with_reducible rfl
              try simp only [Act.put, List.setIfInBounds_toArray, List.set_cons_zero, List.set_cons_succ]
              refine wpAnyH_ready (rs := [38]) (by kernel_rfl) (by simp) ?_
              refine AllReadyH.cons (o := _) rfl (fun K hK => ?_) AllReadyH.nil
              go_simp
              refine (AW.out _).mono ?_
              rintro e x6 ⟨rfl, ba⟩
              go_wp2_with fail
              refine hK.out _ _ (held_two hbm9 hbl9 hHeld (ba.mono hHeld.2.size)) (fun hHeld => ?_)
              clear hK K
              try simp only [Act.put, List.setIfInBounds_toArray, List.set_cons_zero, List.set_cons_succ]
              refine take' (i := 39) (d := some 95) (v := ?_) rfl rfl (by kernel_rfl) (by kernel_rfl) (by kernel_rfl) (fun _ _ _ h => h) (Or.inl ⟨by rfl, ?_⟩) (by assumption) ?_
              rotate_left
              · intro w hSw; (try dsimp only at hSw); go_simp; try with_reducible rfl
              try simp only [Act.put, List.setIfInBounds_toArray, List.set_cons_zero, List.set_cons_succ]
              refine take' (i := 40) (d := some 6) (v := ?_) rfl rfl (by kernel_rfl) (by kernel_rfl) (by kernel_rfl) (fun _ _ _ h => h) (Or.inl ⟨by rfl, ?_⟩) (by assumption) ?_
              rotate_left
              · intro w hSw; (try dsimp only at hSw); go_simp; try with_reducible rfl
              try simp only [Act.put, List.setIfInBounds_toArray, List.set_cons_zero, List.set_cons_succ]
              refine wpAnyH_done (by kernel_rfl) ?_ _
              have B10 := Hid.intro (B9.out.trans (hHeld.2.mono B9.out.size))
              clear hHeld
              go_wp2_with fail
              go_ret
              exact ⟨rfl, B10.out⟩
            refine AllReadyH.cons (o := _) rfl (fun K hK => ?_) AllReadyH.nil
            go_simp
            refine hK.out _ _ (held_two hbm9 hbl9 hHeld (alloc_b _ _ z0)) (fun hHeld => ?_)
            clear hK K
            try simp only [Act.put, List.setIfInBounds_toArray, List.set_cons_zero, List.set_cons_succ]
            have bk1 := blk_new x0 #[.int .i64 0] 3
            have z1 := Hid.intro (size_alloc x0 (.cells #[.int .i64 0] 3))
            obtain ⟨x1, hx1⟩ : ∃ x1, x0.alloc (.cells #[.int .i64 0] 3) = x1 := ⟨_, rfl⟩
            rw [hx1] at bk1 z1 hHeld ⊢
            clear hx1
            refine wpAnyH_ready (rs := [29]) (by kernel_rfl) (by simp) ?_
            refine AllReadyH.cons (o := _) rfl (fun K hK => ?_) AllReadyH.nil
            go_simp
            refine hK.out _ _ (held_two hbm9 hbl9 hHeld (alloc_b _ _ (by have := z1.out; omega))) (fun hHeld => ?_)
            clear hK K
            try simp only [Act.put, List.setIfInBounds_toArray, List.set_cons_zero, List.set_cons_succ]
            have e2 := own_low (own_empty x1 3 1) (Nat.zero_le _)
            have bk2 := blk_alloc bk1 (.cells #[] 3)
            have z2 := Hid.intro (size_alloc x1 (.cells #[] 3))
            obtain ⟨x2, hx2⟩ : ∃ x2, x1.alloc (.cells #[] 3) = x2 := ⟨_, rfl⟩
            rw [hx2] at e2 bk2 z2 hHeld ⊢
            clear hx2 bk1
            refine wpAnyH_ready (rs := [31]) (by kernel_rfl) (by simp) ?_
            refine AllReadyH.cons (o := _) rfl (fun K hK => ?_) AllReadyH.nil
            refine step_pushG (by rfl) (.tmp 85) (.tmp 86) 22 rfl 3 i0 (.int .i64 0) 1 8 Try.underlying22 hi0 hz0 hs0 hb0 rfl (by decide) (by decide) (.slice (some ⟨x1.heap.size, 0, none⟩) 0 0) 0 [] rfl e2 ⟨bl, 0, none⟩ 65 cl (ni L) rfl NL.out (LC.out _ hHeld.2) (ivs_one _) (by omega) ?_
            intro v3 x3 g1 g2 g3
            have f3 := moved_from (B := w9.heap.size) g3 (by have := z1.out; omega) (by have := z1.out; have := z2.out; omega)
            have bl3 := grown_b (B := w9.heap.size) g2 (by have := z1.out; have := z2.out; omega) (by have := z1.out; omega)
            have bk3 := blk_grown bk2 g2 (by have := z1.out; simp [Value.ownBlock]; omega)
            rw [Nat.zero_add, List.nil_append] at g1
            obtain ⟨b2, c2, rfl⟩ := own_slice g1 (by omega)
            have hb2 : w9.heap.size ≤ b2 := f3 b2 rfl
            refine hK.out _ _ (held_two hbm9 hbl9 hHeld bl3) (fun hHeld => ?_)
            clear hK K g2 g3 f3
            try simp only [Act.put, List.setIfInBounds_toArray]
            have o3 := g1
            refine wpAnyH_ready (rs := [33]) (by kernel_rfl) (by simp) ?_
            refine AllReadyH.cons (o := _) rfl (fun K hK => ?_) AllReadyH.nil
            refine step_pushG (by rfl) (.tmp 87) (.tmp 88) 22 rfl 3 i0 (.int .i64 0) 1 8 Try.underlying22 hi0 hz0 hs0 hb0 rfl (by decide) (by decide) (.slice (some ⟨b2, 0, none⟩) 65 c2) 65 (ni L) rfl o3 ⟨x0.heap.size, 0, none⟩ 1 1 [.int .i64 0] rfl rfl (one_blk bk3) (by intro u hu; simp at hu; subst hu; rfl) (by omega) ?_
            intro v4 x4 g1 g2 g3
            have bl4 := grown_b (B := w9.heap.size) g2 hHeld.2.size hb2
            rw [six_ivs] at g1
            obtain ⟨b4, c4, rfl⟩ := own_slice g1 (by omega)
            refine hK.out _ _ (held_two hbm9 hbl9 hHeld bl4) (fun hHeld => ?_)
            clear hK K g2 g3
            try simp only [Act.put]
            refine wpAnyH_ready (rs := [34]) (by kernel_rfl) (by simp) ?_
            refine AllReadyH.cons (o := _) rfl (fun K hK => ?_) AllReadyH.nil
            go_simp
            refine (M3.out _ b4 c4 _ g1).mono ?_
            rintro e x5 ⟨rfl, hx5⟩
            cases hx5
            go_wp2_with fail
            refine hK.out _ _ (by assumption) (fun hHeld => ?_)
            clear hK K
            try simp only [Act.put, List.setIfInBounds_toArray, List.set_cons_zero, List.set_cons_succ]
            refine take' (i := 35) (d := some 91) (v := ?_) rfl rfl (by kernel_rfl) (by kernel_rfl) (by kernel_rfl) (fun _ _ _ h => h) (Or.inl ⟨by rfl, ?_⟩) (by assumption) ?_
            rotate_left
            · intro w hSw; (try dsimp only at hSw); go_simp; try with_reducible rfl
            try simp only [Act.put, List.setIfInBounds_toArray, List.set_cons_zero, List.set_cons_succ]
            refine take' (i := 36) (d := some 92) (v := ?_) rfl rfl (by kernel_rfl) (by kernel_rfl) (by kernel_rfl) (fun _ _ _ h => h) (Or.inl ⟨by rfl, ?_⟩) (by assumption) ?_
            rotate_left
            · intro w hSw; (try dsimp only at hSw); go_simp; try with_reducible rfl
            try simp only [Act.put, List.setIfInBounds_toArray, List.set_cons_zero, List.set_cons_succ]
            refine take' (i := 37) (d := some 93) (v := ?_) rfl rfl (by kernel_rfl) (by kernel_rfl) (by kernel_rfl) (fun _ _ _ h => h) (Or.inl ⟨by rfl, ?_⟩) (by assumption) ?_
            rotate_left
            · intro w hSw; (try dsimp only at hSw); go_simp; try with_reducible rfl
            try simp only [Act.put, List.setIfInBounds_toArray, List.set_cons_zero, List.set_cons_succ]
            refine wpAnyH_ready (rs := [38]) (by kernel_rfl) (by simp) ?_
            refine AllReadyH.cons (o := _) rfl (fun K hK => ?_) AllReadyH.nil
            go_simp
            refine (AW.out _).mono ?_
            rintro e x6 ⟨rfl, ba⟩
            go_wp2_with fail
            refine hK.out _ _ (held_two hbm9 hbl9 hHeld (ba.mono hHeld.2.size)) (fun hHeld => ?_)
            clear hK K
            try simp only [Act.put, List.setIfInBounds_toArray, List.set_cons_zero, List.set_cons_succ]
            refine take' (i := 39) (d := some 95) (v := ?_) rfl rfl (by kernel_rfl) (by kernel_rfl) (by kernel_rfl) (fun _ _ _ h => h) (Or.inl ⟨by rfl, ?_⟩) (by assumption) ?_
            rotate_left
            · intro w hSw; (try dsimp only at hSw); go_simp; try with_reducible rfl
            try simp only [Act.put, List.setIfInBounds_toArray, List.set_cons_zero, List.set_cons_succ]
            refine take' (i := 40) (d := some 6) (v := ?_) rfl rfl (by kernel_rfl) (by kernel_rfl) (by kernel_rfl) (fun _ _ _ h => h) (Or.inl ⟨by rfl, ?_⟩) (by assumption) ?_
            rotate_left
            · intro w hSw; (try dsimp only at hSw); go_simp; try with_reducible rfl
            try simp only [Act.put, List.setIfInBounds_toArray, List.set_cons_zero, List.set_cons_succ]
            refine wpAnyH_done (by kernel_rfl) ?_ _
            have B10 := Hid.intro (B9.out.trans (hHeld.2.mono B9.out.size))
            clear hHeld
            go_wp2_with fail
            go_ret
            exact ⟨rfl, B10.out⟩
end Go.Proofs.Ytgejcdmiihmlfaa
