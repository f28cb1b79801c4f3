/-
  SpreadRefuses: the walk.
-/
import Derived.Test.YteceiinehcjdjaaTt
import Derived.Test.YteceiinehcjdjaaAw
import Derived.Test.YteceiinehcjdjaaCn
import Derived.Test.YteceiinehcjdjaaSc
import Derived.Deep.QuietTactic
import Derived.Deep.RegionWith
import Derived.Deep.RegionHeld3
import Derived.OwnWalk
import Derived.ChangeOld
import Derived.Below
import Derived.BigQuiet
namespace Go.Proofs.Yteceiinehcjdjaa
open Go.ChangeShapes Go.WideShapes Go.ChangeAt Go.RowKit
open Go.ChangeMaps (open_string shut_string)

theorem ref_len {z : Int} {f : List Int} (h : f.length ≠ 65) : may z f = false := by
  unfold may okC
  simp [h]
theorem ref_log {z : Int} {f : List Int} (h : 12 < z) : may z f = false := by
  have : lgB z = false := by unfold lgB; simp; omega
  unfold may; rw [this]; rfl
theorem ref_sum {k : Nat} {M : List Nat} (h : M.sum ≠ 2 ^ k) : may (k : Int) (M.map Int.ofNat) = false := by
  unfold may
  rw [sum_ofNat, show (k : Int).toNat = k from by omega]
  have e2 : (2 : Int) ^ k = ((2 ^ k : Nat) : Int) := by rw [Int.natCast_pow]; rfl
  rw [e2]
  have : ¬ ((M.sum : Nat) : Int) = ((2 ^ k : Nat) : Int) := by omega
  rw [decide_eq_false this, Bool.and_false]
theorem ri_take {W : World} {a : Option Addr} {n : Nat} {zs : List Int} (h : RI W a n zs) (m : Nat) (hm : m ≤ n) : RI W a m (zs.take m) := by
  have hl := h.1
  refine ⟨by rw [List.length_take]; omega, fun h0 => ?_⟩
  obtain ⟨x, hx, hc⟩ := h.2 (by omega)
  refine ⟨x, hx, fun i hi => ?_⟩
  rw [List.length_take] at hi
  rw [hc i (by omega), List.getElem_take]
set_option maxRecDepth 100000 in
set_option maxHeartbeats 4000000 in
theorem refuses_walk (a : Option Addr) (n cap : Nat) (b c : Int) (w : World) (h : RU w a n) (h2 : 0 ≤ b ∧ b ≤ 255) (h3 : 0 ≤ c ∧ c ≤ 255) (hn : n ≤ 9223372036854775807) :
    Calls Try.prog 6 #[.slice a n cap, .int .u8 b, .int .u8 c] w fun e w' => e = .returned (.bool true) ∧ Below w.heap.size w w' := by
  have AW := Hid.intro awake_any
  by_cases hbig : 140 < n
  · clear h
    go_enter Try.func6, Try.ntmps6
    go_wp2_with fail
    with_reducible refine (AW.out _).mono ?_
    rintro e w1 ⟨rfl, b1⟩
    go_wp2_with fail
    go_ret
    exact ⟨rfl, b1⟩
  · have CN := counts_any a n cap b w h h2 (by omega)
    obtain ⟨r, hr⟩ : ∃ r : Nat, c % 4 = (r : Int) := ⟨(c % 4).toNat, by omega⟩
    have hrt : c.tmod 4 = (r : Int) := by rw [Int.tmod_eq_emod_of_nonneg h3.1]; exact hr
    obtain ⟨i0, hi0, hz0, hs0, hb0⟩ := info_all info3
    clear h
    go_enter Try.func6, Try.ntmps6
    go_wp2_with fail
    with_reducible refine CN.mono ?_
    rintro e w1 ⟨v, K, M, rfl, sp, mm, o1, b1⟩
    clear CN
    obtain ⟨bl, cl, rfl⟩ := own_slice o1 (by omega)
    have ML := Hid.intro sp.len
    have MS := Hid.intro sp.sum
    have O1 := Hid.intro o1
    have B1 := Hid.intro b1
    have K12 := sp.k12
    clear sp mm o1 b1
    rcases (by omega : r = 0 ∨ r = 1 ∨ r = 2 ∨ r = 3) with e | e | e | e
    all_goals subst e
    · -- 66
      have oE : Hid ((w1.alloc (.cells #[] 3)).ownsRow 0 3 1 (.slice (some ⟨w1.heap.size, 0, none⟩) 0 0) 0 []) :=
        own_low (base := w1.heap.size) ⟨by simp, .inr ⟨w1.heap.size, 0, #[], rfl, Nat.le_refl _, blk_new w1 #[] 3, Nat.le_refl _, by decide, by simp, by simp⟩⟩ (Nat.zero_le _)
      have b2 : Below w1.heap.size w1 (w1.alloc (.cells #[] 3)) := (Below.refl _ _).alloc (Nat.le_refl _) _
      have B2 : Hid (Below w.heap.size w (w1.alloc (.cells #[] 3))) := B1.out.trans (b2.mono B1.out.size)
      have NL : Hid ((nis M).length = 65 * 1) := by show _ = _; rw [nis_len, ML.out]
      have LC : Hid (∀ j u, (nis M)[j]? = some u → (w1.alloc (.cells #[] 3)).cell? ((⟨bl, 0, none⟩ : Addr).add j) = some u) := fun j u hu => by
        have o := own_later O1.out b2
        exact o.cells (g := bl) rfl j u hu
      clear b2
      go_wp2_with (at_builtin; refine wpList_push _ rfl (.tmp 29) (.tmp 30) 22 rfl 3 i0 (.int .i64 0) 1 8 Try.underlying22 hi0 hz0 hs0 hb0 rfl (by decide) (by decide) (.slice (some ⟨w1.heap.size, 0, none⟩) 0 0) 0 [] rfl oE.out ⟨bl, 0, none⟩ 65 cl (nis M) rfl NL.out LC.out (ivs_one _) (by omega) ?_)
      intro v' w3 g1 g2 g3
      obtain ⟨b3, c3, rfl⟩ := own_slice g1 (by omega)
      have hb3 : Hid (w.heap.size ≤ b3) := by
        show _ ≤ _
        have := B1.out.size
        rcases g3 b3 rfl with e | e
        · simp [Value.ownBlock] at e; omega
        · simp at e; omega
      have G1 : Hid (w3.ownsRow 0 3 1 (.slice (some ⟨b3, 0, none⟩) 65 c3) 65 (ivs (M.map Int.ofNat))) := Hid.intro (by simpa [nis] using g1)
      have B3 : Hid (Below w.heap.size w w3) := below_grown B2.out g2 B2.out.size (fun j hj => by simp [Value.ownBlock] at hj; have := B1.out.size; omega)
      clear g1 g2 g3
      have A3 : Hid ((w3.alloc (.cells #[.int .i64 0] 3)).ownsRow 0 3 1 (.slice (some ⟨b3, 0, none⟩) 65 c3) 65 (ivs (M.map Int.ofNat))) := World.ownsRow.alloc G1.out _
      have B4 : Hid (Below w.heap.size w (w3.alloc (.cells #[.int .i64 0] 3))) := B3.out.alloc B3.out.size _
      have N3 := Hid.intro (one_new w3 (.int .i64 0) 3)
      go_wp2_with (at_builtin; refine wpList_push _ rfl (.tmp 31) (.tmp 32) 22 rfl 3 i0 (.int .i64 0) 1 8 Try.underlying22 hi0 hz0 hs0 hb0 rfl (by decide) (by decide) (.slice (some ⟨b3, 0, none⟩) 65 c3) 65 _ rfl A3.out ⟨w3.heap.size, 0, none⟩ 1 1 [.int .i64 0] rfl rfl N3.out (by intro u hu; simp at hu; subst hu; rfl) (by omega) ?_)
      intro v' w4 g1 g2 g3
      obtain ⟨b4, c4, rfl⟩ := own_slice g1 (by omega)
      have G4 : Hid (w4.ownsRow 0 3 1 (.slice (some ⟨b4, 0, none⟩) 66 c4) 66 (ivs (M.map Int.ofNat ++ [0]))) := Hid.intro (by simpa [ivs, iv] using g1)
      have BX : Hid (Below w.heap.size w w4) := below_grown B4.out g2 B4.out.size (fun j hj => by simp [Value.ownBlock] at hj; have := hb3.out; omega)
      have RX : Hid (∀ W, Below w4.heap.size w4 W → RI W (some ⟨b4, 0, none⟩) 66 (M.map Int.ofNat ++ [0])) := fun W hW => own_ri' (own_later G4.out hW)
      have NO : Hid (may (K : Int) (M.map Int.ofNat ++ [0]) = false) := ref_len (by simp; have := ML.out; omega)
      clear g1 g2 g3
      have S1 := spread_any (some ⟨b4, 0, none⟩) 66 c4 (M.map Int.ofNat ++ [0]) (K : Int) w4 (RX.out _ (Below.refl _ _)) (by omega)
      rw [sprA_no NO.out] at S1
      have T1 : Hid (∀ W, Below w4.heap.size w4 W → Calls Try.prog 11 #[.slice (some ⟨b4, 0, none⟩) 66 c4, .int .i64 (K : Int)] W fun e W' => TbPost (3, []) W e W') := fun W hW => by have := table_any (some ⟨b4, 0, none⟩) 66 c4 (M.map Int.ofNat ++ [0]) (K : Int) W (RX.out W hW) (by omega); rw [tabA_no NO.out] at this; exact this
      clear RX NO
      go_wp2_with fail
      with_reducible refine S1.mono ?_
      rintro e w5 ⟨v5, rfl, o5, b5⟩
      clear S1
      have o5' : w5.ownsRow _ 3 1 v5 0 (ivs []) := o5
      obtain ⟨a5, c5, rfl, -, -, -⟩ := own_ri (zs := []) o5'
      clear o5 o5'
      have T5 := T1.out w5 b5
      have B5 : Hid (Below w.heap.size w w5) := BX.out.trans (b5.mono BX.out.size)
      clear b5 T1
      simp only
      go_wp2_with fail
      with_reducible refine T5.mono ?_
      rintro e w6 ⟨v6, rfl, o6, b6⟩
      clear T5
      obtain ⟨a6, c6, rfl, -⟩ := own_rc (l := []) o6
      have B6 : Hid (Below w.heap.size w w6) := B5.out.trans (b6.mono B5.out.size)
      clear b6 o6
      simp only
      go_wp2_with fail
      with_reducible refine (err_i _ _).mono ?_
      rintro e w9 ⟨rfl, hw9⟩
      cases hw9
      go_wp2_with fail
      with_reducible refine (err_i _ _).mono ?_
      rintro e w9 ⟨rfl, hw9⟩
      cases hw9
      go_wp2_with fail
      with_reducible refine (AW.out _).mono ?_
      rintro e w7 ⟨rfl, b7⟩
      have B7 : Hid (Below w.heap.size w w7) := B6.out.trans (b7.mono B6.out.size)
      clear b7
      go_wp2_with fail
      go_ret
      exact ⟨rfl, B7.out⟩
    · -- one more
      have oE : Hid ((w1.alloc (.cells #[] 3)).ownsRow 0 3 1 (.slice (some ⟨w1.heap.size, 0, none⟩) 0 0) 0 []) :=
        own_low (base := w1.heap.size) ⟨by simp, .inr ⟨w1.heap.size, 0, #[], rfl, Nat.le_refl _, blk_new w1 #[] 3, Nat.le_refl _, by decide, by simp, by simp⟩⟩ (Nat.zero_le _)
      have b2 : Below w1.heap.size w1 (w1.alloc (.cells #[] 3)) := (Below.refl _ _).alloc (Nat.le_refl _) _
      have B2 : Hid (Below w.heap.size w (w1.alloc (.cells #[] 3))) := B1.out.trans (b2.mono B1.out.size)
      have NL : Hid ((nis M).length = 65 * 1) := by show _ = _; rw [nis_len, ML.out]
      have LC : Hid (∀ j u, (nis M)[j]? = some u → (w1.alloc (.cells #[] 3)).cell? ((⟨bl, 0, none⟩ : Addr).add j) = some u) := fun j u hu => by
        have o := own_later O1.out b2
        exact o.cells (g := bl) rfl j u hu
      clear b2
      go_wp2_with (at_builtin; refine wpList_push _ rfl (.tmp 36) (.tmp 37) 22 rfl 3 i0 (.int .i64 0) 1 8 Try.underlying22 hi0 hz0 hs0 hb0 rfl (by decide) (by decide) (.slice (some ⟨w1.heap.size, 0, none⟩) 0 0) 0 [] rfl oE.out ⟨bl, 0, none⟩ 65 cl (nis M) rfl NL.out LC.out (ivs_one _) (by omega) ?_)
      intro v' w3 g1 g2 g3
      obtain ⟨b3, c3, rfl⟩ := own_slice g1 (by omega)
      have hb3 : Hid (w.heap.size ≤ b3) := by
        show _ ≤ _
        have := B1.out.size
        rcases g3 b3 rfl with e | e
        · simp [Value.ownBlock] at e; omega
        · simp at e; omega
      have G1 : Hid (w3.ownsRow 0 3 1 (.slice (some ⟨b3, 0, none⟩) 65 c3) 65 (ivs (M.map Int.ofNat))) := Hid.intro (by simpa [nis] using g1)
      have B3 : Hid (Below w.heap.size w w3) := below_grown B2.out g2 B2.out.size (fun j hj => by simp [Value.ownBlock] at hj; have := B1.out.size; omega)
      clear g1 g2 g3
      have ct := own_there G1.out 2 (by omega)
      have c2 : w3.cell? ⟨b3, 2, none⟩ = some (.int .i64 (g M 2 : Nat)) := by
        have : w3.ownsRow 0 3 1 (.slice (some ⟨b3, 0, none⟩) 65 c3) 65 (nis M) := G1.out
        exact nis_at this 2 (by omega)
      have f2 := ct.2.2
      have y4 : g M 2 ≤ 4096 := by
        have h := le_sum M (g M 2) (g_mem M 2 (by rw [ML.out]; omega))
        rw [MS.out] at h
        have := pow_bd K K12
        omega
      have G4 : Hid ((w3.setCell ⟨b3, 2, none⟩ (.int .i64 ((g M 2 : Nat) + 1))).ownsRow 0 3 1 (.slice (some ⟨b3, 0, none⟩) 65 c3) 65 (nis (M.set 2 (g M 2 + 1)))) := by
        have := own_set (show w3.ownsRow 0 3 1 (.slice (some ⟨b3, 0, none⟩) 65 c3) 65 (nis M) from G1.out) 2 (.int .i64 ((g M 2 + 1 : Nat) : Int))
        rw [nis_set] at this
        exact this
      have BX : Hid (Below w.heap.size w (w3.setCell ⟨b3, 2, none⟩ (.int .i64 ((g M 2 : Nat) + 1)))) := B3.out.setCell (p := ⟨b3, 2, none⟩) hb3.out _
      have NO : Hid (may (K : Int) ((M.set 2 (g M 2 + 1)).map Int.ofNat) = false) := ref_sum (by
        have := sum_set M 2 (g M 2 + 1) (by rw [ML.out]; omega)
        have e := MS.out
        have : M.getD 2 0 = g M 2 := rfl
        omega)
      obtain ⟨F, hF⟩ : ∃ F, (M.set 2 (g M 2 + 1)).map Int.ofNat = F := ⟨_, rfl⟩
      have RX : Hid (∀ W, Below (w3.setCell ⟨b3, 2, none⟩ (.int .i64 ((g M 2 : Nat) + 1))).heap.size (w3.setCell ⟨b3, 2, none⟩ (.int .i64 ((g M 2 : Nat) + 1))) W → RI W (some ⟨b3, 0, none⟩) 65 F) := fun W hW => by
        have o := own_later G4.out hW
        rw [nis_map, hF] at o
        exact own_ri' o
      rw [hF] at NO
      clear G4 G1 ct hF
      generalize g M 2 = y at *
      have S1 := spread_any (some ⟨b3, 0, none⟩) 65 c3 F (K : Int) (w3.setCell ⟨b3, 2, none⟩ (.int .i64 ((y : Nat) + 1))) (RX.out _ (Below.refl _ _)) (by omega)
      rw [sprA_no NO.out] at S1
      have T1 : Hid (∀ W, Below (w3.setCell ⟨b3, 2, none⟩ (.int .i64 ((y : Nat) + 1))).heap.size (w3.setCell ⟨b3, 2, none⟩ (.int .i64 ((y : Nat) + 1))) W → Calls Try.prog 11 #[.slice (some ⟨b3, 0, none⟩) 65 c3, .int .i64 (K : Int)] W fun e W' => TbPost (3, []) W e W') := fun W hW => by have := table_any (some ⟨b3, 0, none⟩) 65 c3 F (K : Int) W (RX.out W hW) (by omega); rw [tabA_no NO.out] at this; exact this
      clear RX NO
      go_wp2_with fail
      with_reducible refine S1.mono ?_
      rintro e w5 ⟨v5, rfl, o5, b5⟩
      clear S1
      have o5' : w5.ownsRow _ 3 1 v5 0 (ivs []) := o5
      obtain ⟨a5, c5, rfl, -, -, -⟩ := own_ri (zs := []) o5'
      clear o5 o5'
      have T5 := T1.out w5 b5
      have B5 : Hid (Below w.heap.size w w5) := BX.out.trans (b5.mono BX.out.size)
      clear b5 T1
      simp only
      go_wp2_with fail
      with_reducible refine T5.mono ?_
      rintro e w6 ⟨v6, rfl, o6, b6⟩
      clear T5
      obtain ⟨a6, c6, rfl, -⟩ := own_rc (l := []) o6
      have B6 : Hid (Below w.heap.size w w6) := B5.out.trans (b6.mono B5.out.size)
      clear b6 o6
      simp only
      go_wp2_with fail
      with_reducible refine (err_i _ _).mono ?_
      rintro e w9 ⟨rfl, hw9⟩
      cases hw9
      go_wp2_with fail
      with_reducible refine (err_i _ _).mono ?_
      rintro e w9 ⟨rfl, hw9⟩
      cases hw9
      go_wp2_with fail
      with_reducible refine (AW.out _).mono ?_
      rintro e w7 ⟨rfl, b7⟩
      have B7 : Hid (Below w.heap.size w w7) := B6.out.trans (b7.mono B6.out.size)
      clear b7
      go_wp2_with fail
      go_ret
      exact ⟨rfl, B7.out⟩
    · -- log 13
      have RX : Hid (∀ W, Below w1.heap.size w1 W → RI W (some ⟨bl, 0, none⟩) 65 (M.map Int.ofNat)) := fun W hW => own_ri' (show W.ownsRow w.heap.size 3 1 (.slice (some ⟨bl, 0, none⟩) 65 cl) 65 (ivs (M.map Int.ofNat)) from own_later O1.out hW)
      have NO : Hid (may 13 (M.map Int.ofNat) = false) := ref_log (by omega)
      have BX := B1
      have S1 := spread_any (some ⟨bl, 0, none⟩) 65 cl (M.map Int.ofNat) 13 w1 (RX.out _ (Below.refl _ _)) (by omega)
      rw [sprA_no NO.out] at S1
      have T1 : Hid (∀ W, Below w1.heap.size w1 W → Calls Try.prog 11 #[.slice (some ⟨bl, 0, none⟩) 65 cl, .int .i64 13] W fun e W' => TbPost (3, []) W e W') := fun W hW => by have := table_any (some ⟨bl, 0, none⟩) 65 cl (M.map Int.ofNat) 13 W (RX.out W hW) (by omega); rw [tabA_no NO.out] at this; exact this
      clear RX NO
      go_wp2_with fail
      with_reducible refine S1.mono ?_
      rintro e w5 ⟨v5, rfl, o5, b5⟩
      clear S1
      have o5' : w5.ownsRow _ 3 1 v5 0 (ivs []) := o5
      obtain ⟨a5, c5, rfl, -, -, -⟩ := own_ri (zs := []) o5'
      clear o5 o5'
      have T5 := T1.out w5 b5
      have B5 : Hid (Below w.heap.size w w5) := BX.out.trans (b5.mono BX.out.size)
      clear b5 T1
      simp only
      go_wp2_with fail
      with_reducible refine T5.mono ?_
      rintro e w6 ⟨v6, rfl, o6, b6⟩
      clear T5
      obtain ⟨a6, c6, rfl, -⟩ := own_rc (l := []) o6
      have B6 : Hid (Below w.heap.size w w6) := B5.out.trans (b6.mono B5.out.size)
      clear b6 o6
      simp only
      go_wp2_with fail
      with_reducible refine (err_i _ _).mono ?_
      rintro e w9 ⟨rfl, hw9⟩
      cases hw9
      go_wp2_with fail
      with_reducible refine (err_i _ _).mono ?_
      rintro e w9 ⟨rfl, hw9⟩
      cases hw9
      go_wp2_with fail
      with_reducible refine (AW.out _).mono ?_
      rintro e w7 ⟨rfl, b7⟩
      have B7 : Hid (Below w.heap.size w w7) := B6.out.trans (b7.mono B6.out.size)
      clear b7
      go_wp2_with fail
      go_ret
      exact ⟨rfl, B7.out⟩
    · -- 64
      have RX : Hid (∀ W, Below w1.heap.size w1 W → RI W (some ⟨bl, 0, none⟩) 64 ((M.map Int.ofNat).take 64)) := fun W hW => ri_take (own_ri' (show W.ownsRow w.heap.size 3 1 (.slice (some ⟨bl, 0, none⟩) 65 cl) 65 (ivs (M.map Int.ofNat)) from own_later O1.out hW)) 64 (by omega)
      have NO : Hid (may (K : Int) ((M.map Int.ofNat).take 64) = false) := ref_len (by rw [List.length_take, List.length_map, ML.out]; omega)
      have BX := B1
      have c64 : Hid (64 ≤ cl) := by
        obtain ⟨_, _, e, hc, -⟩ := own_ri (show w1.ownsRow w.heap.size 3 1 (.slice (some ⟨bl, 0, none⟩) 65 cl) 65 (ivs (M.map Int.ofNat)) from O1.out)
        injection e with e1 e2 e3
        show _ ≤ _
        omega
      have c64' := c64.out
      have S1 := spread_any (some ⟨bl, 0, none⟩) 64 cl ((M.map Int.ofNat).take 64) (K : Int) w1 (RX.out _ (Below.refl _ _)) (by omega)
      rw [sprA_no NO.out] at S1
      have T1 : Hid (∀ W, Below w1.heap.size w1 W → Calls Try.prog 11 #[.slice (some ⟨bl, 0, none⟩) 64 cl, .int .i64 (K : Int)] W fun e W' => TbPost (3, []) W e W') := fun W hW => by have := table_any (some ⟨bl, 0, none⟩) 64 cl ((M.map Int.ofNat).take 64) (K : Int) W (RX.out W hW) (by omega); rw [tabA_no NO.out] at this; exact this
      clear RX NO
      go_wp2_with fail
      with_reducible refine S1.mono ?_
      rintro e w5 ⟨v5, rfl, o5, b5⟩
      clear S1
      have o5' : w5.ownsRow _ 3 1 v5 0 (ivs []) := o5
      obtain ⟨a5, c5, rfl, -, -, -⟩ := own_ri (zs := []) o5'
      clear o5 o5'
      have T5 := T1.out w5 b5
      have B5 : Hid (Below w.heap.size w w5) := BX.out.trans (b5.mono BX.out.size)
      clear b5 T1
      simp only
      go_wp2_with fail
      with_reducible refine T5.mono ?_
      rintro e w6 ⟨v6, rfl, o6, b6⟩
      clear T5
      obtain ⟨a6, c6, rfl, -⟩ := own_rc (l := []) o6
      have B6 : Hid (Below w.heap.size w w6) := B5.out.trans (b6.mono B5.out.size)
      clear b6 o6
      simp only
      go_wp2_with fail
      with_reducible refine (err_i _ _).mono ?_
      rintro e w9 ⟨rfl, hw9⟩
      cases hw9
      go_wp2_with fail
      with_reducible refine (err_i _ _).mono ?_
      rintro e w9 ⟨rfl, hw9⟩
      cases hw9
      go_wp2_with fail
      with_reducible refine (AW.out _).mono ?_
      rintro e w7 ⟨rfl, b7⟩
      have B7 : Hid (Below w.heap.size w w7) := B6.out.trans (b7.mono B6.out.size)
      clear b7
      go_wp2_with fail
      go_ret
      exact ⟨rfl, B7.out⟩
end Go.Proofs.Yteceiinehcjdjaa
