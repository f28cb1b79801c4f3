/-
  CanonOrder's walk: codes, filled up, rise, and the last one is all ones.
-/
import Derived.Test.YtgejcdmiihmlfaaOm
import Derived.Test.YtgejcdmiihmlfaaCw
import Derived.Test.YtgejcdmiihmlfaaPz
import Derived.BigRegion
namespace Go.Proofs.Ytgejcdmiihmlfaa
open Go.ChangeShapes Go.WideShapes Go.ChangeAt Go.RowKit
open Go.ChangeMaps (open_string shut_string)

def RB (w : World) (a : Option Addr) (n : Nat) : Prop := 0 < n → ∃ x, a = some x ∧ ∀ i, i < n → ∃ z : Int, 0 ≤ z ∧ z ≤ 255 ∧ w.cell? (x.add i) = some (.int .u8 z)
def O1Rel (n : Nat) (w : World) (lv iv : Value) (wr : World) : Prop :=
  ∃ (i : Nat) (l : List Nat), i ≤ n ∧ iv = .int .i64 i ∧ wr.ownsRow 0 3 1 lv l.length (ni l) ∧ From w.heap.size lv ∧ Cut l ∧ Below w.heap.size w wr
def O2Rel (L : List Nat) (w : World) (av nv : Value) (wr : World) : Prop := ∃ n : Nat, n ≤ 15 ∧ nv = .int .i64 ((n + 1 : Nat) : Int) ∧ av = .int .i64 ((acc ((byLen L n).map (at0 L)) : Nat) - 1 : Int) ∧ wr = w
def O3Rel (L : List Nat) (n m : Nat) (w : World) (av iv : Value) (wr : World) : Prop := ∃ i : Nat, i ≤ m ∧ iv = .int .i64 i ∧ av = .int .i64 ((acc ((pre2 L n i).map (at0 L)) : Nat) - 1 : Int) ∧ wr = w
theorem own_lit1 (w : World) (x : Value) : (w.alloc (.cells #[x] 3)).ownsRow w.heap.size 3 1 (.slice (some ⟨w.heap.size, 0, none⟩) 1 1) 1 [x] :=
  ⟨rfl, .inr ⟨w.heap.size, 1, #[x], rfl, Nat.le_refl _, blk_new w #[x] 3, Nat.le_refl _, by decide, rfl, rfl⟩⟩
set_option maxRecDepth 100000 in
set_option maxHeartbeats 4000000 in
theorem order_walk (a : Option Addr) (n cap : Nat) (w : World) (h : RB w a n) (hn : n ≤ 9223372036854775807) :
    Calls Try.prog 6 #[.slice a n cap] w fun e w' => e = .returned (.bool true) ∧ Below w.heap.size w w' := by
  obtain ⟨i0, hi0, hz0, hs0, hb0⟩ := info_all info3
  have ST : Hid (O1Rel n w (.slice (some ⟨w.heap.size, 0, none⟩) 1 1) (.int .i64 0) (w.alloc (.cells #[.int .i64 0] 3))) :=
    ⟨0, [0], by omega, rfl, own_low (own_lit1 w (.int .i64 0)) (Nat.zero_le _), fun k hk => by simp [Value.ownBlock] at hk; omega, cut_zero, (Below.refl _ _).alloc (Nat.le_refl _) _⟩
  have HX := Hid.intro h
  clear h
  go_enter Try.func6, Try.ntmps6
  go_wp2_with fail
  generalize w.alloc (.cells #[.int .i64 0] 3) = w1 at *
  generalize Value.slice (some ⟨w.heap.size, 0, none⟩) 1 1 = v1 at *
  go_loopw [3, 4] (fun lv iv wr => O1Rel n w lv iv wr) (fun _ iv _ => n - (intOf iv).toNat)
  case atStart => exact ST.out
  case round =>
    clear ST
    obtain ⟨i, l, hi, rfl, d1, d2, d3, d4⟩ := hrel
    obtain ⟨m, hm⟩ : ∃ m, l.length = m := ⟨_, rfl⟩
    have hm1 : 1 ≤ m := by rw [← hm]; exact d3.1
    have hm60 : m ≤ 60 := by rw [← hm]; exact d3.2.1
    obtain ⟨g, capl, rfl⟩ := own_slice d1 (by omega)
    rw [hm] at d1 d2 ⊢
    have HM := Hid.intro hm
    have hgw : w.heap.size ≤ g := d2 g rfl
    clear hm
    by_cases hlt : i < n ∧ m < 60
    · obtain ⟨hlt, hlt60⟩ := hlt
      obtain ⟨x, rfl, hx⟩ := HX.out (by omega)
      obtain ⟨z, z0, z1, cz⟩ := hx i hlt
      have cz' : wr.cell? (x.add i) = some (.int .u8 z) := by rw [d4.cell (World.block_lt_of_cell? _ _ cz)]; exact cz
      obtain ⟨k, hk⟩ : ∃ k : Nat, z % (m : Int) = (k : Int) := ⟨(z % (m : Int)).toNat, by have := Int.emod_nonneg z (by omega : (m : Int) ≠ 0); omega⟩
      have hkm : k < m := by have := Int.emod_lt_of_pos z (by omega : (0 : Int) < (m : Int)); omega
      have ck := ni_cell d1 k hkm
      have fk := (own_there d1 k (by omega)).2.2
      have CS := fun h15 => cut_step d3 k (by rw [HM.out]; exact hkm) (by rw [HM.out]; exact hlt60) h15
      have CS := Hid.intro CS
      have D3 := Hid.intro d3
      obtain ⟨y, hy⟩ : ∃ y, at0 l k = y := ⟨_, rfl⟩
      rw [hy] at ck CS
      clear cz hx hy d3
      by_cases h15 : y < 15
      · have C2 := Hid.intro (CS.out h15)
        have o2 := own_set d1 k (.int .i64 ((y + 1 : Nat) : Int))
        rw [ni_set] at o2
        have c2 : Chg (· = g) wr (wr.setCell ⟨g, k, none⟩ (.int .i64 ((y + 1 : Nat) : Int))) := chg_in (chg_refl _ _) _ _
        have b2 := d4.trans (chg_below c2 d4.size (fun j hj => by omega))
        have cy2 : (wr.setCell ⟨g, k, none⟩ (.int .i64 ((y + 1 : Nat) : Int))).cell? ⟨g, k, none⟩ = some (.int .i64 ((y + 1 : Nat) : Int)) := by
          have hl := D3.out
          rw [ni_cell o2 k hkm, at0_set _ _ _ _ (by rw [HM.out]; exact hkm), if_pos rfl]
        have ey : ((y + 1 : Nat) : Int) = (y : Int) + 1 := by omega
        rw [ey] at o2 c2 b2 cy2
        have cn := cell_one_new (wr.setCell ⟨g, k, none⟩ (.int .i64 ((y : Int) + 1))) (.int .i64 ((y : Int) + 1)) 3
        rw [Go.Deep.nblk_setCell] at cn
        have CN := Hid.intro cn
        have NS : Hid (ni (l.set k (y + 1)) ++ [.int .i64 ((y : Int) + 1)] = ni (l.set k (y + 1) ++ [y + 1])) := by show _ = _; simp [ni, ivs, iv]
        have NL : Hid ((l.set k (y + 1) ++ [y + 1]).length = m + 1) := by show _ = _; simp; exact HM.out
        have hlt2 : g < wr.heap.size := (d1.lt g rfl).2
        clear CS D3 cn ey
        go_wp2_with (at_builtin; refine wpList_push _ rfl (.tmp 44) (.tmp 49) 22 rfl 3 i0 (.int .i64 0) 1 8 Try.underlying22 hi0 hz0 hs0 hb0 rfl (by decide) (by decide) (.slice (some ⟨g, 0, none⟩) m capl) m (ni (l.set k (y + 1))) rfl (World.ownsRow.alloc o2 _) ⟨wr.heap.size, 0, none⟩ 1 1 [.int .i64 ((y : Int) + 1)] rfl rfl CN.out (by intro u hu; simp at hu; subst hu; rfl) (by omega) ?_)
        intro v5 w5 g1 g2 g3
        rw [NS.out] at g1
        have c5 : Chg (fun j => j = g) (wr.setCell ⟨g, k, none⟩ (.int .i64 ((y : Int) + 1))) w5 := chg_grown (chg_alloc (chg_refl _ _) _) g2 (fun j hj _ => by simp [Value.ownBlock] at hj; omega)
        have b5 : Below w.heap.size w w5 := b2.trans (chg_below c5 b2.size (fun j hj => by omega))
        have fr5 : From w.heap.size v5 := from_moved d2 g3 (by have := b2.size; simp at this ⊢; omega)
        have R5 : Hid (O1Rel n w v5 (.int .i64 ((i + 1 : Nat) : Int)) w5) := ⟨i + 1, _, by omega, rfl, by rw [NL.out]; exact g1, fr5, C2.out, b5⟩
        obtain ⟨b9, cap9, rfl⟩ := own_slice g1 (by omega)
        clear g1 g2 g3 c5 b5 fr5 o2 c2 b2 cy2 d1 d2 d4 CN NS NL C2
        go_wp2_with fail
        go_roundw
        case rel => exact R5.out
        case measure => simp [intOf]; omega
      · have R5 : Hid (O1Rel n w (.slice (some ⟨g, 0, none⟩) m capl) (.int .i64 ((i + 1 : Nat) : Int)) wr) := ⟨i + 1, l, by omega, rfl, by rw [HM.out]; exact d1, d2, D3.out, d4⟩
        clear CS D3 d1 d2 d4
        go_wp2_with fail
        go_roundw
        case rel => exact R5.out
        case measure => simp [intOf]; omega
    · clear HX
      by_cases h2 : m < 2
      · have AW := awake_any wr
        have B9 := Hid.intro d4
        clear d1 d2 d3 d4
        by_cases hin : i < n
        · exfalso; omega
        · clear hlt
          go_wp2_with fail
          with_reducible refine AW.mono ?_
          rintro e w4 ⟨rfl, k5⟩
          have B10 := Hid.intro (B9.out.trans (k5.mono B9.out.size))
          clear AW k5
          go_wp2_with fail
          go_ret
          exact ⟨rfl, B10.out⟩
      · obtain ⟨q, hq⟩ : ∃ q : Nat, (65 : Int) - (m : Int) = (q : Int) := ⟨65 - m, by omega⟩
        have hq0 : 0 < q := by omega
        have hmq : m + q = 65 := by omega
        have e0 := own_low (own_empty wr 3 1) (Nat.zero_le _)
        have ri : RI (wr.alloc (.cells #[] 3)) (some ⟨g, 0, none⟩) m (l.map Int.ofNat) := ri_below (own_ri2 d1) ((Below.refl _ _).alloc (Nat.le_refl _) _)
        have hg := (d1.lt g rfl).2
        have NL : Hid ((ni l).length = m * 1) := by show _ = _; rw [ni_len, HM.out, Nat.mul_one]
        have cells : Hid (∀ j u, (ni l)[j]? = some u → (wr.alloc (.cells #[] 3)).cell? ((⟨g, 0, none⟩ : Addr).add j) = some u) := ri_cells ri _ rfl
        have K : Hid (wr.ownsRow 0 3 1 (.slice (some ⟨g, 0, none⟩) m capl) m (ni l) ∧ Cut l ∧ Below w.heap.size w wr) := ⟨d1, d3, d4⟩
        clear d1 d2 d3 d4 ri
        have tail : True := trivial
        by_cases hin : i < n
        · have h60 : ¬ m < 60 := by omega
          clear hlt
          go_wp2_with (at_builtin; refine wpList_push _ rfl (.tmp 55) (.tmp 56) 22 rfl 3 i0 (.int .i64 0) 1 8 Try.underlying22 hi0 hz0 hs0 hb0 rfl (by decide) (by decide) (.slice (some ⟨wr.heap.size, 0, none⟩) 0 0) 0 [] rfl e0 ⟨g, 0, none⟩ m capl (ni l) rfl NL.out cells.out (ivs_one _) (by omega) ?_)
          intro v6 w6 g1 g2 g3
          obtain ⟨k1, k2, k3⟩ := K.out
          have c6 : Chg (fun _ => False) wr w6 := chg_grown (chg_alloc (chg_refl _ _) _) g2 (fun j hj hl => by simp [Value.ownBlock] at hj; omega)
          have f6 : From wr.heap.size v6 := fun j hj => (g3 j hj).elim (fun e => by simp [Value.ownBlock] at e; omega) (fun e => by simp at e; omega)
          have k6 := own_kept k1 c6 (fun _ _ h => h)
          obtain ⟨b6, cap6, rfl⟩ := own_slice g1 (by omega)
          have hb6 : wr.heap.size ≤ b6 := f6 b6 rfl
          obtain ⟨v7, w7, hr, r1, r2, r3⟩ := run_pushZ w6 22 b6 cap6 m q (ni l) g1 hq0 (by omega)
          have c7 : Chg (fun j => j = b6) w6 w7 := chg_grown (chg_refl _ _) r2 (fun j hj _ => by injection hj with hj; exact hj.symm)
          have k7 := own_kept k6 c7 (fun j hj e => by simp [Value.ownBlock] at hj; omega)
          have b7 : Below w.heap.size w w7 := k3.trans (chg_below (chg_trans (S := fun j => j = b6) (chg_mono c6 (fun _ _ h => h.elim)) c7 (fun _ _ h => h)) k3.size (fun j hj => by have := k3.size; omega))
          rw [hmq] at r1
          have r1' : w7.ownsRow 0 3 1 v7 65 (ivs ((fill l).map Int.ofNat)) := by
            have e : ni l ++ ivs (List.replicate q 0) = ivs ((fill l).map Int.ofNat) := by
              unfold ni fill
              rw [← ivs_append, List.map_append, List.map_replicate, HM.out, show 65 - m = q by omega]; rfl
            rw [← e]; exact r1
          have may := fill_may k2 (by rw [HM.out]; omega)
          obtain ⟨b7', cap7, rfl⟩ := own_slice r1' (by omega)
          have CO := codes_yes (some ⟨b7', 0, none⟩) 65 cap7 _ w7 (own_ri2 r1') may
          rw [nat_of] at CO
          have MA := Hid.intro (fun (W : World) (hW : Below w7.heap.size w7 W) => may_any (some ⟨b7', 0, none⟩) 65 cap7 _ W (ri_below (own_ri2 r1') hW) (by omega))
          rw [may] at MA
          have FB := Hid.intro (fill_bd k2.2.2.1)
          have fs := fill_sum k2 (by rw [HM.out]; omega)
          have FE := Hid.intro (fun n' => order_end l n' k2.2.1)
          have FA := Hid.intro (fun j (hj : j < m) => fill_at l j (by rw [HM.out]; exact hj))
          rw [HM.out] at FE
          obtain ⟨L, hL⟩ : ∃ L, fill l = L := ⟨_, rfl⟩
          rw [hL] at CO FB fs FE FA
          have FS : Unit → mS L 65 = 32768 := fun _ => fs
          clear fs
          have K7 := Hid.intro k7
          have B7 := Hid.intro b7
          clear g1 g2 g3 k1 k2 k3 c6 f6 k6 r1 r2 r3 r1' c7 k7 b7 K e0 cells NL may hL
          go_wp2_with (at_builtin; refine Lib.wpList_append_run _ rfl (.tmp 57) (.tmp 60) 22 3 rfl (.slice (some ⟨b6, 0, none⟩) m cap6) (.int .i64 (q : Int)) rfl rfl _ _ hr ?_)
          clear hr
          go_wp2_with fail
          with_reducible refine CO.mono ?_
          rintro e w8 ⟨v8, rfl, j3, j4⟩
          obtain ⟨b8, cap8, rfl⟩ := own_slice j3 (by omega)
          have M8 := MA.out w8 j4
          have l8 := own_later K7.out j4
          have CC := Hid.intro (fun j (hj : j < 65) => cv_cells j3 j hj)
          have LC := Hid.intro (fun j (hj : j < m) => ni_cell l8 j hj)
          have B8 := Hid.intro (B7.out.trans (j4.mono B7.out.size))
          have ER := err_any 0 w8
          have ST2 : Hid (O2Rel L w8 (.int .i64 (-1)) (.int .i64 1) w8) := ⟨0, by omega, rfl, rfl, rfl⟩
          clear CO MA j3 j4 l8 K7 B7
          go_wp2_with fail
          with_reducible refine ER.mono ?_
          rintro e w9 ⟨rfl, rfl⟩
          clear ER
          go_wp2_with fail
          with_reducible refine M8.mono ?_
          rintro e w10 ⟨rfl, rfl⟩
          clear M8
          go_wp2_with fail
          obtain ⟨ws, hws⟩ : ∃ ws, ws = w10 := ⟨_, rfl⟩
          rw [← hws] at CC LC B8 ST2
          have HWS := Hid.intro hws
          rw [← hws]
          clear hws
          go_loopw [9, 10] (fun av nv wr => O2Rel L ws av nv wr) (fun _ nv _ => 17 - (intOf nv).toNat)
          case atStart => exact ST2.out
          case round =>
            clear ST2
            obtain ⟨n, hn, rfl, rfl, rfl⟩ := hrel
            by_cases hlt : n < 15
            · have ST3 : Unit → O3Rel L n m wr (.int .i64 ((acc ((byLen L n).map (at0 L)) : Nat) - 1 : Int)) (.int .i64 0) wr := fun _ => ⟨0, by omega, rfl, by rw [pre2_zero], rfl⟩
              generalize acc ((byLen L n).map (at0 L)) = A0 at *
              obtain ⟨n1, hn1⟩ : ∃ n1 : Nat, n + 1 = n1 := ⟨_, rfl⟩
              simp only [hn1]
              have hn15 : n1 ≤ 15 := by omega
              have HN1 := Hid.intro hn1
              have HLT := Hid.intro hlt
              clear hn1 hlt hn
              go_wp2_with fail
              obtain ⟨wt, hwt⟩ : ∃ wt, wt = wr := ⟨_, rfl⟩
              rw [← hwt] at CC LC B8 ST3 HWS
              rw [← hwt]
              have HWT := Hid.intro hwt
              clear hwt
              go_loopw [9, 11] (fun av iv wr => O3Rel L n m wt av iv wr) (fun _ iv _ => m - (intOf iv).toNat)
              case atStart => exact ST3 ()
              case round =>
                clear ST3
                obtain ⟨j, hj, rfl, rfl, rfl⟩ := hrel
                have hbd := pre2_acc L n j (by omega) (by have := HLT.out; omega)
                have oa := order_acc L n j
                by_cases hjm : j < m
                · have cl := LC.out j hjm
                  rw [← FA.out j hjm] at cl
                  by_cases he : at0 L j = n1
                  · obtain ⟨b, b1, b2⟩ := order_code L FB.out n j HLT.out (by omega) (by rw [he, HN1.out])
                    obtain ⟨c1, c2, _, _⟩ := CC.out j (by omega)
                    rw [if_pos (by rw [he, HN1.out])] at oa
                    rw [b1] at c1 c2
                    rw [HN1.out] at b2 oa c2
                    rw [he] at cl
                    obtain ⟨k, hk⟩ : ∃ k, 15 - n1 = k := ⟨_, rfl⟩
                    rw [hk] at b2 oa
                    obtain ⟨z, hz⟩ : ∃ z, 2 ^ k = z := ⟨_, rfl⟩
                    rw [hz] at b2 oa
                    have hzi : (2 : Int) ^ k = (z : Int) := by rw [← hz]; simp
                    have hz0 : 0 < z := by rw [← hz]; exact Nat.two_pow_pos _
                    have hzb : z ≤ 32768 := by rw [← hz]; exact Nat.le_trans (Nat.pow_le_pow_right (by omega) (by omega : k ≤ 15)) (by decide)
                    have hki : (15 : Int) - (n1 : Int) = (k : Int) := by omega
                    have hk16 : k < 16 := by omega
                    obtain ⟨A, hA⟩ : ∃ A, acc ((pre2 L n j).map (at0 L)) = A := ⟨_, rfl⟩
                    rw [hA] at b2 oa hbd ⊢
                    have hbA : b ≤ A := by rw [← b2]; exact Nat.le_mul_of_pos_right b hz0
                    have b2i : (b : Int) * (z : Int) = (A : Int) := by rw [← b2]; simp
                    have OA : Unit → acc ((pre2 L n (j + 1)).map (at0 L)) = A + z := fun _ => oa
                    have t1 : ((n1 : Int) == (n1 : Int)) = true := by simp
                    have t2 : ((n1 : Int) != (n1 : Int)) = false := by simp
                    clear oa b1 b2 he hk hz hA
                    go_wp2_with fail
                    refine ⟨⟨_, _, _, ⟨j + 1, by omega, rfl, rfl, rfl⟩, rfl, ?_, by go_num⟩, ?_⟩
                    · rw [OA (), Int.natCast_add]
                    · simp [intOf]; omega
                  · rw [if_neg (by rw [HN1.out]; exact he)] at oa
                    obtain ⟨A, hA⟩ : ∃ A, acc ((pre2 L n j).map (at0 L)) = A := ⟨_, rfl⟩
                    rw [hA] at oa hbd ⊢
                    have OA : Unit → acc ((pre2 L n (j + 1)).map (at0 L)) = A := fun _ => oa
                    generalize at0 L j = y at *
                    have t1 : ((y : Int) == (n1 : Int)) = false := by simp; omega
                    have t2 : ((y : Int) != (n1 : Int)) = true := by simp; omega
                    clear oa hA
                    go_wp2_with fail
                    refine ⟨⟨j + 1, by omega, by go_num, by rw [OA ()], rfl⟩, ?_⟩
                    simp [intOf]; omega
                · obtain rfl : j = m := by omega
                  have E2 : Unit → O2Rel L wr (.int .i64 ((acc ((pre2 L n j).map (at0 L)) : Nat) - 1 : Int)) (.int .i64 ((n1 + 1 : Nat) : Int)) wr := fun _ => ⟨n1, hn15, rfl, by rw [FE.out n, HN1.out], rfl⟩
                  obtain ⟨A, hA⟩ : ∃ A, acc ((pre2 L n j).map (at0 L)) = A := ⟨_, rfl⟩
                  rw [hA] at hbd E2 ⊢
                  clear oa hA
                  go_wp2_with fail
                  have ew := HWT.out
                  rw [← ew]
                  refine ⟨E2 (), ?_⟩
                  simp [intOf]; omega
            · obtain rfl : n = 15 := by omega
              have ea : acc ((byLen L 15).map (at0 L)) = 32768 := by rw [byLen_acc L FB.out]; exact FS ()
              rw [ea]
              have AW := awake_any wr
              clear ea hlt hn
              go_wp2_with fail
              with_reducible refine AW.mono ?_
              rintro e w4 ⟨rfl, k5⟩
              have B10 := Hid.intro (B8.out.trans (k5.mono B8.out.size))
              clear AW k5
              go_wp2_with fail
              go_ret
              exact ⟨rfl, B10.out⟩
        · clear hlt
          go_wp2_with (at_builtin; refine wpList_push _ rfl (.tmp 55) (.tmp 56) 22 rfl 3 i0 (.int .i64 0) 1 8 Try.underlying22 hi0 hz0 hs0 hb0 rfl (by decide) (by decide) (.slice (some ⟨wr.heap.size, 0, none⟩) 0 0) 0 [] rfl e0 ⟨g, 0, none⟩ m capl (ni l) rfl NL.out cells.out (ivs_one _) (by omega) ?_)
          intro v6 w6 g1 g2 g3
          obtain ⟨k1, k2, k3⟩ := K.out
          have c6 : Chg (fun _ => False) wr w6 := chg_grown (chg_alloc (chg_refl _ _) _) g2 (fun j hj hl => by simp [Value.ownBlock] at hj; omega)
          have f6 : From wr.heap.size v6 := fun j hj => (g3 j hj).elim (fun e => by simp [Value.ownBlock] at e; omega) (fun e => by simp at e; omega)
          have k6 := own_kept k1 c6 (fun _ _ h => h)
          obtain ⟨b6, cap6, rfl⟩ := own_slice g1 (by omega)
          have hb6 : wr.heap.size ≤ b6 := f6 b6 rfl
          obtain ⟨v7, w7, hr, r1, r2, r3⟩ := run_pushZ w6 22 b6 cap6 m q (ni l) g1 hq0 (by omega)
          have c7 : Chg (fun j => j = b6) w6 w7 := chg_grown (chg_refl _ _) r2 (fun j hj _ => by injection hj with hj; exact hj.symm)
          have k7 := own_kept k6 c7 (fun j hj e => by simp [Value.ownBlock] at hj; omega)
          have b7 : Below w.heap.size w w7 := k3.trans (chg_below (chg_trans (S := fun j => j = b6) (chg_mono c6 (fun _ _ h => h.elim)) c7 (fun _ _ h => h)) k3.size (fun j hj => by have := k3.size; omega))
          rw [hmq] at r1
          have r1' : w7.ownsRow 0 3 1 v7 65 (ivs ((fill l).map Int.ofNat)) := by
            have e : ni l ++ ivs (List.replicate q 0) = ivs ((fill l).map Int.ofNat) := by
              unfold ni fill
              rw [← ivs_append, List.map_append, List.map_replicate, HM.out, show 65 - m = q by omega]; rfl
            rw [← e]; exact r1
          have may := fill_may k2 (by rw [HM.out]; omega)
          obtain ⟨b7', cap7, rfl⟩ := own_slice r1' (by omega)
          have CO := codes_yes (some ⟨b7', 0, none⟩) 65 cap7 _ w7 (own_ri2 r1') may
          rw [nat_of] at CO
          have MA := Hid.intro (fun (W : World) (hW : Below w7.heap.size w7 W) => may_any (some ⟨b7', 0, none⟩) 65 cap7 _ W (ri_below (own_ri2 r1') hW) (by omega))
          rw [may] at MA
          have FB := Hid.intro (fill_bd k2.2.2.1)
          have fs := fill_sum k2 (by rw [HM.out]; omega)
          have FE := Hid.intro (fun n' => order_end l n' k2.2.1)
          have FA := Hid.intro (fun j (hj : j < m) => fill_at l j (by rw [HM.out]; exact hj))
          rw [HM.out] at FE
          obtain ⟨L, hL⟩ : ∃ L, fill l = L := ⟨_, rfl⟩
          rw [hL] at CO FB fs FE FA
          have FS : Unit → mS L 65 = 32768 := fun _ => fs
          clear fs
          have K7 := Hid.intro k7
          have B7 := Hid.intro b7
          clear g1 g2 g3 k1 k2 k3 c6 f6 k6 r1 r2 r3 r1' c7 k7 b7 K e0 cells NL may hL
          go_wp2_with (at_builtin; refine Lib.wpList_append_run _ rfl (.tmp 57) (.tmp 60) 22 3 rfl (.slice (some ⟨b6, 0, none⟩) m cap6) (.int .i64 (q : Int)) rfl rfl _ _ hr ?_)
          clear hr
          go_wp2_with fail
          with_reducible refine CO.mono ?_
          rintro e w8 ⟨v8, rfl, j3, j4⟩
          obtain ⟨b8, cap8, rfl⟩ := own_slice j3 (by omega)
          have M8 := MA.out w8 j4
          have l8 := own_later K7.out j4
          have CC := Hid.intro (fun j (hj : j < 65) => cv_cells j3 j hj)
          have LC := Hid.intro (fun j (hj : j < m) => ni_cell l8 j hj)
          have B8 := Hid.intro (B7.out.trans (j4.mono B7.out.size))
          have ER := err_any 0 w8
          have ST2 : Hid (O2Rel L w8 (.int .i64 (-1)) (.int .i64 1) w8) := ⟨0, by omega, rfl, rfl, rfl⟩
          clear CO MA j3 j4 l8 K7 B7
          go_wp2_with fail
          with_reducible refine ER.mono ?_
          rintro e w9 ⟨rfl, rfl⟩
          clear ER
          go_wp2_with fail
          with_reducible refine M8.mono ?_
          rintro e w10 ⟨rfl, rfl⟩
          clear M8
          go_wp2_with fail
          obtain ⟨ws, hws⟩ : ∃ ws, ws = w10 := ⟨_, rfl⟩
          rw [← hws] at CC LC B8 ST2
          have HWS := Hid.intro hws
          rw [← hws]
          clear hws
          go_loopw [9, 10] (fun av nv wr => O2Rel L ws av nv wr) (fun _ nv _ => 17 - (intOf nv).toNat)
          case atStart => exact ST2.out
          case round =>
            clear ST2
            obtain ⟨n, hn, rfl, rfl, rfl⟩ := hrel
            by_cases hlt : n < 15
            · have ST3 : Unit → O3Rel L n m wr (.int .i64 ((acc ((byLen L n).map (at0 L)) : Nat) - 1 : Int)) (.int .i64 0) wr := fun _ => ⟨0, by omega, rfl, by rw [pre2_zero], rfl⟩
              generalize acc ((byLen L n).map (at0 L)) = A0 at *
              obtain ⟨n1, hn1⟩ : ∃ n1 : Nat, n + 1 = n1 := ⟨_, rfl⟩
              simp only [hn1]
              have hn15 : n1 ≤ 15 := by omega
              have HN1 := Hid.intro hn1
              have HLT := Hid.intro hlt
              clear hn1 hlt hn
              go_wp2_with fail
              obtain ⟨wt, hwt⟩ : ∃ wt, wt = wr := ⟨_, rfl⟩
              rw [← hwt] at CC LC B8 ST3 HWS
              rw [← hwt]
              have HWT := Hid.intro hwt
              clear hwt
              go_loopw [9, 11] (fun av iv wr => O3Rel L n m wt av iv wr) (fun _ iv _ => m - (intOf iv).toNat)
              case atStart => exact ST3 ()
              case round =>
                clear ST3
                obtain ⟨j, hj, rfl, rfl, rfl⟩ := hrel
                have hbd := pre2_acc L n j (by omega) (by have := HLT.out; omega)
                have oa := order_acc L n j
                by_cases hjm : j < m
                · have cl := LC.out j hjm
                  rw [← FA.out j hjm] at cl
                  by_cases he : at0 L j = n1
                  · obtain ⟨b, b1, b2⟩ := order_code L FB.out n j HLT.out (by omega) (by rw [he, HN1.out])
                    obtain ⟨c1, c2, _, _⟩ := CC.out j (by omega)
                    rw [if_pos (by rw [he, HN1.out])] at oa
                    rw [b1] at c1 c2
                    rw [HN1.out] at b2 oa c2
                    rw [he] at cl
                    obtain ⟨k, hk⟩ : ∃ k, 15 - n1 = k := ⟨_, rfl⟩
                    rw [hk] at b2 oa
                    obtain ⟨z, hz⟩ : ∃ z, 2 ^ k = z := ⟨_, rfl⟩
                    rw [hz] at b2 oa
                    have hzi : (2 : Int) ^ k = (z : Int) := by rw [← hz]; simp
                    have hz0 : 0 < z := by rw [← hz]; exact Nat.two_pow_pos _
                    have hzb : z ≤ 32768 := by rw [← hz]; exact Nat.le_trans (Nat.pow_le_pow_right (by omega) (by omega : k ≤ 15)) (by decide)
                    have hki : (15 : Int) - (n1 : Int) = (k : Int) := by omega
                    have hk16 : k < 16 := by omega
                    obtain ⟨A, hA⟩ : ∃ A, acc ((pre2 L n j).map (at0 L)) = A := ⟨_, rfl⟩
                    rw [hA] at b2 oa hbd ⊢
                    have hbA : b ≤ A := by rw [← b2]; exact Nat.le_mul_of_pos_right b hz0
                    have b2i : (b : Int) * (z : Int) = (A : Int) := by rw [← b2]; simp
                    have OA : Unit → acc ((pre2 L n (j + 1)).map (at0 L)) = A + z := fun _ => oa
                    have t1 : ((n1 : Int) == (n1 : Int)) = true := by simp
                    have t2 : ((n1 : Int) != (n1 : Int)) = false := by simp
                    clear oa b1 b2 he hk hz hA
                    go_wp2_with fail
                    refine ⟨⟨_, _, _, ⟨j + 1, by omega, rfl, rfl, rfl⟩, rfl, ?_, by go_num⟩, ?_⟩
                    · rw [OA (), Int.natCast_add]
                    · simp [intOf]; omega
                  · rw [if_neg (by rw [HN1.out]; exact he)] at oa
                    obtain ⟨A, hA⟩ : ∃ A, acc ((pre2 L n j).map (at0 L)) = A := ⟨_, rfl⟩
                    rw [hA] at oa hbd ⊢
                    have OA : Unit → acc ((pre2 L n (j + 1)).map (at0 L)) = A := fun _ => oa
                    generalize at0 L j = y at *
                    have t1 : ((y : Int) == (n1 : Int)) = false := by simp; omega
                    have t2 : ((y : Int) != (n1 : Int)) = true := by simp; omega
                    clear oa hA
                    go_wp2_with fail
                    refine ⟨⟨j + 1, by omega, by go_num, by rw [OA ()], rfl⟩, ?_⟩
                    simp [intOf]; omega
                · obtain rfl : j = m := by omega
                  have E2 : Unit → O2Rel L wr (.int .i64 ((acc ((pre2 L n j).map (at0 L)) : Nat) - 1 : Int)) (.int .i64 ((n1 + 1 : Nat) : Int)) wr := fun _ => ⟨n1, hn15, rfl, by rw [FE.out n, HN1.out], rfl⟩
                  obtain ⟨A, hA⟩ : ∃ A, acc ((pre2 L n j).map (at0 L)) = A := ⟨_, rfl⟩
                  rw [hA] at hbd E2 ⊢
                  clear oa hA
                  go_wp2_with fail
                  have ew := HWT.out
                  rw [← ew]
                  refine ⟨E2 (), ?_⟩
                  simp [intOf]; omega
            · obtain rfl : n = 15 := by omega
              have ea : acc ((byLen L 15).map (at0 L)) = 32768 := by rw [byLen_acc L FB.out]; exact FS ()
              rw [ea]
              have AW := awake_any wr
              clear ea hlt hn
              go_wp2_with fail
              with_reducible refine AW.mono ?_
              rintro e w4 ⟨rfl, k5⟩
              have B10 := Hid.intro (B8.out.trans (k5.mono B8.out.size))
              clear AW k5
              go_wp2_with fail
              go_ret
              exact ⟨rfl, B10.out⟩
end Go.Proofs.Ytgejcdmiihmlfaa
