/-
  Bytes by states that are cut say nothing.
-/
import Derived.Test.YtofclflcicjlaaaLaq
import Derived.WalkKit
import Derived.ProofKit
import Derived.OpenShut
import Derived.Deep.QuietTactic
import Derived.Deep.RegionWith
import Derived.Deep.RegionHeld3
import Derived.OwnWalk
import Derived.ChangeOld
import Derived.Below
import Derived.BigQuiet
namespace Go.Proofs.Ytofclflcicjlaaa
open Go.ChangeShapes Go.WideShapes Go.ChangeAt Go.RowKit
open Go.ChangeMaps (open_string shut_string)
set_option linter.unusedVariables false
set_option maxRecDepth 100000 in
set_option maxHeartbeats 4000000 in
theorem cutlaw_any (a : Option Addr) (len cap : Nat) (b n : Int) (w : World) (h : RU w a len) (hlen : len ≤ 9223372036854775807) (hb : 0 ≤ b ∧ b ≤ 255) (hn : 0 ≤ n ∧ n ≤ 65535) :
    Calls Try.prog 5 #[.slice a len cap, .int .u8 b, .int .u16 n] w fun e w' => e = .returned (.bool true) ∧ Below w.heap.size w w' := by
  have NM := numbers_any a len cap w h hlen
  obtain ⟨r, hr⟩ : ∃ r : Nat, b % 6 = (r : Int) := ⟨(b % 6).toNat, by omega⟩
  have hrt : b.tmod 6 = (r : Int) := by rw [Int.tmod_eq_emod_of_nonneg hb.1]; exact hr
  obtain ⟨K, hK⟩ : ∃ K : Nat, 7 + (r : Int) = (K : Int) := ⟨7 + r, by omega⟩
  have K12 : K ≤ 12 := by omega
  have K7 : 7 ≤ K := by omega
  have wr' : IntKind.i64.wrap (r : Int) = (r : Int) := by rw [IntKind.wrap_i64]; omega
  have wb : IntKind.i64.wrap b = b := by rw [IntKind.wrap_i64]; omega
  have wn : IntKind.i64.wrap n = n := by rw [IntKind.wrap_i64]; omega
  obtain ⟨hb0, hb1⟩ := hb
  obtain ⟨hn0, hn1⟩ := hn
  clear h
  go_enter Try.func5, Try.ntmps5
  go_wp2_with fail
  with_reducible refine NM.mono ?_
  rintro e w1 ⟨v1, zs, rfl, fi, hz, o1, b1⟩
  clear NM
  obtain ⟨a1, c1, rfl, -, -, ri1⟩ := own_ri o1
  have RP := rparts_any a1 zs.length c1 zs w1 ri1 fi (by omega)
  have B1 := Hid.intro b1
  clear o1 b1 ri1
  go_wp2_with fail
  with_reducible refine RP.mono ?_
  rintro e w2 ⟨v2, rfl, o2, b2⟩
  clear RP
  obtain ⟨a2, c2, rfl, hc2, -, rp2⟩ := own_rp o2
  have B2 := Hid.intro (B1.out.trans (b2.mono B1.out.size))
  have OF := rof_any a2 zs.length c2 (zs.map spl) w2 rp2 (by omega)
  have RP2 := Hid.intro rp2
  clear o2 b2 rp2
  go_wp2_with fail
  with_reducible refine OF.mono ?_
  rintro e w3 ⟨v3, rfl, o3, b3⟩
  clear OF
  obtain ⟨bF, cF, rfl⟩ := own_slice o3 (by omega)
  obtain ⟨ps, hps⟩ : ∃ ps, zs.map spl = ps := ⟨_, rfl⟩
  rw [hps] at o3 RP2
  have hpl : ps.length = zs.length := by rw [← hps, List.length_map]
  have cl65 := cnt_len ps
  have cbd := cnt_bd ps
  have ct0 := own_there o3 0 (by omega)
  have e0 : w3.cell? ⟨bF, 0, none⟩ = some (.int .i64 (fr (cnt ps) 0)) := by
    rw [ct0.1]; simp only [ivs, List.getElem?_map]; rw [List.getElem?_eq_getElem (by omega), fr_at _ 0 (by omega)]; rfl
  have f0 := ct0.2.2
  have o4 := own_set o3 0 (.int .i64 (fr (cnt ps) 0 + 1))
  rw [ivs_set] at o4
  have ct1 := own_there o4 1 (by omega)
  have e1 : (w3.setCell ⟨bF, 0, none⟩ (.int .i64 (fr (cnt ps) 0 + 1))).cell? ⟨bF, 1, none⟩ = some (.int .i64 (fr (cnt ps) 1)) := by
    rw [ct1.1]; simp only [ivs, List.getElem?_map]; rw [List.getElem?_set_ne (by decide), List.getElem?_eq_getElem (by omega), fr_at _ 1 (by omega)]; rfl
  have f1 := ct1.2.2
  have o5 := own_set o4 1 (.int .i64 (fr (cnt ps) 1 + 1))
  rw [ivs_set] at o5
  have x0b : 0 ≤ fr (cnt ps) 0 ∧ fr (cnt ps) 0 ≤ 60 := by
    rw [fr_at _ 0 (by omega)]; have := cbd _ (List.getElem_mem (by omega : 0 < (cnt ps).length)); omega
  have x1b : 0 ≤ fr (cnt ps) 1 ∧ fr (cnt ps) 1 ≤ 60 := by
    rw [fr_at _ 1 (by omega)]; have := cbd _ (List.getElem_mem (by omega : 1 < (cnt ps).length)); omega
  obtain ⟨F, hF⟩ : ∃ F, ((cnt ps).set 0 (fr (cnt ps) 0 + 1)).set 1 (fr (cnt ps) 1 + 1) = F := ⟨_, rfl⟩
  have Fl : F.length = 65 := by rw [← hF]; simp [cl65]
  have Fb : ∀ x ∈ F, 0 ≤ x ∧ x ≤ 16777216 := fun x hx => by
    rw [← hF] at hx
    rcases List.mem_or_eq_of_mem_set hx with h | h
    · rcases List.mem_or_eq_of_mem_set h with h | h
      · have := cbd x h; omega
      · omega
    · omega
  have Fs : 0 < F.sum := sum_pos (fun x hx => (Fb x hx).1) (fr (cnt ps) 1 + 1) (by rw [← hF]; exact List.mem_iff_getElem.2 ⟨1, by simp [cl65], by simp⟩) (by omega)
  obtain ⟨M, hM, m1, m2, m3⟩ := norm_pos (z := (K : Int)) Fl Fb Fs (by omega)
  have PO := parts_ok (zs := zs) (M := M) (F := F) fi m3 (fun c hc hp => by
    rw [← hF, fr_set _ _ _ _ (by simp [cl65]), fr_set _ _ _ _ (by omega)]
    split
    · omega
    · split
      · omega
      · rw [cnt_fr ps c hc, ← hps]; omega)
  rw [hps] at PO
  obtain ⟨po1, po2⟩ := PO
  rw [hF] at o5
  have RN := rnorm_any (some ⟨bF, 0, none⟩) 65 cF F (K : Int) _ (own_ri' o5) (by omega)
  rw [hM] at RN
  have hbF := (o3.lt bF rfl).1
  have B3 := Hid.intro (((B2.out.trans (b3.mono B2.out.size)).setCell (p := ⟨bF, 0, none⟩) (Nat.le_trans B2.out.size hbF) (.int .i64 (fr (cnt ps) 0 + 1))).setCell (p := ⟨bF, 1, none⟩) (Nat.le_trans B2.out.size hbF) (.int .i64 (fr (cnt ps) 1 + 1)))
  have b2x := Hid.intro ((b3.setCell (p := ⟨bF, 0, none⟩) hbF (.int .i64 (fr (cnt ps) 0 + 1))).setCell (p := ⟨bF, 1, none⟩) hbF (.int .i64 (fr (cnt ps) 1 + 1)))
  have M1 := Hid.intro m1
  have M2 := Hid.intro m2
  have PO1 := Hid.intro po1
  have PO2 := Hid.intro po2
  have FI' := Hid.intro fi
  have HPS := Hid.intro hps
  clear b3 o3 o4 o5 ct0 ct1 cbd cl65 hF Fl Fb Fs hM m1 m2 m3 po1 po2 fi hps
  generalize fr (cnt ps) 0 = x0 at *
  generalize fr (cnt ps) 1 = x1 at *
  obtain ⟨x0a, x0c⟩ := x0b
  obtain ⟨x1a, x1c⟩ := x1b
  go_wp2_with fail
  generalize (w3.setCell ⟨bF, 0, none⟩ (.int .i64 (x0 + 1))).setCell ⟨bF, 1, none⟩ (.int .i64 (x1 + 1)) = w4 at *
  clear e0 e1 f0 f1
  with_reducible refine RN.mono ?_
  rintro e w5 ⟨v5, rfl, o5, b5⟩
  clear RN
  simp only at o5
  rw [M1.out] at o5
  obtain ⟨bv, cv, rfl⟩ := own_slice o5 (by omega)
  have fd := fld28 (.slice (some ⟨bv, 0, none⟩) 65 cv) 0 w5
  have ri5 : RI w5 (some ⟨bv, 0, none⟩) 65 (M.map Int.ofNat) := own_ri' o5
  have b25 := b2x.out.trans (b5.mono b2x.out.size)
  have B5 := Hid.intro (B3.out.trans (b5.mono B3.out.size))
  have okM : ps.all (okPS ((M.map Int.ofNat).map Int.toNat)) = true := by rw [toNatI]; exact PO1.out
  have PS := putS_yes M2.out okM
  have PT := sput_any a2 zs.length c2 ps (some ⟨bv, 0, none⟩) 65 cv (M.map Int.ofNat) K w5 (rp_below RP2.out b25) PO2.out (by omega) hc2 ri5 (by omega)
  have S2 := put_len K M (spr K M) (ps.map toNP)
  have S9 : (putB K M (spr K M) (ps.map toNP)).length ≤ 10000 := by
    have sp := may_sp M2.out
    rw [toNatI, show ((K : Int)).toNat = K from by simp] at sp
    refine put_size sp _ (ok_facts PO2.out PO1.out).1 (by rw [List.length_map]; omega) (fun p hp => ?_)
    obtain ⟨⟨c, r⟩, hm, rfl⟩ := List.mem_map.1 hp
    obtain ⟨q, v, e1, -, h65, -⟩ := okPS_is (PO2.out _ hm).1 (List.all_eq_true.1 PO1.out _ hm)
    subst e1
    show (q : Int).toNat ≤ 64
    simp; omega
  have CUT := fun m hm => getS_cutn (n := zs.length) hpl PO2.out M2.out okM (by omega) m hm
  rw [PS, toNatI, show ((K : Int)).toNat = K from by simp] at PT CUT
  generalize putB K M (spr K M) (ps.map toNP) = S at *
  simp only at PT CUT
  obtain ⟨T, hT⟩ : ∃ T, bs S = T := ⟨_, rfl⟩
  have Ts : T.size = S.length := by rw [← hT]; exact size_bs S
  have Tl : T.data.toList = S := by rw [← hT]; rfl
  rw [hT] at PT
  obtain ⟨j, hj⟩ : ∃ j : Nat, n % (T.size : Int) = (j : Int) := ⟨(n % (T.size : Int)).toNat, (Int.toNat_of_nonneg (Int.emod_nonneg n (by omega))).symm⟩
  have hjl : j < T.size := by have := Int.emod_lt_of_pos n (show (0 : Int) < (T.size : Int) by omega); rw [hj] at this; omega
  have hjt : n.tmod (T.size : Int) = (j : Int) := by rw [Int.tmod_eq_emod_of_nonneg hn0]; exact hj
  have wj : IntKind.i64.wrap (j : Int) = (j : Int) := by rw [IntKind.wrap_i64]; omega
  have CJ := CUT j (by omega)
  have GT1 := fun W (hW : Below w5.heap.size w5 W) => sget_any (T.extract 0 j) (zs.length : Int) (some ⟨bv, 0, none⟩) 65 cv (M.map Int.ofNat) K W (by rw [ByteArray.size_extract]; omega) (ri_below ri5 hW) (by omega)
  rw [cut_list, Tl, CJ] at GT1
  have GT2 := fun W (hW : Below w5.heap.size w5 W) => sget_any T (-1) (some ⟨bv, 0, none⟩) 65 cv (M.map Int.ofNat) K W (by omega) (ri_below ri5 hW) (by omega)
  rw [getS_out M2.out _ _ (.inl (by decide))] at GT2
  have GT3 := fun W (hW : Below w5.heap.size w5 W) => sget_any T 4097 (some ⟨bv, 0, none⟩) 65 cv (M.map Int.ofNat) K W (by omega) (ri_below ri5 hW) (by omega)
  rw [getS_out M2.out _ _ (.inr (by decide))] at GT3
  have hT2 : ¬ ((T.size : Int) < 2) := by omega
  have hT0 : ((T.size : Int) == 0) = false := by rw [beq_eq_false_iff_ne]; omega
  have hjz : (j : Int) ≤ (T.size : Int) := by omega
  have hj0 : (0 : Int) ≤ (j : Int) := by omega
  have H1 : Aside _ := GT1
  have H2 : Aside _ := GT2
  have H3 : Aside _ := GT3
  clear ri5 b25 okM PS S2 S9 CUT hT Ts Tl CJ GT1 GT2 GT3 o5 b5
  go_wp2_with fail
  with_reducible refine PT.mono ?_
  rintro e w6 ⟨rfl, b6⟩
  have G1 := H1.out w6 b6
  have B6 := Hid.intro b6
  clear PT b6 H1
  go_wp2_with (go_at_call 14; with_reducible refine (err_i _ _).mono ?_; rintro e w' ⟨rfl, rfl⟩)
  with_reducible refine G1.mono ?_
  rintro e w7 ⟨v7, rfl, o7, b7⟩
  obtain ⟨a7, c7, rfl, -, -, -⟩ := own_rp o7
  have B7 := Hid.intro (B6.out.trans (b7.mono B6.out.size))
  have G2 := H2.out w7 B7.out
  clear G1 o7 b7 H2
  go_wp2_with fail
  with_reducible refine G2.mono ?_
  rintro e w8 ⟨v8, rfl, o8, b8⟩
  obtain ⟨a8, c8, rfl, -, -, -⟩ := own_rp o8
  have B8 := Hid.intro (B7.out.trans (b8.mono B7.out.size))
  have G3 := H3.out w8 B8.out
  clear G2 o8 b8 H3
  go_wp2_with fail
  with_reducible refine G3.mono ?_
  rintro e w9 ⟨v9, rfl, o9, b9⟩
  obtain ⟨a9, c9, rfl, -, -, -⟩ := own_rp o9
  have B9 := Hid.intro (B5.out.trans ((B8.out.trans (b9.mono B8.out.size)).mono B5.out.size))
  clear G3 o9 b9
  go_wp2_with (first | (go_at_call 14; with_reducible refine (err_i _ _).mono ?_; rintro e w' ⟨rfl, rfl⟩) | (go_at_call 7; with_reducible refine (st_awake _).mono ?_; rintro e wz ⟨rfl, hz⟩))
  go_ret
  exact ⟨rfl, B9.out.trans (hz.mono B9.out.size)⟩
end Go.Proofs.Ytofclflcicjlaaa
