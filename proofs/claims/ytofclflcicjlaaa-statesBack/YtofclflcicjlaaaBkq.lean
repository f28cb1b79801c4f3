/-
  Parts are told again by their bytes by states.
-/
import Derived.Test.YtofclflcicjlaaaLaq
import Derived.WalkKit
import Derived.ProofKit
import Derived.OpenShut
import Derived.Deep.QuietTactic
import Derived.Deep.RegionWith
import Derived.Deep.RegionHeld3
import Derived.OwnWalk
import Derived.ChangeOld
import Derived.Below
import Derived.BigQuiet
namespace Go.Proofs.Ytofclflcicjlaaa
open Go.ChangeShapes Go.WideShapes Go.ChangeAt Go.RowKit
open Go.ChangeMaps (open_string shut_string)
set_option linter.unusedVariables false
def BkRel (w : World) (bF cF : Nat) (ps : List (Int × Int)) (iv : Value) (wr : World) : Prop :=
  ∃ (i : Nat) (F : List Int), i ≤ ps.length ∧ iv = .int .i64 i ∧ F.length = 65 ∧ (∀ x ∈ F, 0 ≤ x ∧ x ≤ 100000 + i) ∧ 0 < fr F 1 ∧ (∀ c : Nat, c < 65 → 0 < clp (ps.take i) c → 0 < fr F c) ∧ wr.ownsRow w.heap.size 3 1 (.slice (some ⟨bF, 0, none⟩) 65 cF) 65 (ivs F) ∧ Below w.heap.size w wr
theorem clp_snoc (l : List (Int × Int)) (p : Int × Int) (c : Nat) (h : 0 < clp (l ++ [p]) c) : 0 < clp l c ∨ p.1 = (c : Int) := by
  rw [cl_snoc] at h
  by_cases e : p.1 = (c : Int)
  · exact .inr e
  · left
    have : (p.1 == (c : Int)) = false := by rw [beq_eq_false_iff_ne]; exact e
    split at h
    · rename_i h1; first | exact absurd h1 e | (simp [this] at h1)
    · omega
theorem ru_below {w W : World} {a : Option Addr} {n : Nat} (h : RU w a n) (b : Below w.heap.size w W) : RU W a n := fun hn => by
  obtain ⟨x, e, hx⟩ := h hn
  refine ⟨x, e, fun i hi => ?_⟩
  obtain ⟨z, z1, z2, z3⟩ := hx i hi
  exact ⟨z, z1, z2, (b.cell (World.block_lt_of_cell? _ _ z3)).trans z3⟩
set_option maxRecDepth 100000 in
set_option maxHeartbeats 4000000 in
theorem back_any (a : Option Addr) (len cap : Nat) (a1 : Option Addr) (len1 cap1 : Nat) (b : Int) (w : World) (h : RU w a len) (hlen : len ≤ 9223372036854775807) (h1 : RU w a1 len1) (hlen1 : len1 ≤ 9223372036854775807) (hb : 0 ≤ b ∧ b ≤ 255) :
    Calls Try.prog 3 #[.slice a len cap, .slice a1 len1 cap1, .int .u8 b] w fun e w' => e = .returned (.bool true) ∧ Below w.heap.size w w' := by
  by_cases h140 : 140 < len1
  · have AW := st_awake w
    clear h h1
    go_enter Try.func3, Try.ntmps3
    go_wp2_with fail
    with_reducible refine AW.mono ?_
    rintro e w1 ⟨rfl, hx⟩
    have H1 := Hid.intro hx
    clear AW hx
    go_wp2_with fail
    go_ret
    exact ⟨rfl, H1.out⟩
  · have NM := numbers_any a len cap w h hlen
    obtain ⟨r, hr⟩ : ∃ r : Nat, b % 6 = (r : Int) := ⟨(b % 6).toNat, by omega⟩
    have hrt : b.tmod 6 = (r : Int) := by rw [Int.tmod_eq_emod_of_nonneg hb.1]; exact hr
    obtain ⟨K, hK⟩ : ∃ K : Nat, 7 + (r : Int) = (K : Int) := ⟨7 + r, by omega⟩
    have K12 : K ≤ 12 := by omega
    have K7 : 7 ≤ K := by omega
    have wr' : IntKind.i64.wrap (r : Int) = (r : Int) := by rw [IntKind.wrap_i64]; omega
    have wb : IntKind.i64.wrap b = b := by rw [IntKind.wrap_i64]; omega
    obtain ⟨hb0, hb1⟩ := hb
    have HU : Aside (∀ W, Below w.heap.size w W → RU W a1 len1) := fun W hW => ru_below h1 hW
    clear h h1
    go_enter Try.func3, Try.ntmps3
    go_wp2_with fail
    with_reducible refine NM.mono ?_
    rintro e w1 ⟨v1, zs, rfl, fi, hz, o1, b1⟩
    clear NM
    obtain ⟨a1', c1, rfl, -, -, ri1⟩ := own_ri o1
    have RP := rparts_any a1' zs.length c1 zs w1 ri1 fi (by omega)
    have B1 := Hid.intro b1
    clear o1 b1 ri1
    go_wp2_with fail
    with_reducible refine RP.mono ?_
    rintro e w2 ⟨v2, rfl, o2, b2⟩
    clear RP
    obtain ⟨a2, c2, rfl, hc2, -, rp2⟩ := own_rp o2
    have B2 := Hid.intro (B1.out.trans (b2.mono B1.out.size))
    have FQ := freq_any a1 len1 cap1 w2 (HU.out w2 B2.out) (by omega)
    obtain ⟨ps, hps⟩ : ∃ ps, zs.map spl = ps := ⟨_, rfl⟩
    rw [hps] at rp2
    have hpl : ps.length = zs.length := by rw [← hps, List.length_map]
    have RP2 := Hid.intro rp2
    have HPS := Hid.intro hps
    have FI' := Hid.intro fi
    clear o2 b2 rp2 HU hps fi
    go_wp2_with fail
    with_reducible refine FQ.mono ?_
    rintro e w3 ⟨v3, F0, rfl, f1, f2, f3, f4⟩
    clear FQ
    obtain ⟨bF, cF, rfl⟩ := own_slice f3 (by omega)
    have ct := own_there f3 1 (by omega)
    have e1 : w3.cell? ⟨bF, 1, none⟩ = some (.int .i64 (fr F0 1)) := by
      rw [ct.1]; simp only [ivs, List.getElem?_map]; rw [List.getElem?_eq_getElem (by omega), fr_at _ 1 (by omega)]; rfl
    have fz := ct.2.2
    have x1b : 0 ≤ fr F0 1 ∧ fr F0 1 ≤ 65535 := by rw [fr_at _ 1 (by omega)]; exact f2 _ (List.getElem_mem _)
    have o4 := own_set f3 1 (.int .i64 (fr F0 1 + 1))
    rw [ivs_set] at o4
    have hbF := (f3.lt bF rfl).1
    have b4 := f4.setCell (p := ⟨bF, 1, none⟩) hbF (.int .i64 (fr F0 1 + 1))
    have ST : Hid (BkRel w2 bF cF ps (.int .i64 0) (w3.setCell ⟨bF, 1, none⟩ (.int .i64 (fr F0 1 + 1)))) := by
      refine ⟨0, F0.set 1 (fr F0 1 + 1), Nat.zero_le _, rfl, by simpa using f1, fun x hx => ?_, ?_, fun c hc hp => ?_, o4, b4⟩
      · rcases List.mem_or_eq_of_mem_set hx with h | h
        · have := f2 x h; omega
        · omega
      · rw [fr_set _ _ _ _ (by omega), if_pos rfl]; omega
      · rw [List.take_zero] at hp; exact absurd hp (by unfold clp; simp)
    have HZ : Hid (∀ p ∈ ps, 0 ≤ p.1 ∧ p.1 ≤ 64) := fun p hp => by
      rw [← HPS.out] at hp
      obtain ⟨z, hzm, rfl⟩ := List.mem_map.1 hp
      have := spl_ok (FI'.out z hzm).1 (FI'.out z hzm).2
      exact ⟨this.2.2.1, this.2.2.2⟩
    have B2S := B2.out.size
    clear f1 f2 f3 f4 ct o4 b4 hbF
    generalize fr F0 1 = x1 at *
    obtain ⟨x1a, x1c⟩ := x1b
    go_wp2_with fail
    generalize w3.setCell ⟨bF, 1, none⟩ (.int .i64 (x1 + 1)) = w4 at *
    clear e1 fz
    go_loopw [9] (fun iv wr => BkRel w2 bF cF ps iv wr) (fun iv _ => 100 - (intOf iv).toNat)
    case atStart => exact ST.out
    case round =>
      clear ST
      obtain ⟨i, F, hi, rfl, d1, d2, d3, d4, d5, d6⟩ := hrel
      rw [hpl] at hi
      by_cases hlt : i < zs.length
      · have hl : i < ps.length := by rw [hpl]; exact hlt
        obtain ⟨x, rfl, hx⟩ := RP2.out.2 (by omega)
        obtain ⟨p0, p1⟩ := rp_cells2 d6 (hx i hl).1 (hx i hl).2
        obtain ⟨c0, c64⟩ := HZ.out ps[i] (List.getElem_mem hl)
        obtain ⟨c, hc⟩ : ∃ c : Nat, ps[i].1 = (c : Int) := ⟨ps[i].1.toNat, by omega⟩
        have HTK : Hid (ps.take (i + 1) = ps.take i ++ [ps[i]]) := take_snoc ps i hl
        have HPC := Hid.intro hc
        rw [hc] at p0 c0 c64
        have ctc := own_there d5 c (by omega)
        have ec : wr.cell? ⟨bF, c, none⟩ = some (.int .i64 (fr F c)) := by
          rw [ctc.1]; simp only [ivs, List.getElem?_map]; rw [List.getElem?_eq_getElem (by omega), fr_at _ c (by omega)]; rfl
        have fc := ctc.2.2
        have xb : 0 ≤ fr F c ∧ fr F c ≤ 100000 + i := by rw [fr_at _ c (by omega)]; exact d2 _ (List.getElem_mem _)
        have o6 := own_set d5 c (.int .i64 (fr F c + 1))
        rw [ivs_set] at o6
        have hbF := (d5.lt bF rfl).1
        have b6 := d6.setCell (p := ⟨bF, c, none⟩) hbF (.int .i64 (fr F c + 1))
        have NX : Hid (BkRel w2 bF cF ps (.int .i64 ((i + 1 : Nat) : Int)) (wr.setCell ⟨bF, c, none⟩ (.int .i64 (fr F c + 1))).drew) := by
          refine ⟨i + 1, F.set c (fr F c + 1), by omega, rfl, by simpa using d1, fun x hx => ?_, ?_, fun c' hc' hp => ?_, own_drew o6, b6.drew⟩
          · rcases List.mem_or_eq_of_mem_set hx with h | h
            · have := d2 x h; omega
            · omega
          · rw [fr_set _ _ _ _ (by omega)]; split <;> omega
          · rw [fr_set _ _ _ _ (by omega)]
            split
            · omega
            · rename_i hne
              rw [HTK.out] at hp
              rcases clp_snoc _ _ _ hp with h | h
              · exact d4 c' hc' h
              · rw [HPC.out] at h; omega
        have hcz : (c : Int) < 65 := by omega
        have hc0 : (0 : Int) ≤ (c : Int) := by omega
        have hiz : (i : Int) < (zs.length : Int) := by omega
        clear HTK HPC hx p1 d1 d2 d3 d4 d5 d6 ctc o6 b6 hbF hc hl
        generalize fr F c = y at *
        obtain ⟨ya, yc⟩ := xb
        go_wp2_with fail
        go_region
        all_goals
          go_wp2_with fail
          go_roundw
          case rel => exact NX.out
          case measure => simp [intOf]; omega
      · obtain rfl : i = zs.length := by omega
        obtain ⟨M, hM, m1, m2, m3⟩ := norm_pos (z := (K : Int)) d1 (fun x hx => by have := d2 x hx; omega) (sum_pos (fun x hx => (d2 x hx).1) (fr F 1) (by rw [fr_at _ 1 (by omega)]; exact List.getElem_mem _) d3) (by omega)
        have PO := parts_ok (zs := zs) (M := M) (F := F) FI'.out m3 (fun c hc hp => d4 c hc (by rw [List.take_of_length_le (by omega), ← HPS.out]; exact hp))
        rw [HPS.out] at PO
        obtain ⟨po1, po2⟩ := PO
        have RN := rnorm_any (some ⟨bF, 0, none⟩) 65 cF F (K : Int) _ (own_ri' d5) (by omega)
        rw [hM] at RN
        have D6 := Hid.intro d6
        have M1 := Hid.intro m1
        have M2 := Hid.intro m2
        have PO1 := Hid.intro po1
        have PO2 := Hid.intro po2
        clear d1 d2 d3 d4 d5 d6 hM m1 m2 m3 po1 po2 hlt
        go_wp2_with fail
        with_reducible refine RN.mono ?_
        rintro e w5 ⟨v5, rfl, o5, b5⟩
        clear RN
        simp only at o5
        rw [M1.out] at o5
        obtain ⟨bv, cv, rfl⟩ := own_slice o5 (by omega)
        have fd := fld28 (.slice (some ⟨bv, 0, none⟩) 65 cv) 0 w5
        have ri5 : RI w5 (some ⟨bv, 0, none⟩) 65 (M.map Int.ofNat) := own_ri' o5
        have b25 := D6.out.trans (b5.mono D6.out.size)
        have B5 := Hid.intro (B2.out.trans (b25.mono B2.out.size))
        have RP5 := Hid.intro (rp_below RP2.out b25)
        have okM : ps.all (okPS ((M.map Int.ofNat).map Int.toNat)) = true := by rw [toNatI]; exact PO1.out
        have PS := putS_yes M2.out okM
        have PT := sput_any a2 zs.length c2 ps (some ⟨bv, 0, none⟩) 65 cv (M.map Int.ofNat) K w5 RP5.out PO2.out (by omega) hc2 ri5 (by omega)
        have S9 : (putB K M (spr K M) (ps.map toNP)).length ≤ 10000 := by
          have sp := may_sp M2.out
          rw [toNatI, show ((K : Int)).toNat = K from by simp] at sp
          refine put_size sp _ (ok_facts PO2.out PO1.out).1 (by rw [List.length_map]; omega) (fun p hp => ?_)
          obtain ⟨⟨c, r⟩, hm, rfl⟩ := List.mem_map.1 hp
          obtain ⟨q, v, e1, -, h65, -⟩ := okPS_is (PO2.out _ hm).1 (List.all_eq_true.1 PO1.out _ hm)
          subst e1
          show (q : Int).toNat ≤ 64
          simp; omega
        have GB := getS_back PO2.out M2.out okM (by omega)
        have GM := getS_more PO2.out M2.out okM (by omega)
        rw [PS, toNatI, show ((K : Int)).toNat = K from by simp] at PT GB GM
        rw [hpl] at GB GM
        have FACT := (ok_facts PO2.out PO1.out).2.2
        generalize putB K M (spr K M) (ps.map toNP) = S at *
        simp only at PT GB GM
        obtain ⟨T, hT⟩ : ∃ T, bs S = T := ⟨_, rfl⟩
        have Ts : T.size = S.length := by rw [← hT]; exact size_bs S
        have Tl : T.data.toList = S := by rw [← hT]; rfl
        rw [hT] at PT
        have GT1 := fun W (hW : Below w5.heap.size w5 W) => sget_any T (zs.length : Int) (some ⟨bv, 0, none⟩) 65 cv (M.map Int.ofNat) K W (by omega) (ri_below ri5 hW) (by omega)
        rw [Tl, GB] at GT1
        have Us2 : (T ++ ⟨#[0]⟩ : ByteArray).size = T.size + 1 := by rw [ByteArray.size_append]; rfl
        have GT2 := fun W (hW : Below w5.heap.size w5 W) => sget_any (T ++ ⟨#[0]⟩) (zs.length : Int) (some ⟨bv, 0, none⟩) 65 cv (M.map Int.ofNat) K W (by omega) (ri_below ri5 hW) (by omega)
        rw [app_list, Tl, show ((⟨#[0]⟩ : ByteArray).data.toList : List UInt8) = [0] from rfl, GM] at GT2
        have T9 : T.size ≤ 10000 := by omega
        have H1 : Aside _ := GT1
        have H2 : Aside _ := GT2
        have HF := Hid.intro FACT
        clear ri5 b25 okM PS S9 GB GM hT Ts Tl GT1 GT2 o5 b5 FACT
        go_wp2_with fail
        with_reducible refine PT.mono ?_
        rintro e w6 ⟨rfl, b6⟩
        have G1 := H1.out w6 b6
        have B6 := Hid.intro b6
        clear PT b6 H1
        go_wp2_with fail
        with_reducible refine G1.mono ?_
        rintro e w7 ⟨v7, rfl, o7, b7⟩
        simp only at o7
        rw [HF.out, List.length_map, hpl] at o7
        obtain ⟨a7, c7, rfl, -, -, rp7⟩ := own_rp o7
        have B7 := Hid.intro (B6.out.trans (b7.mono B6.out.size))
        have G2 := H2.out w7 B7.out
        have RP7 := Hid.intro rp7
        clear G1 o7 b7 H2 rp7
        go_wp2_with fail
        with_reducible refine G2.mono ?_
        rintro e w8 ⟨v8, rfl, o8, b8⟩
        have B8 := Hid.intro (B7.out.trans (b8.mono B7.out.size))
        have SP := fun W (hW : Below w8.heap.size w8 W) => sameP_any a7 a2 zs.length zs.length c7 c2 ps ps W (rp_below (rp_below RP7.out b8) hW) (rp_below (rp_below RP5.out B8.out) hW) (by omega) (by omega)
        have SP8 := SP w8 (Below.refl _ _)
        have B9 := Hid.intro (B5.out.trans (B8.out.mono B5.out.size))
        have dt : decide (ps = ps) = true := by simp
        rw [dt] at SP8
        clear G2 o8 b8 SP dt
        go_wp2_with (first | (go_at_call 14; with_reducible refine (err_i _ _).mono ?_; rintro e w' ⟨rfl, rfl⟩))
        with_reducible refine SP8.mono ?_
        rintro e w9 ⟨rfl, h9⟩
        have B10 := Hid.intro (B9.out.trans (h9.mono B9.out.size))
        clear SP8 h9
        go_wp2_with (first | (go_at_call 14; with_reducible refine (err_i _ _).mono ?_; rintro e w' ⟨rfl, rfl⟩) | (go_at_call 7; with_reducible refine (st_awake _).mono ?_; rintro e wz ⟨rfl, hz'⟩))
        go_ret
        exact ⟨rfl, B10.out.trans (hz'.mono B10.out.size)⟩
end Go.Proofs.Ytofclflcicjlaaa
