/-
  Proved: StatesMade returns true for every input, and leaves what was there as it was; no condition.
-/
import Derived.Test.YtofclflcicjlaaaGreatRows
import Derived.WalkKit
import Derived.ProofKit
import Derived.OpenShut
import Derived.ShutString
import Derived.ChangeOld
import Derived.Below
import Derived.Test.YtofclflcicjlaaaGreatAl
import Derived.Test.YtofclflcicjlaaaGreatMdq
import Derived.Deep.RegionWith
import Derived.Deep.RegionHeld3
import Derived.OwnWalk
import Derived.BigRegion
import Derived.Deep.QuietTactic
import Derived.BigQuiet
namespace Go.Proofs.YtofclflcicjlaaaGreat
open Go.ChangeShapes Go.WideShapes Go.ChangeAt Go.RowKit
open Go.ChangeMaps (open_string shut_string)
set_option linter.unusedVariables false

theorem md_B {w4 w10 : World} {o : Obj} {c0 c1 u0 u1 v : Value} {n : Nat} {xs : List Value} (B10 : Below (w4.alloc o).drew.heap.size (w4.alloc o).drew w10) (Z : Blk w10 w4.heap.size #[c0, c1] 34)
    (R2 : w10.ownsRow (w4.alloc o).drew.heap.size 74 2 v n xs) (W11 : World) (hW : W11 = (w10.setCell ⟨w4.heap.size, 0, none⟩ u0).setCell ⟨w4.heap.size, 1, none⟩ u1) :
    Blk W11 w4.heap.size #[u0, u1] 34 ∧ Below w4.heap.size w4 W11 ∧ W11.ownsRow (w4.alloc o).drew.heap.size 74 2 v n xs := by
  have hsz : (w4.alloc o).drew.heap.size = w4.heap.size + 1 := by show (w4.alloc o).heap.size = _; simp
  have b0 : Below w4.heap.size w4 w10 := ((Below.refl _ w4).alloc (Nat.le_refl _) o).drew.trans (B10.mono (by omega))
  have k1 : Chg (· = w4.heap.size) w10 (w10.setCell ⟨w4.heap.size, 0, none⟩ u0) := chg_set (chg_refl _ _) _ _ (fun _ => rfl)
  have k2 : Chg (· = w4.heap.size) w10 W11 := by rw [hW]; exact chg_set k1 _ _ (fun _ => rfl)
  refine ⟨?_, ?_, own_kept R2 k2 (fun k hk e => by have := (R2.lt k hk).1; omega)⟩
  · rw [hW]
    have := blk_set (blk_set Z 0 u0) 1 u1
    simpa using this
  · rw [hW]
    exact (b0.setCell (p := ⟨w4.heap.size, 0, none⟩) (Nat.le_refl _) u0).setCell (p := ⟨w4.heap.size, 1, none⟩) (Nat.le_refl _) u1
theorem rp_own {W : World} {base e n cap m : Nat} {a : Option Addr} {ps : List (Int × Int)} (h : W.ownsRow base e 2 (.slice a m cap) n (pvs ps)) : RP W a n ps := by
  obtain ⟨a', cap', hv, -, -, r⟩ := own_rp h
  injection hv with e1
  subst e1
  exact r
theorem held_go {w8 a b : World} {p : Prop} (h : p ∧ Below w8.heap.size w8 a) (k : Below a.heap.size a b) : Below w8.heap.size w8 b := h.2.trans (k.mono h.2.size)
set_option maxRecDepth 100000 in
set_option maxHeartbeats 8000000 in
theorem made_walk (a : Option Addr) (n cap : Nat) (lim at' by' cut : Int) (w : World) (h : RU w a n) (hn : n ≤ 9223372036854775807) (hl : 0 ≤ lim ∧ lim ≤ 255) (hat : 0 ≤ at' ∧ at' ≤ 65535) (hby : 0 ≤ by' ∧ by' ≤ 255) (hcut : 0 ≤ cut ∧ cut ≤ 65535) :
    Calls Tryz.prog 4 #[.slice a n cap, .int .u8 lim, .int .u16 at', .int .u8 by', .int .u16 cut] w fun e w' => e = .returned (.bool true) ∧ Below w.heap.size w w' := by
  have NU := numbers_any a n cap w h hn
  obtain ⟨r, hr⟩ : ∃ r : Nat, lim % 6 = (r : Int) := ⟨(lim % 6).toNat, by omega⟩
  have hrt : lim.tmod 6 = (r : Int) := by rw [Int.tmod_eq_emod_of_nonneg hl.1]; exact hr
  obtain ⟨K, hK⟩ : ∃ K : Nat, 7 + (r : Int) = (K : Int) := ⟨7 + r, by omega⟩
  have wr' : IntKind.i64.wrap (r : Int) = (r : Int) := by rw [IntKind.wrap_i64]; omega
  have wb : IntKind.i64.wrap lim = lim := by rw [IntKind.wrap_i64]; omega
  obtain ⟨hl0, hl1⟩ := hl
  clear h hn
  go_enter Tryz.func4, Tryz.ntmps4
  go_wp2_with fail
  with_reducible refine NU.mono ?_
  rintro e w1 ⟨v, zs, rfl, f1, f2, f3, f4⟩
  obtain ⟨az, cz, rfl, -, -, r1⟩ := own_ri f3
  have RPs := rparts_any az zs.length cz zs w1 r1 f1 (by omega)
  have HF := Hid.intro f1
  have H4 := Hid.intro f4
  clear NU f1 f3 f4 r1
  go_wp2_with fail
  with_reducible refine RPs.mono ?_
  rintro e w2 ⟨v2, rfl, g1, g2⟩
  obtain ⟨ap, cp, rfl, hcp1, hcp2, r2⟩ := own_rp g1
  have ROf := rof_any ap zs.length cp (zs.map spl) w2 r2 (by omega)
  have HB2 := Hid.intro (H4.out.trans (g2.mono H4.out.size))
  have HR2 := Hid.intro r2
  clear RPs g1 g2 r2 H4
  go_wp2_with fail
  with_reducible refine ROf.mono ?_
  rintro e w3 ⟨v3, rfl, g1, g2⟩
  obtain ⟨bf, cf, rfl⟩ := own_slice g1 (by omega)
  have RN := rnorm_any (some ⟨bf, 0, none⟩) 65 cf (cnt (zs.map spl)) (K : Int) w3 (own_ri' g1) (by omega)
  have HB3 := Hid.intro (HB2.out.trans (g2.mono HB2.out.size))
  have HR3 := Hid.intro (rp_below HR2.out g2)
  clear ROf g1 g2 HB2 HR2
  have ML : (normA (cnt (zs.map spl)) (K : Int)).2.length ≤ 65 := by
    rcases norm_cases (cnt (zs.map spl)) (K : Int) with e | ⟨M, e, h1, -⟩
    · rw [e]; exact Nat.zero_le _
    · rw [e]; exact Nat.le_of_eq h1
  generalize normA (cnt (zs.map spl)) (K : Int) = NA at *
  obtain ⟨ne, M⟩ := NA
  simp only at ML
  go_wp2_with fail
  with_reducible refine RN.mono ?_
  rintro e w4 ⟨v4, rfl, m3, m4⟩
  clear RN
  simp only at m3 ⊢
  obtain ⟨bl, cl, rfl, -, -, ri4⟩ := own_ri (zs := M.map Int.ofNat) m3
  obtain ⟨nl, hnl⟩ : ∃ nl, M.length = nl := ⟨_, rfl⟩
  simp only [hnl] at ri4 ML ⊢
  have k5 := blk_new w4 #[.slice bl nl cl, .int .i64 (ne : Int)] 45
  have b5 : Below w4.heap.size w4 (w4.alloc (.cells #[.slice bl nl cl, .int .i64 (ne : Int)] 45)) := (Below.refl _ _).alloc (Nat.le_refl _) _
  have cc5 : (w4.alloc (.cells #[.slice bl nl cl, .int .i64 (ne : Int)] 45)).cell? ⟨w4.heap.size, 0, none⟩ = some (.slice bl nl cl) := by rw [blk_cell k5]; rfl
  have h35 := m4.trans (b5.mono m4.size)
  have HB5 := Hid.intro (HB3.out.trans (h35.mono HB3.out.size))
  have rp5 := rp_below HR3.out h35
  have ri5 := ri_below ri4 b5
  have hfp := fp_spl zs HF.out
  have PU0 := sput_any ap zs.length cp (zs.map spl) bl nl cl (M.map Int.ofNat) (K : Int) _ rp5 hfp (by omega) hcp1 ri5 (by omega)
  have PU1 : Aside (∀ W, Below (w4.alloc (.cells #[.slice bl nl cl, .int .i64 (ne : Int)] 45)).heap.size (w4.alloc (.cells #[.slice bl nl cl, .int .i64 (ne : Int)] 45)) W → Calls Tryz.prog 7 #[.slice ap zs.length cp, .slice bl nl cl, .int .i64 (K : Int)] W fun e W' => e = .returned (.agg #[.string (bs (putS (M.map Int.ofNat) (K : Int) (zs.map spl)).2), .int .i64 ((putS (M.map Int.ofNat) (K : Int) (zs.map spl)).1 : Nat)]) ∧ Below W.heap.size W W') :=
    fun W hW => rputs_any ap zs.length cp (zs.map spl) bl nl cl (M.map Int.ofNat) (K : Int) W (rp_below rp5 hW) hfp (by omega) (ri_below ri5 hW) (by omega)
  have SZ := putS_size (f := M.map Int.ofNat) (z := (K : Int)) hfp (by rw [List.length_map]; exact f2)
  have RI5 := Hid.intro ri5
  obtain ⟨PE, hPE⟩ : ∃ PE, (putS (M.map Int.ofNat) (K : Int) (zs.map spl)).1 = PE := ⟨_, rfl⟩
  obtain ⟨s, hs0⟩ : ∃ s, bs (putS (M.map Int.ofNat) (K : Int) (zs.map spl)).2 = s := ⟨_, rfl⟩
  have hsz : s.size ≤ 9000 := by rw [← hs0, size_bs]; exact SZ
  rw [hPE, hs0] at PU0 PU1
  obtain ⟨CN, hCN⟩ : ∃ CN, w4.heap.size = CN := ⟨_, rfl⟩
  rw [hCN] at k5 cc5
  have K5' := Hid.intro k5
  clear m3 m4 ri4 h35 rp5 ri5 SZ hPE hs0 k5 b5 HR3 HB3
  go_wp2_with fail
  generalize w4.alloc (.cells #[.slice bl nl cl, .int .i64 (ne : Int)] 45) = w5 at *
  clear hCN
  with_reducible refine PU0.mono ?_
  rintro e w6 ⟨rfl, b6⟩
  have PU2 := PU1.out w6 b6
  have HB6 := Hid.intro b6
  have cc6 := (b6.cell (p := ⟨CN, 0, none⟩) (blk_lt K5'.out)).trans cc5
  clear PU0 PU1 b6 cc5
  go_wp2_with fail
  with_reducible refine PU2.mono ?_
  rintro e w7 ⟨rfl, b7⟩
  clear PU2 cc6
  have b8 : Below w7.heap.size w7 (w7.alloc (.cells #[.string s, .int .i64 (PE : Int)] 29)) := (Below.refl _ _).alloc (Nat.le_refl _) _
  have k8 := blk_new w7 #[.string s, .int .i64 (PE : Int)] 29
  have h58 := (HB6.out.trans (b7.mono HB6.out.size)).trans (b8.mono (HB6.out.trans (b7.mono HB6.out.size)).size)
  obtain ⟨w8, hw8⟩ : ∃ w8, w7.alloc (.cells #[.string s, .int .i64 (PE : Int)] 29) = w8 := ⟨_, rfl⟩
  rw [hw8] at b8 k8 h58
  have hS : (w8.drew.cell? ⟨w7.heap.size, 0, none⟩ = some (.string s) ∧ w8.drew.cell? ⟨w7.heap.size, 1, none⟩ = some (.int .i64 (PE : Int))) ∧ Below w8.heap.size w8 w8.drew :=
    ⟨⟨by show w8.cell? _ = _; rw [blk_cell k8]; rfl, by show w8.cell? _ = _; rw [blk_cell k8]; rfl⟩, (Below.refl _ _).drew⟩
  have bkl := blk_lt k8
  have ER : ∀ x W, Calls Tryz.prog 10 #[.int .i64 x] W fun e W' => e = .returned (.int .i64 x) ∧ Below W.heap.size W W' := fun x W => (err_i x W).mono (by rintro e W' ⟨rfl, h⟩; exact ⟨rfl, held_same h⟩)
  have t0 : (s.toList == s.toList) = true := by simp
  have t2e : ((PE : Int) == (PE : Int)) = true := by simp
  have H58 := Hid.intro h58
  have HW8 := Hid.intro hw8
  clear b8 k8 h58 hw8 b7 HB6
  go_wp2_with fail
  rw [HW8.out]
  clear HW8
  go_region_held3 (fun W => (W.cell? ⟨w7.heap.size, 0, none⟩ = some (.string s) ∧ W.cell? ⟨w7.heap.size, 1, none⟩ = some (.int .i64 (PE : Int))) ∧ Below w8.heap.size w8 W) (first | exact hS | exact held_keep bkl (by assumption) (by assumption) | assumption) (first
    | (go_at_call 10; refine (ER _ _).mono ?_; rintro e w9 ⟨rfl, hb9⟩))
  have hT : ∃ p : Prop, p ∧ Below w8.heap.size w8 w9 := ⟨_, by assumption⟩
  obtain ⟨_, _, hT⟩ := hT
  have H59 := Hid.intro (H58.out.trans (hT.mono H58.out.size))
  clear hT hS bkl ER t0 t2e hb9 H58
  obtain ⟨sz, hsz2⟩ : ∃ sz, s.size = sz := ⟨_, rfl⟩
  have hsz9 : sz ≤ 9000 := by rw [← hsz2]; exact hsz
  have hsx : (s ++ ⟨#[120]⟩ : ByteArray).size = sz + 1 := by rw [ByteArray.size_append, hsz2]; rfl
  obtain ⟨sx, hsx0⟩ : ∃ sx, s ++ ⟨#[120]⟩ = sx := ⟨_, rfl⟩
  rw [hsx0] at hsx
  obtain ⟨capB, w12, hcv, RM, hc1, hc2⟩ := bytes_of2 sx w9 (by omega)
  obtain ⟨i, hi⟩ : ∃ i : Nat, at' % ((sz : Int) + 1) = (i : Int) := ⟨(at' % ((sz : Int) + 1)).toNat, by have := Int.emod_nonneg at' (b := (sz : Int) + 1) (by omega); omega⟩
  have his : i < sz + 1 := by have := Int.emod_lt_of_pos at' (b := (sz : Int) + 1) (by omega); omega
  obtain ⟨j, hj⟩ : ∃ j : Nat, cut % ((sz : Int) + 1) = (j : Int) := ⟨(cut % ((sz : Int) + 1)).toNat, by have := Int.emod_nonneg cut (b := (sz : Int) + 1) (by omega); omega⟩
  have hjs : j < sz + 1 := by have := Int.emod_lt_of_pos cut (b := (sz : Int) + 1) (by omega); omega
  have hil : i < sx.data.toList.length := by rw [len_data, hsx]; exact his
  have hcell := RM.2.1 i hil
  have fcell := (RM.1 i (by rw [hsx]; exact his)).2
  obtain ⟨b, rfl⟩ : ∃ b : Nat, by' = (b : Int) := ⟨by'.toNat, by omega⟩
  have hb256 : b < 256 := by omega
  obtain ⟨x, hx⟩ : ∃ x, sx.data.toList[i].toNat = x := ⟨_, rfl⟩
  have hx256 : x < 256 := by rw [← hx]; exact UInt8.toNat_lt _
  have hxor := u8_xor_nat x b hx256 hb256
  have hy256 : x ^^^ b < 256 := Nat.xor_lt_two_pow (n := 8) hx256 hb256
  have RM2 := room_upd RM i hil (UInt8.ofNat (x ^^^ b)) ((x ^^^ b : Nat) : Int) (by rw [u8_of _ hy256])
  have hl2 : (sx.data.toList.set i (UInt8.ofNat (x ^^^ b))).length = sz + 1 := by rw [List.length_set, len_data, hsx]
  have cv1 := room_str2 RM2 sz capB (by omega)
  have cv2 := room_str2 RM2 (sz + 1) capB (by omega)
  have HB13 := Hid.intro (H59.out.trans (RM2.2.2.1.mono H59.out.size))
  rw [hx] at hcell
  have ht1 : Hid ((bs ((sx.data.toList.set i (UInt8.ofNat (x ^^^ b))).take sz)).size ≤ 10000) := by show _ ≤ _; rw [size_bs, List.length_take]; omega
  have ht2 : Hid ((bs ((sx.data.toList.set i (UInt8.ofNat (x ^^^ b))).take (sz + 1))).size ≤ 10000) := by show _ ≤ _; rw [size_bs, List.length_take]; omega
  have ht3 : Hid ((s.extract 0 j).size ≤ 10000) := by show _ ≤ _; simp; omega
  generalize bs ((sx.data.toList.set i (UInt8.ofNat (x ^^^ b))).take sz) = t1 at *
  generalize bs ((sx.data.toList.set i (UInt8.ofNat (x ^^^ b))).take (sz + 1)) = t2 at *
  generalize x ^^^ b = y at *
  obtain ⟨S2, hS2⟩ : ∃ S2, w9.heap.size = S2 := ⟨_, rfl⟩
  simp only [hS2] at hcv hcell fcell cv1 cv2 HB13
  rw [hsx] at hcv
  simp only [maxLen] at hc2
  clear RM RM2 hx hS2 H59 hil hl2
  go_wp2_with fail
  clear hcv hcell fcell hxor
  generalize w12.setCell ⟨S2, i, none⟩ (.int .u8 (y : Int)) = w13 at *
  go_region
  go_wp2_with fail
  have b1314 : Below w13.heap.size w13 (w13.alloc (.cells #[.string s, .string t1, .string t2, .string (s.extract 0 j)] 9)) := (Below.refl _ _).alloc (Nat.le_refl _) _
  have hx4 : Hid (∀ q, q < 4 → ∃ t : ByteArray, t.size ≤ 10000 ∧ ∀ W, Below (w13.alloc (.cells #[.string s, .string t1, .string t2, .string (s.extract 0 j)] 9)).drew.heap.size (w13.alloc (.cells #[.string s, .string t1, .string t2, .string (s.extract 0 j)] 9)).drew W → W.cell? ⟨w13.heap.size, q, none⟩ = some (.string t)) := by
    intro q hq
    have bn := blk_new w13 #[.string s, .string t1, .string t2, .string (s.extract 0 j)] 9
    have hlt := blk_lt bn
    rcases (by omega : q = 0 ∨ q = 1 ∨ q = 2 ∨ q = 3) with rfl | rfl | rfl | rfl
    · exact ⟨s, by omega, fun W hW => by rw [hW.cell (p := ⟨w13.heap.size, 0, none⟩) hlt]; show (w13.alloc _).cell? _ = _; rw [blk_cell bn]; rfl⟩
    · exact ⟨t1, ht1.out, fun W hW => by rw [hW.cell (p := ⟨w13.heap.size, 1, none⟩) hlt]; show (w13.alloc _).cell? _ = _; rw [blk_cell bn]; rfl⟩
    · exact ⟨t2, ht2.out, fun W hW => by rw [hW.cell (p := ⟨w13.heap.size, 2, none⟩) hlt]; show (w13.alloc _).cell? _ = _; rw [blk_cell bn]; rfl⟩
    · exact ⟨s.extract 0 j, ht3.out, fun W hW => by rw [hW.cell (p := ⟨w13.heap.size, 3, none⟩) hlt]; show (w13.alloc _).cell? _ = _; rw [blk_cell bn]; rfl⟩
  have H514 := HB13.out.trans (b1314.drew.mono HB13.out.size)
  have HB14 := Hid.intro (HB5.out.trans (H514.mono HB5.out.size))
  have RI14 := Hid.intro (ri_below RI5.out H514)
  have K14 := blk_below K5'.out H514 (blk_lt K5'.out)
  generalize (w13.alloc (.cells #[.string s, .string t1, .string t2, .string (s.extract 0 j)] 9)).drew = w14 at *
  have CX : Hid (∀ W, Below w14.heap.size w14 W → W.cell? ⟨CN, 0, none⟩ = some (.slice bl nl cl)) := fun W hW => by
    rw [hW.cell (p := ⟨CN, 0, none⟩) (blk_lt K14), blk_cell K14]; rfl
  obtain ⟨X, hX⟩ : ∃ X, w13.heap.size = X := ⟨_, rfl⟩
  simp only [hX] at hx4 ⊢
  have ST : Hid (MdO w14 (.int .i64 0) w14) := ⟨0, by omega, rfl, Below.refl _ _⟩
  clear b1314 HB13 hi hj hK hsz2 hsx ht1 ht2 ht3 his hjs hX cv1 cv2 hc1 hc2 hcut hat hr hrt wr' wb hl0 hl1 hsx0 hby K14 H514 K5' RI5 HB5 hsz hfp
  go_loopw [19] (fun iv wr => MdO w14 iv wr) (fun iv _ => 5 - (intOf iv).toNat)
  case atStart => exact ST.out
  case round =>
    clear ST
    obtain ⟨i4, hi4, rfl, e1⟩ := hrel
    by_cases hlt4 : i4 < 4
    · obtain ⟨t, hts, htc⟩ := hx4.out i4 hlt4
      have HTC := Hid.intro htc
      have ST2 : Hid (MdI w14 (.int .i64 (-1)) wr) := ⟨-1, by omega, by omega, rfl, e1⟩
      clear htc e1
      go_wp2_with fail
      have hd4 : decide ((i4 : Int) < 4) = true := by rw [decide_eq_true_eq]; omega
      simp only [hd4]
      clear hd4
      go_loopw [20] (fun kv w9 => MdI w14 kv w9) (fun kv _ => (3 - intOf kv).toNat)
      case atStart => exact ST2.out
      case round =>
        clear ST2
        obtain ⟨z, hz1, hz2, rfl, e2⟩ := hrel
        by_cases hz : z < 2
        · obtain ⟨nz, hnz⟩ : ∃ nz : Int, (zs.length : Int) + z = nz := ⟨_, rfl⟩
          have wnz : IntKind.i64.wrap nz = nz := by rw [IntKind.wrap_i64]; omega
          have hri := ri_below RI14.out e2
          obtain ⟨g, hg⟩ : ∃ g, getS (M.map Int.ofNat) (K : Int) t.data.toList nz = g := ⟨_, rfl⟩
          have LL := getS_len (M.map Int.ofNat) (K : Int) t.data.toList nz
          have GU : Aside (∀ W, Below wr.heap.size wr W → Calls Tryz.prog 8 #[.string t, .int .i64 nz, .slice bl nl cl, .int .i64 (K : Int)] W fun e W' => SgPost g W e W') := fun W hW => by
            have := sget_any t nz bl nl cl (M.map Int.ofNat) (K : Int) W (by omega) (ri_below hri hW) (by omega)
            rw [hg] at this; exact this
          have RG : Aside (∀ W, Below wr.heap.size wr W → Calls Tryz.prog 9 #[.string t, .int .i64 nz, .slice bl nl cl, .int .i64 (K : Int)] W fun e W' => RgPost g W e W') := fun W hW => by
            have := rgets_any t nz bl nl cl (M.map Int.ofNat) (K : Int) W hts (ri_below hri hW) (by omega)
            rw [hg] at this; exact this
          rw [hg] at LL
          have MK : Aside (∀ W, Below wr.heap.size wr W → (W.cell? ⟨X, i4, none⟩ = some (.string t) ∧ W.cell? ⟨CN, 0, none⟩ = some (.slice bl nl cl)) ∧ Below wr.heap.size wr W) := fun W hW =>
            ⟨⟨HTC.out W (e2.trans (hW.mono e2.size)), CX.out W (e2.trans (hW.mono e2.size))⟩, hW⟩
          have bd : Below wr.heap.size wr wr.drew := (Below.refl _ _).drew
          obtain ⟨er, Lp⟩ := g
          simp only at LL
          have E2 := Hid.intro e2
          have hi4z : (i4 : Int) < 4 := by omega
          have hi40 : (0 : Int) ≤ (i4 : Int) := by omega
          clear hg hri e2
          go_wp2_with fail
          go_region_held3 (fun W => (W.cell? ⟨X, i4, none⟩ = some (.string t) ∧ W.cell? ⟨CN, 0, none⟩ = some (.slice bl nl cl)) ∧ Below wr.heap.size wr W) (first | with_reducible exact MK.out _ bd | with_reducible exact MK.out _ (held_tail (by with_reducible assumption)) | with_reducible assumption) (first
            | (go_at_call 8; refine (GU.out _ ?_).mono ?_; exact held_tail (by with_reducible assumption); rintro e w4 ⟨v1, rfl, r1, b4⟩; have kk := MK.out w4 (held_go (by with_reducible assumption) b4); have R1 := Hid.intro r1; clear r1 b4))
          obtain ⟨a1, cap1, rfl, -, -, rp1⟩ := own_rp R1.out
          obtain ⟨ll, hll⟩ : ∃ ll, Lp.length = ll := ⟨_, rfl⟩
          have RP1 := Hid.intro rp1
          have LH := Hid.intro LL
          have kk2 := kk.2
          have bd4 := kk.2.drew
          clear rp1 R1 kk LL GU bd
          have bd4a : Below wr.heap.size wr (w4.alloc (.cells #[.slice none 0 0, .int .i64 0] 34)) := below_put kk2 _
          have BU := Hid.intro (blk_new w4 #[.slice none 0 0, .int .i64 0] 34)
          obtain ⟨⟨x1, x2⟩, -⟩ := MK.out _ bd4
          obtain ⟨⟨x3, x4⟩, -⟩ := MK.out _ bd4a.drew
          go_wp2_with fail
          go_region_with (go_at_call 9; refine (RG.out _ ?_).mono ?_; (first | with_reducible exact bd4 | with_reducible exact bd4a.drew | with_reducible exact bd4.drew | with_reducible exact bd4a.drew.drew); rintro e w10 ⟨v2, rfl, r2, b10⟩; obtain ⟨a2, cap2, rfl, -, -, rp2⟩ := own_rp r2; (first | (have zU := blk_below (blk_drew BU.out) b10 (blk_lt (blk_drew BU.out)); have c0 : w10.cell? ⟨w4.heap.size, 0, none⟩ = some (.slice none 0 0) := (by rw [blk_cell zU]; rfl); have c1 : w10.cell? ⟨w4.heap.size, 1, none⟩ = some (.int .i64 0) := (by rw [blk_cell zU]; rfl); have f0 := blk_free zU 0; have f1 := blk_free zU 1; have ZU := Hid.intro zU; clear zU) | skip); have R2 := Hid.intro r2; have B10 := Hid.intro b10; clear r2 rp2 b10)
          all_goals
            rw [hll] at R2 RP1
            first
            | (obtain ⟨W11, hW11⟩ : ∃ W11, W11 = w10.alloc (.cells #[.slice a2 ll cap2, .int .i64 (er : Int)] 34) := ⟨_, rfl⟩
               obtain ⟨U, hU⟩ : ∃ U, U = w10.heap.size := ⟨_, rfl⟩
               have b0 : Below w4.heap.size w4 w10 := (Below.refl _ w4).drew.trans B10.out
               have bk : Blk W11 U #[.slice a2 ll cap2, .int .i64 (er : Int)] 34 := by rw [hW11, hU]; exact blk_new _ _ _
               have b11 : Below w10.heap.size w10 W11 := by rw [hW11]; exact (Below.refl _ _).alloc (Nat.le_refl _) _
               have bw := b0.trans (b11.mono b0.size)
               have rA := rp_below RP1.out bw
               have rB := rp_below (rp_own R2.out) b11
               have bwr := kk2.trans (bw.mono kk2.size)
               rw [← hW11, ← hU]
               clear b0 b11 bw hW11 hU R2 RP1 B10)
            | (obtain ⟨W11, hW11⟩ : ∃ W11, W11 = (w10.setCell ⟨w4.heap.size, 0, none⟩ (.slice a2 ll cap2)).setCell ⟨w4.heap.size, 1, none⟩ (.int .i64 (er : Int)) := ⟨_, rfl⟩
               obtain ⟨bk, bw, r11⟩ := md_B B10.out ZU.out R2.out W11 hW11
               obtain ⟨U, hU⟩ : ∃ U, U = w4.heap.size := ⟨_, rfl⟩
               have rA := rp_below RP1.out bw
               have rB := rp_own r11
               have bwr := kk2.trans (bw.mono kk2.size)
               rw [← hU] at bk
               rw [← hW11, ← hU]
               clear bw r11 hW11 hU R2 RP1 B10 ZU c0 c1 f0 f1)
            have hS : (W11.drew.cell? ⟨U, 0, none⟩ = some (.slice a2 ll cap2) ∧ W11.drew.cell? ⟨U, 1, none⟩ = some (.int .i64 (er : Int))) ∧ Below W11.heap.size W11 W11.drew :=
              ⟨⟨by show W11.cell? _ = _; rw [blk_cell bk]; rfl, by show W11.cell? _ = _; rw [blk_cell bk]; rfl⟩, (Below.refl _ _).drew⟩
            have bkl := blk_lt bk
            have SA : ∀ W, Below W11.heap.size W11 W → Calls Tryz.prog 11 #[.slice a1 ll cap1, .slice a2 ll cap2] W fun e W' => e = .returned (.bool true) ∧ Below W.heap.size W W' := fun W hW => by
              have c := sameP_any a1 a2 ll ll cap1 cap2 (Lp.map toIP) (Lp.map toIP) W (rp_below rA hW) (rp_below rB hW) (by have := LH.out; omega) (by have := LH.out; omega)
              rw [decide_eq_true rfl] at c; exact c
            have ER : ∀ x W, Calls Tryz.prog 10 #[.int .i64 x] W fun e W' => e = .returned (.int .i64 x) ∧ Below W.heap.size W W' := fun x W => (err_i x W).mono (by rintro e W' ⟨rfl, h⟩; exact ⟨rfl, held_same h⟩)
            have t2e : ((er : Int) == (er : Int)) = true := by simp
            have HB8 := Hid.intro (E2.out.trans (bwr.mono E2.out.size))
            clear bk rA rB bwr E2 kk2 bd4 bd4a x1 x2 x3 x4 BU MK RG
            go_wp2_with fail
            go_region_held3 (fun W => (W.cell? ⟨U, 0, none⟩ = some (.slice a2 ll cap2) ∧ W.cell? ⟨U, 1, none⟩ = some (.int .i64 (er : Int))) ∧ Below W11.heap.size W11 W) (first | exact hS | exact held_keep bkl (by assumption) (by assumption) | assumption) (first
              | (go_at_call 11; refine (SA _ ?_).mono ?_; exact held_tail (by assumption); rintro e w9 ⟨rfl, hb9⟩)
              | (go_at_call 10; refine (ER _ _).mono ?_; rintro e w9 ⟨rfl, hb9⟩))
            all_goals
              have hT : ∃ p : Prop, p ∧ Below W11.heap.size W11 w9 := by first | exact ⟨_, by assumption⟩ | exact ⟨_, held_keep bkl (by assumption) (by assumption)⟩
              obtain ⟨_, _, hT⟩ := hT
              have B9 := Hid.intro (HB8.out.trans (hT.mono HB8.out.size))
              clear hT hS SA ER bkl t2e
              go_wp2_with fail
              go_roundw
              case rel => exact ⟨z + 1, by omega, by omega, rfl, B9.out⟩
              case measure => simp [intOf]; omega
        · have E2 := Hid.intro e2
          clear e2
          go_wp2_with fail
          go_roundw
          case rel => exact ⟨i4 + 1, by omega, by go_num, E2.out⟩
          case measure => simp [intOf]; omega
    · have AW := st_awake wr
      have E1 := Hid.intro e1
      clear e1
      go_wp2_with fail
      with_reducible refine AW.mono ?_
      rintro e w9 ⟨rfl, b9⟩
      have B9 := Hid.intro (E1.out.trans (b9.mono E1.out.size))
      clear AW b9
      go_wp2_with fail
      go_ret
      exact ⟨rfl, HB14.out.trans (B9.out.mono HB14.out.size)⟩

end Go.Proofs.YtofclflcicjlaaaGreat

namespace Go.Proofs.YtofclflcicjlaaaGreat.statesMade
open Go.ChangeShapes Go.WideShapes Go.ChangeAt Go.RowKit
open Go.ChangeMaps (open_string shut_string)
set_option linter.unusedVariables false

theorem own : ownKnob Tryz.prog.godebug = none := by kernel_rfl
theorem laidOut : laidOutB Tryz.prog = true := by kernel_rfl

/-- WHAT THE WALK IS TOLD OF A SLICE OF INTEGERS THAT CAME IN: it is nil; or it leads to a row of 'cap' cells, the numbers 'zs' (the first 'len' are its elements, the rest its spare room), each fitting its kind. -/
def IsRow (k : IntKind) (w : World) (a : Option Addr) (len cap : Nat) (zs : List Int) : Prop :=
  (a = none ∧ len = 0 ∧ cap = 0 ∧ zs = []) ∨
  ∃ x, a = some x ∧ len ≤ cap ∧ cap ≤ maxLen ∧ zs.length = cap ∧ (∀ i, i < zs.length → w.cell? (x.add i) = some (.int k (zs.getD i 0))) ∧ ∀ n ∈ zs, (Lit.int k n).wf = true

theorem row_ru {w : World} {a : Option Addr} {len cap : Nat} {zs : List Int} (h : IsRow .u16 w a len cap zs) : len ≤ maxLen ∧ RU w a len := by
  rcases h with ⟨rfl, rfl, rfl, rfl⟩ | ⟨x, rfl, h1, h2, h3, h4, h5⟩
  · exact ⟨Nat.zero_le _, fun h => absurd h (by omega)⟩
  · refine ⟨Nat.le_trans h1 h2, fun _ => ⟨x, rfl, fun i hi => ?_⟩⟩
    have hb := bounds_u16 (h5 _ (List.getElem_mem (by omega : i < zs.length)))
    refine ⟨zs[i]'(by omega), hb.1, by omega, ?_⟩
    rw [h4 i (by omega), List.getD_eq_getElem?_getD, List.getElem?_eq_getElem (by omega)]; rfl
theorem walk (a0 : Option Addr) (len0 cap0 : Nat) (z0 : List Int) (a1 : Int) (a2 : Int) (a3 : Int) (a4 : Int) (w : World) (w0 : IsRow .u16 w a0 len0 cap0 z0) (w1 : (Lit.int .u8 a1).wf = true) (w2 : (Lit.int .u16 a2).wf = true) (w3 : (Lit.int .u8 a3).wf = true) (w4 : (Lit.int .u16 a4).wf = true) :
    Calls Tryz.prog 4 #[.slice a0 len0 cap0, .int .u8 a1, .int .u16 a2, .int .u8 a3, .int .u16 a4] w fun e w' => e = .returned (.bool true) ∧ Below w.heap.size w w' := by
  have h1 := bounds_u8 w1
  have h2 := bounds_u16 w2
  have h3 := bounds_u8 w3
  have h4 := bounds_u16 w4
  obtain ⟨hm, hr⟩ := row_ru w0
  simp only [maxLen] at hm
  exact made_walk a0 len0 cap0 a1 a2 a3 a4 w hr (by omega) (by omega) (by omega) (by omega) (by omega)

/-! ### THE ROW's STEP: WRITTEN OUT: LEAVE IT -/
set_option maxRecDepth 100000 in
theorem lifted (os : Os) (started : os.Started) (H : Type) (enc : TypeId × Value → H) :
    ReturnsInHanded {} Tryz.checked os 4 .any (Rows.statesMadeSpec.pre6 enc Tryz.prog Tryz.f4 Rows.statesMadeRow.domain false) (Rows.statesMadeSpec.post enc Tryz.prog Tryz.f4 false true false false) := by
  refine returnsInHanded_of_change (C := Tryz.checked) own started (by kernel_rfl) Tryz.func4
    (ChangeSpec.witness6 (enc := enc) (C := Tryz.checked) false ⟨#[], #[.slice none 0 0, .int .u8 0, .int .u16 0, .int .u8 0, .int .u16 0], []⟩ 8 (by kernel_rfl) (by kernel_rfl) (by kernel_rfl) (by kernel_rfl)) ?_
  intro W base args ds gs before hval0 hW hcnd _
  have hval : ∀ (j : Nat) t v, Tryz.f4.params[j]? = some t → args[j]? = some v → Value.okWide Tryz.prog W .any base t v := hval0
  have hW' := hW
  obtain ⟨p, q, hA0, hV, rfl, hfz, hnd⟩ := hW
  have hA : DataW.TrodAll enc Tryz.prog W 0 (fun _ => true) true Tryz.f4.params.toList args.toList ds p := hA0
  rw [Tryz.params4] at hA hval
  obtain ⟨v0, vs0, d0, ds0, p0, q0, hargs, rfl, rfl, h0, r0⟩ := trodAll_cons hA
  obtain ⟨v1, vs1, d1, ds1, p1, q1, rfl, rfl, rfl, h1, r1⟩ := trodAll_cons r0
  obtain ⟨v2, vs2, d2, ds2, p2, q2, rfl, rfl, rfl, h2, r2⟩ := trodAll_cons r1
  obtain ⟨v3, vs3, d3, ds3, p3, q3, rfl, rfl, rfl, h3, r3⟩ := trodAll_cons r2
  obtain ⟨v4, vs4, d4, ds4, p4, q4, rfl, rfl, rfl, h4, r4⟩ := trodAll_cons r3
  obtain ⟨rfl, rfl, rfl⟩ := trodAll_nil r4
  obtain rfl : args = #[v0, v1, v2, v3, v4] := by cases args; simp_all
  obtain ⟨rfl, rfl⟩ := trodVars_none hV
  obtain ⟨a0, len0, cap0, rfl⟩ := okWide_slice Tryz.underlying39 (hval 0 39 v0 rfl rfl)
  have k0 := h0
  have lt0 : ∀ x ∈ p0, x.block < W.heap.size := by obtain ⟨m, hm⟩ := k0; exact DataW.trod_lt m _ _ _ hm
  obtain ⟨z0, w0⟩ : ∃ zs, IsRow .u16 W a0 len0 cap0 zs := by
    obtain ⟨fuel, hf⟩ := h0
    rcases open_ints Tryz.underlying39 Tryz.underlying40 (by kernel_rfl) hf with ⟨hcs, _⟩ | ⟨x, l, c, zs, hcs, _, hl, hm, hz, _, hcell, hwz⟩
    · simp [Value.cells] at hcs
      obtain ⟨rfl, rfl, rfl⟩ := hcs
      exact ⟨[], .inl ⟨rfl, rfl, rfl, rfl⟩⟩
    · simp [Value.cells] at hcs
      obtain ⟨rfl, rfl, rfl⟩ := hcs
      exact ⟨zs, .inr ⟨_, rfl, hl, hm, by simpa using hz, hcell, hwz⟩⟩
  obtain ⟨a1, rfl, rfl, rfl, w1⟩ := open_int Tryz.underlying5 (hval 1 5 v1 rfl rfl) h1
  obtain ⟨a2, rfl, rfl, rfl, w2⟩ := open_int Tryz.underlying40 (hval 2 40 v2 rfl rfl) h2
  obtain ⟨a3, rfl, rfl, rfl, w3⟩ := open_int Tryz.underlying5 (hval 3 5 v3 rfl rfl) h3
  obtain ⟨a4, rfl, rfl, rfl, w4⟩ := open_int Tryz.underlying40 (hval 4 40 v4 rfl rfl) h4
  clear hA0 hval0
  refine (walk a0 len0 cap0 z0 a1 a2 a3 a4 W w0 w1 w2 w3 w4).mono fun e W' ⟨he, bel⟩ => ?_
  subst he
  exact ⟨_, rfl, _, _, _, [], _, [], hW', trodAll_mk1 (shut_bool Tryz.underlying4 _), (trodAll_cons_mk (Below.trod laidOut (by kernel_rfl) (of_decide_eq_true (by kernel_rfl)) k0 bel lt0) (trodAll_cons_mk (shut_int Tryz.underlying5 w1) (trodAll_cons_mk (shut_int Tryz.underlying40 w2) (trodAll_cons_mk (shut_int Tryz.underlying5 w3) (trodAll_cons_mk (shut_int Tryz.underlying40 w4) trodAll_mk0))))), rfl, bel.frame _, fun h => by cases h⟩

theorem over : Rows.statesMadeRow.holds Tryz.pinned (OpenSpec.ofChange Rows.statesMadeSpec) :=
  OpenClaim.holds_of_wide 4 Tryz.f4 rfl rfl rfl rfl rfl rfl rfl ⟨rfl, rfl, rfl, rfl, rfl⟩ rfl rfl rfl rfl rfl (by kernel_rfl) Tryz.func4 (by kernel_rfl)
    (of_decide_eq_true (by kernel_rfl)) (by unfold Func.isWrapper; first | (rw [if_pos (by decide +kernel)]; kernel_rfl) | (rw [if_neg (by decide +kernel)]; exact ⟨rfl, rfl⟩))
    (fun os started H enc _ => lifted os started H enc)

/-- ████ THE STATEMENT ████ -/
theorem proved : Rows.StatesMadeSaid := over
end Go.Proofs.YtofclflcicjlaaaGreat.statesMade

namespace Go.Proofs.YtofclflcicjlaaaGreat
theorem statesMade_holds : Rows.StatesMadeSaid := statesMade.proved
#print axioms statesMade_holds
end Go.Proofs.YtofclflcicjlaaaGreat
