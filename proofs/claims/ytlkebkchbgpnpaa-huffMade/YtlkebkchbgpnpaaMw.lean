/-
  HuffMade: the walk.
-/
import Derived.Test.YtlkebkchbgpnpaaGh
import Derived.Test.YtlkebkchbgpnpaaPu
import Derived.Test.YtlkebkchbgpnpaaRz
import Derived.Test.YtlkebkchbgpnpaaCt
import Derived.Test.YtlkebkchbgpnpaaLw
import Derived.Test.YtlkebkchbgpnpaaJa
import Derived.BigRegion
import Derived.Laws.AppendOwn
import Derived.Deep.QuietTactic
import Derived.Deep.RegionWith
import Derived.Deep.RegionHeld3
import Derived.OwnWalk
import Derived.ChangeOld
import Derived.Below
import Derived.BigQuiet
namespace Go.Proofs.Ytlkebkchbgpnpaa
open Go.ChangeShapes Go.WideShapes Go.ChangeAt Go.RowKit
open Go.ChangeMaps (open_string shut_string)

theorem bytes_of2 (s : ByteArray) (w : World) (hs : s.size ≤ 100000) : ∃ cap W3, (convert 9 48 (.string s)).run Try.prog w = .ok (.slice (some ⟨w.heap.size, 0, none⟩) s.size cap) W3 ∧ Room w.heap.size w W3 s.size s.data.toList ∧ s.size ≤ cap ∧ cap ≤ maxLen := by
  obtain ⟨cap, W3, h, r⟩ := bytes_of s w
  have e := run_bytes_of_string (P := Try.prog) w 9 48 5 s Try.underlying9 Try.underlying48 Try.underlying5
  rw [h] at e
  injection e with e1 e2
  injection e1 with _ _ e3
  subst e3
  exact ⟨_, _, h, r, grownCap_ge _ _ _ _, grownCap_le_maxLen _ _ _ _ (by simp only [maxLen]; omega)⟩
theorem room_str2 {B : Nat} {w wr : World} {cap : Nat} {l : List UInt8} (h : Room B w wr cap l) (n c : Nat) (hn : n ≤ l.length) :
    (convert 48 9 (.slice (some ⟨B, 0, none⟩) n c)).run Try.prog wr.drew = .ok (.string (bs (l.take n))) wr.drew := by
  have hl : (l.take n).length = n := by rw [List.length_take]; omega
  have := run_convert_bytes_back wr.drew 48 9 5 ⟨B, 0, none⟩ c (l.take n) Try.underlying48 Try.underlying5 Try.underlying9 (fun j hj => by
    rw [Addr.add_lit, Nat.zero_add]
    have h2 := h.2.1 j (by omega)
    rw [List.getElem_take]
    exact h2)
  rw [hl] at this
  exact this
/-- A text of those that are tried. -/
def MdO (w14 : World) (iv : Value) (wr : World) : Prop := ∃ i : Nat, i ≤ 4 ∧ iv = .int .i64 i ∧ Below w14.heap.size w14 wr
def MdI (w14 : World) (kv : Value) (wr : World) : Prop := ∃ z : Int, -1 ≤ z ∧ z ≤ 2 ∧ kv = .int .i64 z ∧ Below w14.heap.size w14 wr
set_option maxRecDepth 100000 in
set_option maxHeartbeats 4000000 in
theorem made_walk (a : Option Addr) (n cap : Nat) (lim at' by' cut : Int) (w : World) (h : RU w a n) (hn : n ≤ 9223372036854775807) (hl : 0 ≤ lim ∧ lim ≤ 255) (hat : 0 ≤ at' ∧ at' ≤ 65535) (hby : 0 ≤ by' ∧ by' ≤ 255) (hcut : 0 ≤ cut ∧ cut ≤ 65535) :
    Calls Try.prog 4 #[.slice a n cap, .int .u8 lim, .int .u16 at', .int .u8 by', .int .u16 cut] w fun e w' => e = .returned (.bool true) ∧ Below w.heap.size w w' := by
  have NU := numbers_any a n cap w h hn
  obtain ⟨k, hk⟩ : ∃ k : Nat, 7 + lim % 9 = (k : Int) := ⟨(7 + lim % 9).toNat, by omega⟩
  have k7 : 7 ≤ k := by omega
  have k15 : k ≤ 15 := by omega
  have fi := fld_ints
  have ft := fld_text
  clear h hn
  go_enter Try.func4, Try.ntmps4
  go_wp2_with fail
  with_reducible refine NU.mono ?_
  rintro e w1 ⟨v, zs, rfl, f1, f2, f3, f4⟩
  obtain ⟨az, cz, rfl, -, -, r1⟩ := own_ri f3
  have RPs := rparts_any az zs.length cz zs w1 r1 f1 (by omega)
  have HF := Hid.intro f1
  have H4 := Hid.intro f4
  clear NU f1 f3 f4 r1
  go_wp2_with fail
  with_reducible refine RPs.mono ?_
  rintro e w2 ⟨v2, rfl, g1, g2⟩
  obtain ⟨ap, cp, rfl, hcp1, hcp2, r2⟩ := own_rp g1
  have ROf := rof_any ap zs.length cp (zs.map spl) w2 r2 (by omega)
  have HB2 := Hid.intro (H4.out.trans (g2.mono H4.out.size))
  have HR2 := Hid.intro r2
  clear RPs g1 g2 r2 H4
  go_wp2_with fail
  with_reducible refine ROf.mono ?_
  rintro e w3 ⟨v3, rfl, g1, g2⟩
  obtain ⟨bf, cf, rfl⟩ := own_slice g1 (by omega)
  have RL := rlengths_yes (some ⟨bf, 0, none⟩) cf (cnt (zs.map spl)) k w3 (own_ri2 g1) (may_of2 (cnt_bd _ (by simpa using f2)) k k7 k15)
  have HB3 := Hid.intro (HB2.out.trans (g2.mono HB2.out.size))
  have HR3 := Hid.intro (rp_below HR2.out g2)
  clear ROf g1 g2 HB2 HR2
  go_wp2_with fail
  with_reducible refine RL.mono ?_
  rintro e w4 hpost
  obtain ⟨vx, o, r, rfl, m1, m2, m3, m4⟩ := hpost
  obtain ⟨bl, cl4, rfl⟩ := own_slice m3 (by omega)
  have LO : Hid (LenOf w zs (put o r)) := lenOf_put w HF.out f2 m1 m2 k7 k15 (fun p hp c e hc => cnt_pos hp c e hc)
  have HB4 := Hid.intro (HB3.out.trans (m4.mono HB3.out.size))
  have HR4 := Hid.intro (rp_below HR3.out m4)
  have HL4 : Hid (RI w4 (some ⟨bl, 0, none⟩) 65 ((put o r).map Int.ofNat)) := own_ri2 m3
  generalize put o r = L at *
  clear RL m1 m2 m3 m4 HB3 HR3
  obtain ⟨s1, s2, s3, s4, s5⟩ := said_all L zs HF.out LO.out.2.2.2.1 (by omega) LO.out.2.2.2.2.1
  have hle := hput_le L zs HF.out LO.out.2.2.1 f2
  have PU0 := hput_any ap zs.length cp (zs.map spl) (some ⟨bl, 0, none⟩) 65 cl4 (L.map Int.ofNat) w4 HR4.out (fp_spl zs HF.out) (by omega) HL4.out (by omega)
  have PU1 : Hid (∀ W, Below w4.heap.size w4 W → Calls Try.prog 11 #[.slice ap zs.length cp, .slice (some ⟨bl, 0, none⟩) 65 cl4] W fun e W' => e = .returned (.agg #[.string (bs (putH (L.map Int.ofNat) (zs.map spl)).2), .int .i64 ((putH (L.map Int.ofNat) (zs.map spl)).1 : Nat)]) ∧ Below W.heap.size W W') := fun W hW => rputh_any ap zs.length cp (zs.map spl) (some ⟨bl, 0, none⟩) 65 cl4 (L.map Int.ofNat) W (rp_below HR4.out hW) (fp_spl zs HF.out) (by omega) (ri_below HL4.out hW) (by omega)
  rw [s1] at PU0 PU1
  clear s1 s2 s3 s4 s5 LO
  generalize hput (codeB L) ((zs.map spl).map toN) = T at *
  have hsz : Hid ((bs T).size = T.length) := size_bs T
  obtain ⟨s, hs0⟩ : ∃ s, bs T = s := ⟨_, rfl⟩
  rw [hs0] at PU0 PU1 hsz
  obtain ⟨sz, hsz2⟩ : ∃ sz, s.size = sz := ⟨_, rfl⟩
  have hsz600 : sz ≤ 600 := by rw [← hsz2, hsz.out]; exact hle
  clear hs0 hle hsz
  go_wp2_with fail
  with_reducible refine PU0.mono ?_
  rintro e w5 ⟨rfl, b5⟩
  have PU2 := PU1.out w5 b5
  have HB5 := Hid.intro (HB4.out.trans (b5.mono HB4.out.size))
  have HL5 := Hid.intro (ri_below HL4.out b5)
  clear PU0 PU1 b5 HB4 HL4 HR4
  have t0 : (s.toList == s.toList) = true := by simp
  go_wp2_with (first | (go_at_call 14; refine (err_any _ _).mono ?_; rintro e w9 ⟨rfl, rfl⟩))
  with_reducible refine PU2.mono ?_
  rintro e w6 ⟨rfl, b6⟩
  have hb6 := HB5.out.trans (b6.mono HB5.out.size)
  have HL6 := Hid.intro (ri_below HL5.out b6)
  have hsx : (s ++ ⟨#[120]⟩ : ByteArray).size = sz + 1 := by rw [ByteArray.size_append, hsz2]; rfl
  obtain ⟨sx, hsx0⟩ : ∃ sx, s ++ ⟨#[120]⟩ = sx := ⟨_, rfl⟩
  rw [hsx0] at hsx
  obtain ⟨capB, w12, hcv, RM, hc1, hc2⟩ := bytes_of2 sx w6 (by omega)
  obtain ⟨i, hi⟩ : ∃ i : Nat, at' % ((sz : Int) + 1) = (i : Int) := ⟨(at' % ((sz : Int) + 1)).toNat, by have := Int.emod_nonneg at' (b := (sz : Int) + 1) (by omega); omega⟩
  have his : i < sz + 1 := by have := Int.emod_lt_of_pos at' (b := (sz : Int) + 1) (by omega); omega
  obtain ⟨j, hj⟩ : ∃ j : Nat, cut % ((sz : Int) + 1) = (j : Int) := ⟨(cut % ((sz : Int) + 1)).toNat, by have := Int.emod_nonneg cut (b := (sz : Int) + 1) (by omega); omega⟩
  have hjs : j < sz + 1 := by have := Int.emod_lt_of_pos cut (b := (sz : Int) + 1) (by omega); omega
  have hil : i < sx.data.toList.length := by rw [len_data, hsx]; exact his
  have hcell := RM.2.1 i hil
  have fcell := (RM.1 i (by rw [hsx]; exact his)).2
  obtain ⟨b, rfl⟩ : ∃ b : Nat, by' = (b : Int) := ⟨by'.toNat, by omega⟩
  have hb256 : b < 256 := by omega
  obtain ⟨x, hx⟩ : ∃ x, sx.data.toList[i].toNat = x := ⟨_, rfl⟩
  have hx256 : x < 256 := by rw [← hx]; exact UInt8.toNat_lt _
  have hxor := u8_xor_nat x b hx256 hb256
  have hy256 : x ^^^ b < 256 := Nat.xor_lt_two_pow (n := 8) hx256 hb256
  have RM2 := room_upd RM i hil (UInt8.ofNat (x ^^^ b)) ((x ^^^ b : Nat) : Int) (by rw [u8_of _ hy256])
  have hl2 : (sx.data.toList.set i (UInt8.ofNat (x ^^^ b))).length = sz + 1 := by rw [List.length_set, len_data, hsx]
  have cv1 := room_str2 RM2 sz capB (by omega)
  have cv2 := room_str2 RM2 (sz + 1) capB (by omega)
  have HB13 := Hid.intro (hb6.trans (RM2.2.2.1.mono hb6.size))
  have HL13 := Hid.intro (ri_below HL6.out RM2.2.2.1)
  rw [hx] at hcell
  have ht1 : Hid ((bs ((sx.data.toList.set i (UInt8.ofNat (x ^^^ b))).take sz)).size ≤ 601) := by show _ ≤ _; rw [size_bs, List.length_take]; omega
  have ht2 : Hid ((bs ((sx.data.toList.set i (UInt8.ofNat (x ^^^ b))).take (sz + 1))).size ≤ 601) := by show _ ≤ _; rw [size_bs, List.length_take]; omega
  have ht3 : Hid ((s.extract 0 j).size ≤ 601) := by show _ ≤ _; simp; omega
  generalize bs ((sx.data.toList.set i (UInt8.ofNat (x ^^^ b))).take sz) = t1 at *
  generalize bs ((sx.data.toList.set i (UInt8.ofNat (x ^^^ b))).take (sz + 1)) = t2 at *
  generalize x ^^^ b = y at *
  obtain ⟨S2, hS2⟩ : ∃ S2, w6.heap.size = S2 := ⟨_, rfl⟩
  simp only [hS2] at hcv hcell fcell cv1 cv2 HB13 HL13
  rw [hsx] at hcv
  simp only [maxLen] at hc2
  clear RM RM2 hx hS2 HL6 HL5 HB5 hb6 hil PU2 b6 hl2
  go_wp2_with fail
  clear hcv hcell fcell hxor
  generalize w12.setCell ⟨S2, i, none⟩ (.int .u8 (y : Int)) = w13 at *
  go_region
  all_goals
    go_wp2_with fail
    have hb14 := HB13.out.alloc HB13.out.size (.cells #[.string s, .string t1, .string t2, .string (s.extract 0 j)] 9)
    have b1314 : Below w13.heap.size w13 (w13.alloc (.cells #[.string s, .string t1, .string t2, .string (s.extract 0 j)] 9)) := (Below.refl _ _).alloc (Nat.le_refl _) _
    have hx4 : Hid (∀ q, q < 4 → ∃ t : ByteArray, t.size ≤ 601 ∧ ∀ W, Below (w13.alloc (.cells #[.string s, .string t1, .string t2, .string (s.extract 0 j)] 9)).drew.heap.size (w13.alloc (.cells #[.string s, .string t1, .string t2, .string (s.extract 0 j)] 9)).drew W → W.cell? ⟨w13.heap.size, q, none⟩ = some (.string t)) := by
      intro q hq
      have bn := blk_new w13 #[.string s, .string t1, .string t2, .string (s.extract 0 j)] 9
      have hlt := blk_lt bn
      rcases (by omega : q = 0 ∨ q = 1 ∨ q = 2 ∨ q = 3) with rfl | rfl | rfl | rfl
      · exact ⟨s, by omega, fun W hW => by rw [hW.cell (p := ⟨w13.heap.size, 0, none⟩) hlt]; show (w13.alloc _).cell? _ = _; rw [blk_cell bn]; rfl⟩
      · exact ⟨t1, ht1.out, fun W hW => by rw [hW.cell (p := ⟨w13.heap.size, 1, none⟩) hlt]; show (w13.alloc _).cell? _ = _; rw [blk_cell bn]; rfl⟩
      · exact ⟨t2, ht2.out, fun W hW => by rw [hW.cell (p := ⟨w13.heap.size, 2, none⟩) hlt]; show (w13.alloc _).cell? _ = _; rw [blk_cell bn]; rfl⟩
      · exact ⟨s.extract 0 j, ht3.out, fun W hW => by rw [hW.cell (p := ⟨w13.heap.size, 3, none⟩) hlt]; show (w13.alloc _).cell? _ = _; rw [blk_cell bn]; rfl⟩
    have HB14 := Hid.intro hb14.drew
    have HL14 := Hid.intro (ri_below HL13.out b1314.drew)
    generalize (w13.alloc (.cells #[.string s, .string t1, .string t2, .string (s.extract 0 j)] 9)).drew = w14 at *
    obtain ⟨X, hX⟩ : ∃ X, w13.heap.size = X := ⟨_, rfl⟩
    simp only [hX] at hx4 ⊢
    have ST : Hid (MdO w14 (.int .i64 0) w14) := ⟨0, by omega, rfl, Below.refl _ _⟩
    clear hb14 b1314 HB13 HL13 hi hj hk hsz2 hsx t0 ht1 ht2 ht3 his hjs hX cv1 cv2 hc1 hc2 hcut hat hl
    go_loopw [17] (fun iv wr => MdO w14 iv wr) (fun iv _ => 5 - (intOf iv).toNat)
    case atStart => exact ST.out
    case round =>
      clear ST
      obtain ⟨i4, hi4, rfl, e1⟩ := hrel
      by_cases hlt4 : i4 < 4
      · obtain ⟨t, hts, htc⟩ := hx4.out i4 hlt4
        have HTC := Hid.intro htc
        have ST2 : Hid (MdI w14 (.int .i64 (-1)) wr) := ⟨-1, by omega, by omega, rfl, e1⟩
        clear htc e1
        go_wp2_with fail
        have hd4 : decide ((i4 : Int) < 4) = true := by rw [decide_eq_true_eq]; omega
        simp only [hd4]
        clear hd4
        go_loopw [18] (fun kv w9 => MdI w14 kv w9) (fun kv _ => (3 - intOf kv).toNat)
        case atStart => exact ST2.out
        case round =>
          clear ST2
          obtain ⟨z, hz1, hz2, rfl, e2⟩ := hrel
          by_cases hz : z < 2
          · have cx := HTC.out wr e2
            have hri := ri_below HL14.out e2
            have GU := hget_any (some ⟨bl, 0, none⟩) 65 cl4 (L.map Int.ofNat) t ((zs.length : Int) + z) wr hri (by omega) (by omega)
            have RG : Hid (∀ W, Below wr.heap.size wr W → Calls Try.prog 13 #[.string t, .int .i64 ((zs.length : Int) + z), .slice (some ⟨bl, 0, none⟩) 65 cl4] W fun e W' => RgPost (getH (L.map Int.ofNat) t.data.toList ((zs.length : Int) + z)) W e W') := fun W hW => rgeth_any _ 65 cl4 _ t _ W (ri_below hri hW) (by omega) (by omega)
            obtain ⟨g, hg⟩ : ∃ g, getH (L.map Int.ofNat) t.data.toList ((zs.length : Int) + z) = g := ⟨_, rfl⟩
            rw [hg] at GU RG
            obtain ⟨er, Lp⟩ := g
            have E2 := Hid.intro e2
            clear hg hri e2
            go_wp2_with fail
            with_reducible refine GU.mono ?_
            rintro e w4 ⟨a1, n1, cap1, rfl, r1, hn1, -, -, b4⟩
            have e4 := E2.out.trans (b4.mono E2.out.size)
            have cx4 := HTC.out w4 e4
            have RG2 := RG.out w4 b4
            have E4 := Hid.intro e4
            have R1 := Hid.intro r1
            clear GU RG b4 r1 e4 cx
            go_wp2_with fail
            with_reducible refine RG2.mono ?_
            rintro e w5 ⟨a2, n2, cap2, rfl, r2, hn2, -, -, b5⟩
            have R1' := Hid.intro (rp_below R1.out b5)
            have e5 := E4.out.trans (b5.mono E4.out.size)
            have R2 := Hid.intro r2
            have b8 : Below w5.heap.size w5 (w5.alloc (.cells #[.slice a2 n2 cap2, .int .i64 (er : Int)] 34)) := (Below.refl _ _).alloc (Nat.le_refl _) _
            have bk8 := blk_new w5 #[.slice a2 n2 cap2, .int .i64 (er : Int)] 34
            obtain ⟨w8, hw8⟩ : ∃ w8, w5.alloc (.cells #[.slice a2 n2 cap2, .int .i64 (er : Int)] 34) = w8 := ⟨_, rfl⟩
            rw [hw8] at b8 bk8
            have B8 : Below w14.heap.size w14 w8 := e5.trans (b8.mono e5.size)
            have hS : (w8.drew.cell? ⟨w5.heap.size, 0, none⟩ = some (.slice a2 n2 cap2) ∧ w8.drew.cell? ⟨w5.heap.size, 1, none⟩ = some (.int .i64 (er : Int))) ∧ Below w8.heap.size w8 w8.drew :=
              ⟨⟨by show w8.cell? _ = _; rw [blk_cell bk8]; rfl, by show w8.cell? _ = _; rw [blk_cell bk8]; rfl⟩, (Below.refl _ _).drew⟩
            have bkl := blk_lt bk8
            have SA : ∀ W, Below w8.heap.size w8 W → Calls Try.prog 15 #[.slice a1 n1 cap1, .slice a2 n2 cap2] W fun e W' => e = .returned (.bool true) ∧ Below W.heap.size W W' := fun W hW => by
              have c := sameP_any a1 a2 n1 n2 cap1 cap2 (Lp.map toI) (Lp.map toI) W (rp_below (rp_below R1'.out b8) hW) (rp_below (rp_below R2.out b8) hW) (by omega) (by omega)
              rw [decide_eq_true rfl] at c; exact c
            have ER : ∀ x W, Calls Try.prog 14 #[.int .i64 x] W fun e W' => e = .returned (.int .i64 x) ∧ Below W.heap.size W W' := fun x W => (err_any x W).mono (by rintro e W' ⟨rfl, h⟩; exact ⟨rfl, held_same h⟩)
            have t2e : ((er : Int) == (er : Int)) = true := by simp
            have HB8 := Hid.intro B8
            have HW8 := Hid.intro hw8
            clear b8 bk8 B8 hw8 b5 r2 R1 R1' R2 RG2 E4 e5 cx4
            go_wp2_with fail
            rw [HW8.out]
            clear HW8
            go_region_held3 (fun W => (W.cell? ⟨w5.heap.size, 0, none⟩ = some (.slice a2 n2 cap2) ∧ W.cell? ⟨w5.heap.size, 1, none⟩ = some (.int .i64 (er : Int))) ∧ Below w8.heap.size w8 W) (first | exact hS | exact held_keep bkl (by assumption) (by assumption) | assumption) (first
              | (go_at_call 15; refine (SA _ ?_).mono ?_; exact held_tail (by assumption); rintro e w9 ⟨rfl, hb9⟩)
              | (go_at_call 14; refine (ER _ _).mono ?_; rintro e w9 ⟨rfl, hb9⟩))
            all_goals
              have hT : ∃ p : Prop, p ∧ Below w8.heap.size w8 w9 := by first | exact ⟨_, by assumption⟩ | exact ⟨_, held_keep bkl (by assumption) (by assumption)⟩
              obtain ⟨_, _, hT⟩ := hT
              have B9 := Hid.intro (HB8.out.trans (hT.mono HB8.out.size))
              clear hT hS SA ER bkl t2e
              go_wp2_with fail
              go_roundw
              case rel => exact ⟨z + 1, by omega, by omega, rfl, B9.out⟩
              case measure => simp [intOf]; omega
          · have E2 := Hid.intro e2
            clear e2
            go_wp2_with fail
            go_roundw
            case rel => exact ⟨i4 + 1, by omega, by go_num, E2.out⟩
            case measure => simp [intOf]; omega
      · have AW := awake_own (w := w14) e1
        clear e1
        go_wp2_with fail
        with_reducible refine AW.mono ?_
        rintro e w9 ⟨rfl, b9⟩
        clear AW
        go_wp2_with fail
        go_ret
        exact ⟨rfl, HB14.out.trans (b9.mono HB14.out.size)⟩
end Go.Proofs.Ytlkebkchbgpnpaa
