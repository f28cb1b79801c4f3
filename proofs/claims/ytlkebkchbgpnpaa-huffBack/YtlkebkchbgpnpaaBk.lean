/-
  Parts told again by their bytes.
-/
import Derived.Test.YtlkebkchbgpnpaaLw
import Derived.BigRegion
import Derived.Test.YtlkebkchbgpnpaaRz
import Derived.Test.YtlkebkchbgpnpaaCt
namespace Go.Proofs.Ytlkebkchbgpnpaa
open Go.ChangeShapes Go.WideShapes Go.ChangeAt Go.RowKit
open Go.ChangeMaps (open_string shut_string)

theorem ru_below {w w' : World} {a : Option Addr} {n : Nat} (h : RU w a n) (b : Below w.heap.size w w') : RU w' a n := fun h0 => by
  obtain ⟨x, hx, hc⟩ := h h0
  refine ⟨x, hx, fun i hi => ?_⟩
  obtain ⟨z, z0, z1, cx⟩ := hc i hi
  exact ⟨z, z0, z1, by rw [b.cell (World.block_lt_of_cell? _ _ cx)]; exact cx⟩
theorem fr_set2 (F : List Int) (c d : Nat) (z : Int) (hc : c < F.length) : fr (F.set c z) d = if d = c then z else fr F d := by
  unfold fr
  rw [List.getD_eq_getElem?_getD, List.getD_eq_getElem?_getD, List.getElem?_set]
  by_cases e : c = d
  · subst e; rw [if_pos rfl, if_pos hc, if_pos rfl]; rfl
  · rw [if_neg e, if_neg (fun h => e h.symm)]
def CtRel (ps : List (Int × Int)) (bf cf : Nat) (w3 : World) (iv : Value) (wr : World) : Prop :=
  ∃ (i : Nat) (F : List Int), i ≤ ps.length ∧ iv = .int .i64 i ∧ F.length = 65 ∧ (∀ z ∈ F, (0 : Int) ≤ z ∧ z ≤ 65535 + i) ∧ (∀ p ∈ ps.take i, 0 < fr F p.1.toNat) ∧
    wr.ownsRow w3.heap.size 3 1 (.slice (some ⟨bf, 0, none⟩) 65 cf) 65 (ivs F) ∧ Below w3.heap.size w3 wr
theorem ct_step {ps : List (Int × Int)} {i : Nat} {F : List Int} {c : Nat} {r : Int} (hl : F.length = 65) (hb : ∀ z ∈ F, (0 : Int) ≤ z ∧ z ≤ 65535 + i) (hp : ∀ p ∈ ps.take i, 0 < fr F p.1.toNat) (hi : i < ps.length) (he : ps[i] = ((c : Int), r)) (hc : c < 65) :
    (F.set c (fr F c + 1)).length = 65 ∧ (∀ z ∈ F.set c (fr F c + 1), (0 : Int) ≤ z ∧ z ≤ 65535 + ((i + 1 : Nat) : Int)) ∧ (∀ p ∈ ps.take (i + 1), 0 < fr (F.set c (fr F c + 1)) p.1.toNat) ∧ 0 ≤ fr F c ∧ fr F c ≤ 65535 + i := by
  have hfc : fr F c = F[c]'(by omega) := by unfold fr; rw [List.getD_eq_getElem?_getD, List.getElem?_eq_getElem (by omega)]; rfl
  have hz := hb (F[c]'(by omega)) (List.getElem_mem _)
  rw [← hfc] at hz
  refine ⟨by simpa using hl, fun z h => ?_, fun p h => ?_, hz.1, hz.2⟩
  · rcases List.mem_or_eq_of_mem_set h with h | h
    · have := hb z h; omega
    · rw [h]; omega
  · rw [take_snoc ps i hi] at h
    rcases List.mem_append.1 h with h | h
    · have := hp p h
      rw [fr_set2 _ _ _ _ (by omega)]
      split
      · omega
      · exact this
    · simp only [List.mem_singleton] at h
      rw [h, he, fr_set2 _ _ _ _ (by omega)]
      simp only [Int.toNat_natCast, if_true]
      omega
def SmRel (L : List Nat) (ps : List (Int × Int)) (w5 : World) (bv iv : Value) (wr : World) : Prop :=
  ∃ i : Nat, i ≤ ps.length ∧ iv = .int .i64 i ∧ bv = .int .i64 (bitn (codeB L) ((ps.take i).map toN) : Nat) ∧ Below w5.heap.size w5 wr
theorem bitn_snoc (C : Nat → List Nat) (ps : List (Nat × Nat)) (p : Nat × Nat) : bitn C (ps ++ [p]) = bitn C ps + ((C p.1).length + (p.1 - 1)) := by
  unfold bitn; rw [List.map_append, List.sum_append]; simp
theorem bitn_le (L : List Nat) (hb : ∀ c, at0 L c ≤ 15) (zs : List Int) (hf : FI zs) (hl : zs.length ≤ 60) (i : Nat) : bitn (codeB L) (((zs.map spl).take i).map toN) ≤ 5000 := by
  rw [← psB_len]
  have h1 := psB_le (C := codeB L) (fun c => by rw [codeB_len]; exact hb c) (((zs.map spl).take i).map toN) (fun q hq => by
    obtain ⟨p, hp, rfl⟩ := List.mem_map.1 hq
    obtain ⟨c, e, h⟩ := cls_spl zs hf p (List.mem_of_mem_take hp)
    unfold toN; rw [e]; simp only [Int.toNat_natCast]; exact h)
  simp only [List.length_map, List.length_take] at h1
  omega
set_option maxRecDepth 100000 in
set_option maxHeartbeats 4000000 in
theorem back_walk (a : Option Addr) (n cap : Nat) (a' : Option Addr) (n' cap' : Nat) (lim : Int) (w : World) (h : RU w a n) (hn : n ≤ 9223372036854775807) (h' : RU w a' n') (hn' : n' ≤ 9223372036854775807) (hl : 0 ≤ lim ∧ lim ≤ 255) :
    Calls Try.prog 5 #[.slice a n cap, .slice a' n' cap', .int .u8 lim] w fun e w' => e = .returned (.bool true) ∧ Below w.heap.size w w' := by
  by_cases h140 : 140 < n'
  · have AW := awake_any w
    clear h h'
    go_enter Try.func5, Try.ntmps5
    go_wp2_with fail
    with_reducible refine AW.mono ?_
    rintro e w4 ⟨rfl, k5⟩
    clear AW
    go_wp2_with fail
    go_ret
    exact ⟨rfl, k5⟩
  · have NU := numbers_any a n cap w h hn
    obtain ⟨k, hk⟩ : ∃ k : Nat, 7 + lim % 9 = (k : Int) := ⟨(7 + lim % 9).toNat, by omega⟩
    have k7 : 7 ≤ k := by omega
    have k15 : k ≤ 15 := by omega
    have fi := fld_ints
    have HU := Hid.intro h'
    clear h hn h'
    go_enter Try.func5, Try.ntmps5
    go_wp2_with fail
    with_reducible refine NU.mono ?_
    rintro e w1 ⟨v, zs, rfl, f1, f2, f3, f4⟩
    obtain ⟨az, cz, rfl, -, -, r1⟩ := own_ri f3
    have RPs := rparts_any az zs.length cz zs w1 r1 f1 (by omega)
    have HF := Hid.intro f1
    have H4 := Hid.intro f4
    clear NU f1 f3 f4 r1
    go_wp2_with fail
    with_reducible refine RPs.mono ?_
    rintro e w2 ⟨v2, rfl, g1, g2⟩
    obtain ⟨ap, cp, rfl, hcp1, hcp2, r2⟩ := own_rp g1
    have hb2 := H4.out.trans (g2.mono H4.out.size)
    have FQ := freq_any a' n' cap' w2 (ru_below HU.out hb2) (by omega)
    have HB2 := Hid.intro hb2
    have HR2 := Hid.intro r2
    clear RPs g1 g2 r2 H4 hb2
    go_wp2_with fail
    with_reducible refine FQ.mono ?_
    rintro e w3 ⟨v3, F, rfl, q1, q2, q3, q4⟩
    obtain ⟨bf, cf, rfl⟩ := own_slice q3 (by omega)
    have hps : Hid ((zs.map spl).length = zs.length) := by show _ = _; simp
    have ST : Hid (CtRel (zs.map spl) bf cf w2 (.int .i64 0) w3) := ⟨0, F, Nat.zero_le _, rfl, q1, fun z hz => by have := q2 z hz; omega, fun p hp => by simp at hp, q3, q4⟩
    have HBF : Hid (w2.heap.size ≤ bf) := (q3.lt bf rfl).1
    clear FQ q1 q2 q3 q4
    go_wp2_with fail
    go_loopw [10] (fun iv wr => CtRel (zs.map spl) bf cf w2 iv wr) (fun iv _ => 61 - (intOf iv).toNat)
    case atStart => exact ST.out
    case round =>
      clear ST
      obtain ⟨i, F9, hi, rfl, e1, e2, e3, e4, e5⟩ := hrel
      by_cases hlt : i < zs.length
      · have hl9 : i < (zs.map spl).length := by rw [hps.out]; exact hlt
        obtain ⟨c, e9, hc65⟩ := cls_spl zs HF.out _ (List.getElem_mem hl9)
        obtain ⟨x, rfl, hx⟩ := HR2.out.2 (by omega)
        obtain ⟨x0', -⟩ := hx i hl9
        rw [e9] at x0'
        have x0 : w3.cell? (x.add (i * 2)) = w3.cell? (x.add (i * 2)) := rfl
        have x0 : wr.cell? (x.add (i * 2)) = some (.int .i64 (c : Int)) := by rw [e5.cell (World.block_lt_of_cell? _ _ x0')]; exact x0'
        obtain ⟨s1, s2, s3, s4, s5⟩ := ct_step (r := (zs.map spl)[i].2) e1 e2 e3 hl9 (by rw [← e9]) hc65
        obtain ⟨c1, -, f1⟩ := own_there e4 c (by omega)
        have c0 : wr.cell? ⟨bf, c, none⟩ = some (.int .i64 (fr F9 c)) := by
          rw [c1]
          unfold fr ivs
          rw [List.getElem?_map, List.getElem?_eq_getElem (by omega), List.getD_eq_getElem?_getD, List.getElem?_eq_getElem (by omega)]; rfl
        have o9 := own_set e4 c (.int .i64 (fr F9 c + 1))
        rw [ivs_set] at o9
        have JJ : Hid (CtRel (zs.map spl) bf cf w2 (.int .i64 ((i : Int) + 1)) (wr.setCell ⟨bf, c, none⟩ (.int .i64 (fr F9 c + 1))).drew) :=
          ⟨i + 1, _, hl9, by simp, s1, s2, s3, own_drew o9, (Below.setCell e5 (p := ⟨bf, c, none⟩) HBF.out _).drew⟩
        clear c1 o9 s1 s2 s3 e1 e2 e3 e4 e5 e9 hx x0'
        generalize fr F9 c = y at *
        have wy : IntKind.i64.wrap (y + 1) = y + 1 := by rw [IntKind.wrap_i64]; omega
        have hc65i : (c : Int) < 65 := by omega
        have hc0i : (0 : Int) ≤ (c : Int) := by omega
        go_wp2_with fail
        go_region
        all_goals
          go_wp2_with fail
          go_roundw
          case rel => exact JJ.out
          case measure => simp [intOf]; omega
      · have hin : i = zs.length := by have := hps.out; omega
        have htk : (zs.map spl).take i = zs.map spl := by rw [hin, ← hps.out]; exact List.take_length
        rw [htk] at e3
        have RL := rlengths_yes (some ⟨bf, 0, none⟩) cf F9 k wr (own_ri2 e4) (may_of2 (fun z hz => by have := e2 z hz; omega) k k7 k15)
        have HE3 := Hid.intro e3
        have HBW := Hid.intro (HB2.out.trans (e5.mono HB2.out.size))
        have HRW := Hid.intro (rp_below HR2.out e5)
        clear e1 e2 e3 e4 e5 htk hin
        go_wp2_with fail
        with_reducible refine RL.mono ?_
        rintro e w4 hpost
        obtain ⟨vx, o, r, rfl, m1, m2, m3, m4⟩ := hpost
        obtain ⟨bl, cl4, rfl⟩ := own_slice m3 (by omega)
        have LO : Hid (LenOf w zs (put o r)) := lenOf_put w HF.out f2 m1 m2 k7 k15 (fun p hp c e hc => by have := HE3.out p hp; rw [e, Int.toNat_natCast] at this; exact this)
        have HB4 := Hid.intro (HBW.out.trans (m4.mono HBW.out.size))
        have HR4 := Hid.intro (rp_below HRW.out m4)
        have HL4 : Hid (RI w4 (some ⟨bl, 0, none⟩) 65 ((put o r).map Int.ofNat)) := own_ri2 m3
        generalize put o r = L at *
        clear RL m1 m2 m3 m4 HBW HRW
        have ST2 : Hid (SmRel L (zs.map spl) w4 (.int .i64 0) (.int .i64 0) w4) := ⟨0, Nat.zero_le _, rfl, rfl, Below.refl _ _⟩
        go_wp2_with fail
        go_loopw [9, 12] (fun bv iv wr => SmRel L (zs.map spl) w4 bv iv wr) (fun _ iv _ => 61 - (intOf iv).toNat)
        case atStart => exact ST2.out
        case round =>
          clear ST2
          obtain ⟨i2, hi2, rfl, rfl, e5⟩ := hrel
          by_cases hl2 : i2 < zs.length
          · have hl9 : i2 < (zs.map spl).length := by rw [hps.out]; exact hl2
            obtain ⟨c, e9, hc65⟩ := cls_spl zs HF.out _ (List.getElem_mem hl9)
            obtain ⟨x, rfl, hx⟩ := HR4.out.2 (by omega)
            obtain ⟨x0', -⟩ := hx i2 hl9
            rw [e9] at x0'
            have x0 : wr.cell? (x.add (i2 * 2)) = some (.int .i64 (c : Int)) := by rw [e5.cell (World.block_lt_of_cell? _ _ x0')]; exact x0'
            obtain ⟨xl, hxl, cl0⟩ := ri_at HL4.out c hc65
            injection hxl with hxl
            subst hxl
            rw [fr_nat] at cl0
            have cl1 : wr.cell? ⟨bl, c, none⟩ = some (.int .i64 (at0 L c : Int)) := by
              have h9 := cl0
              rw [Addr.add_lit, Nat.zero_add] at h9
              rw [e5.cell (World.block_lt_of_cell? _ _ h9)]; exact h9
            have BS : Hid (bitn (codeB L) (((zs.map spl).take (i2 + 1)).map toN) = bitn (codeB L) (((zs.map spl).take i2).map toN) + (at0 L c + (c - 1))) := by
              show _ = _
              rw [take_snoc _ i2 hl9, List.map_append, List.map_singleton, bitn_snoc, codeB_len]
              unfold toN
              rw [e9, Int.toNat_natCast]
            have bb := bitn_le L LO.out.2.2.1 zs HF.out f2 i2
            have h15 := LO.out.2.2.1 c
            have E5 := Hid.intro e5
            clear hx x0' cl0 e9 e5
            generalize bitn (codeB L) (((zs.map spl).take i2).map toN) = b0 at *
            generalize at0 L c = l9 at *
            obtain ⟨m1, hm1⟩ : ∃ m1, c - 1 = m1 := ⟨_, rfl⟩
            rw [hm1] at BS
            obtain ⟨q9, hq9⟩ : ∃ q9 : Int, (c : Int) - 1 = q9 := ⟨_, rfl⟩
            have hmx : max 0 q9 = (m1 : Int) := by omega
            have hc65i : (c : Int) < 65 := by omega
            have hc0i : (0 : Int) ≤ (c : Int) := by omega
            have hm64 : m1 ≤ 64 := by omega
            go_wp2_with fail
            go_region
            have JJ : Hid (SmRel L (zs.map spl) w4 (.int .i64 ((b0 : Int) + (l9 : Int) + (m1 : Int))) (.int .i64 ((i2 : Int) + 1)) wr.drew) :=
              ⟨i2 + 1, hl9, by simp, by rw [BS.out]; congr 1; simp; omega, E5.out.drew⟩
            all_goals
              go_wp2_with fail
              go_roundw
              case rel => exact JJ.out
              case measure => simp [intOf]; omega
          · have hin : i2 = zs.length := by have := hps.out; omega
            have htk : (zs.map spl).take i2 = zs.map spl := by rw [hin, ← hps.out]; exact List.take_length
            rw [htk]
            have bb := bitn_le L LO.out.2.2.1 zs HF.out f2 i2
            rw [htk] at bb
            obtain ⟨s1, s2, s3, -, s5⟩ := said_all L zs HF.out LO.out.2.2.2.1 (by omega) LO.out.2.2.2.2.1
            have hle := hput_le L zs HF.out LO.out.2.2.1 f2
            have HT := Hid.intro (toI_toN zs HF.out)
            have hri := ri_below HL4.out e5
            have hrp := rp_below HR4.out e5
            have PU := hput_any ap zs.length cp (zs.map spl) (some ⟨bl, 0, none⟩) 65 cl4 (L.map Int.ofNat) wr hrp (fp_spl zs HF.out) (by omega) hri (by omega)
            rw [s1] at PU
            have HBQ := Hid.intro (HB4.out.trans (e5.mono HB4.out.size))
            have HRI := Hid.intro hri
            have HRP := Hid.intro hrp
            obtain ⟨bb0, hbb0⟩ : ∃ bb0, bitn (codeB L) ((zs.map spl).map toN) = bb0 := ⟨_, rfl⟩
            rw [hbb0] at s5 bb ⊢
            obtain ⟨psN, hpsN⟩ : ∃ psN, (zs.map spl).map toN = psN := ⟨_, rfl⟩
            rw [hpsN] at s1 s2 s3 s5 PU HT hle
            have hlN : psN.length = zs.length := by rw [← hpsN]; simp
            obtain ⟨T, hTT⟩ : ∃ T, hput (codeB L) psN = T := ⟨_, rfl⟩
            rw [hTT] at s1 s2 s3 s5 PU hle
            have S2 := Hid.intro s2
            have S3 := Hid.intro s3
            have hsz : Hid ((bs T).size = T.length) := size_bs T
            have hszq : Hid ((bs T).size = (bb0 + 7) / 8) := by show _ = _; rw [size_bs, s5]
            obtain ⟨sz, hsz2⟩ : ∃ sz, (bs T).size = sz := ⟨_, rfl⟩
            have hsz600 : sz ≤ 600 := by rw [← hsz2, size_bs]; exact hle
            have hszb : Hid (sz = (bb0 + 7) / 8) := by show _ = _; rw [← hsz2]; exact hszq.out
            have hdv : ((bb0 : Int) + 7) / 8 = (sz : Int) := by rw [hszb.out]; omega
            clear s1 s2 s3 s5 htk hin hri hrp e5 hbb0 hpsN hTT
            go_wp2_with fail
            with_reducible refine PU.mono ?_
            rintro e w6 ⟨rfl, b6⟩
            have G1 := hget_any (some ⟨bl, 0, none⟩) 65 cl4 (L.map Int.ofNat) (bs T) (zs.length : Int) w6 (ri_below HRI.out b6) (by omega) (by omega)
            rw [bs_data, S2.out] at G1
            have B6 := Hid.intro b6
            clear PU b6
            go_wp2_with fail
            with_reducible refine G1.mono ?_
            rintro e w7 ⟨a7, n7, c7, rfl, r7, -, -, -, b7⟩
            have hn7 : n7 = zs.length := by rw [← r7.1, List.length_map]; exact hlN
            subst hn7
            rw [HT.out] at r7
            have b7' := B6.out.trans (b7.mono B6.out.size)
            have hs8 : (bs T ++ ⟨#[0]⟩).size ≤ 100000 := by rw [ByteArray.size_append, hsz.out]; show T.length + 1 ≤ _; omega
            have G2 := get_er (w := w7) (some ⟨bl, 0, none⟩) cl4 (L.map Int.ofNat) (bs T ++ ⟨#[0]⟩) (zs.length : Int) 3 (ri_below HRI.out b7') hs8 (Below.refl _ _) (by rw [app_list, bs_data]; exact S3.out [0] (by decide))
            have R7 := Hid.intro r7
            have B7 := Hid.intro b7'
            have hw7 := Hid.intro (ri_below HRI.out b7')
            clear G1 b7 r7 b7'
            go_wp2_with fail
            with_reducible refine G2.mono ?_
            rintro e w8 ⟨a8, c8, rfl, b8⟩
            have b8w := B7.out.trans (b8.mono B7.out.size)
            have SP := sameP_any a7 ap zs.length zs.length c7 cp (zs.map spl) (zs.map spl) w8 (rp_below R7.out b8) (rp_below HRP.out b8w) (by omega) (by omega)
            rw [decide_eq_true rfl] at SP
            have B8 := Hid.intro (HBQ.out.trans (b8w.mono HBQ.out.size))
            clear G2 b8 b8w
            go_wp2_with (first | (go_at_call 14; refine (err_any _ _).mono ?_; rintro e w9 ⟨rfl, rfl⟩))
            with_reducible refine SP.mono ?_
            rintro e w10 ⟨rfl, b10⟩
            have AW := awake_own (w := w) (B8.out.trans (b10.mono B8.out.size))
            clear SP b10
            go_wp2_with (first | (go_at_call 14; refine (err_any _ _).mono ?_; rintro e w11 ⟨rfl, rfl⟩) | (go_at_call 9; refine AW.mono ?_; rintro e w11 ⟨rfl, b4⟩; have B4 := Hid.intro b4; clear b4))
            go_ret
            exact ⟨rfl, B4.out⟩
end Go.Proofs.Ytlkebkchbgpnpaa
