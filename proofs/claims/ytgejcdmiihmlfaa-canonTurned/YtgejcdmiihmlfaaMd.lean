/-
  CanonMade's walk: codes of lengths by numbers; none begins another one.
-/
import Derived.Test.YtgejcdmiihmlfaaAl
import Derived.Test.YtgejcdmiihmlfaaRy
import Derived.Test.YtgejcdmiihmlfaaFq
import Derived.BigQuiet
import Derived.Deep.QuietTactic
namespace Go.Proofs.Ytgejcdmiihmlfaa
open Go.ChangeShapes Go.WideShapes Go.ChangeAt Go.RowKit
open Go.ChangeMaps (open_string shut_string)

theorem may_of {F : List Int} (hF : ∀ z ∈ F, (0 : Int) ≤ z ∧ z ≤ 65535) (k : Nat) (h7 : 7 ≤ k) (h15 : k ≤ 15) : mayB F 65 (k : Int) = true := by
  have h : F.any badz = false := by
    rw [List.any_eq_false]
    intro z hz
    have := hF z hz
    unfold badz; simp; omega
  unfold mayB
  rw [h]
  simp; omega
/-- The lengths of frequencies may be. -/
theorem put_may {F : List Int} {d : Nat} {o r : List Nat} (ho : Ordered F 65 o) (h : Ranks F d o r) (h7 : 7 ≤ d) (h15 : d ≤ 15) :
    (∀ c, at0 (put o r) c ≤ 15) ∧ okL (put o r) = true ∧ mayL ((put o r).map Int.ofNat) = true := by
  have hb : ∀ c, at0 (put o r) c ≤ 15 := fun c => by
    by_cases hc : c < 65
    · have := (lens_at ho h h7 c hc).1; omega
    · rw [at0_out _ c (by rw [put_len]; omega)]; omega
  have ok : okL (put o r) = true := (okL_iff _).2 (lens_may ho h h7 h15)
  exact ⟨hb, ok, by rw [mayL_of _ (put_len o r) hb]; exact ok⟩
theorem fld_ints (b c : Nat) (W : World) : (Instr.field 36 (.agg #[.slice (some ⟨b, 0, none⟩) 65 c, .int .i64 0]) 0).run Try.prog W = .ok (.slice (some ⟨b, 0, none⟩) 65 c) W := by kernel_rfl
theorem fld_codes (b c : Nat) (W : World) : (Instr.field 29 (.agg #[.slice (some ⟨b, 0, none⟩) 65 c, .int .i64 0]) 0).run Try.prog W = .ok (.slice (some ⟨b, 0, none⟩) 65 c) W := by kernel_rfl
def M1Rel (w : World) (iv : Value) (wr : World) : Prop := ∃ i : Nat, i ≤ 65 ∧ iv = .int .i64 i ∧ Below w.heap.size w wr
set_option maxRecDepth 100000 in
set_option maxHeartbeats 4000000 in
theorem made_walk (a : Option Addr) (n cap : Nat) (lim : Int) (w : World) (h : RU w a n) (hn : n ≤ 9223372036854775807) (hl : 0 ≤ lim ∧ lim ≤ 255) :
    Calls Try.prog 4 #[.slice a n cap, .int .u8 lim] w fun e w' => e = .returned (.bool true) ∧ Below w.heap.size w w' := by
  by_cases h0 : 140 < n
  · have AW0 := awake_any w
    clear h
    go_enter Try.func4, Try.ntmps4
    go_wp2_with fail
    with_reducible refine AW0.mono ?_
    rintro e w4 ⟨rfl, k5⟩
    clear AW0
    go_wp2_with fail
    go_ret
    exact ⟨rfl, k5⟩
  · have FQ := freq_any a n cap w h (by omega)
    obtain ⟨k, hk⟩ : ∃ k : Nat, 7 + lim % 9 = (k : Int) := ⟨(7 + lim % 9).toNat, by omega⟩
    have k7 : 7 ≤ k := by omega
    have k15 : k ≤ 15 := by omega
    have fi := fld_ints
    have fc := fld_codes
    clear h
    go_enter Try.func4, Try.ntmps4
    go_wp2_with fail
    with_reducible refine FQ.mono ?_
    rintro e w1 ⟨v, F, rfl, f1, f2, f3, f4⟩
    obtain ⟨bf, cf, rfl⟩ := own_slice f3 (by omega)
    have MB := may_of f2 k k7 k15
    have RL := rlengths_yes (some ⟨bf, 0, none⟩) cf F k w1 (own_ri2 f3) MB
    have HF := Hid.intro f4
    clear FQ f1 f2 f3 f4 MB
    go_wp2_with fail
    with_reducible refine RL.mono ?_
    rintro e w6 hpost
    obtain ⟨vx, o, r, rfl, m1, m2, m3, m4⟩ := hpost
    obtain ⟨bl, cl, rfl⟩ := own_slice m3 (by omega)
    obtain ⟨pb, pk, pm⟩ := put_may m1 m2 k7 k15
    have psum := ok_sum pk
    obtain ⟨L, hL⟩ : ∃ L, put o r = L := ⟨_, rfl⟩
    have hLl : L.length = 65 := by rw [← hL]; exact put_len o r
    rw [hL] at pb pm m3 psum
    have B6 : Hid (Below w.heap.size w w6) := HF.out.trans (m4.mono HF.out.size)
    have m3' : w6.ownsRow 0 3 1 (.slice (some ⟨bl, 0, none⟩) 65 cl) 65 (ivs (L.map Int.ofNat)) := own_low m3 (Nat.zero_le _)
    have CO := codes_yes (some ⟨bl, 0, none⟩) 65 cl _ w6 (own_ri2 m3') pm
    rw [nat_of] at CO
    have MA := Hid.intro (fun (W : World) (hW : Below w6.heap.size w6 W) => may_any (some ⟨bl, 0, none⟩) 65 cl _ W (ri_below (own_ri2 m3') hW) (by omega))
    have RC := Hid.intro (fun (W : World) (hW : Below w6.heap.size w6 W) => rcanon_yes (some ⟨bl, 0, none⟩) 65 cl _ W (ri_below (own_ri2 m3') hW) pm)
    rw [pm] at MA
    rw [nat_of] at RC
    have PB := Hid.intro pb
    have PS : Unit → mS L 65 ≤ 32768 := fun _ => psum
    have LR := Hid.intro m3
    clear RL hL m1 m2 m3 m4 pb pk pm m3' HF psum hk hLl
    go_wp2_with fail
    with_reducible refine CO.mono ?_
    rintro e w8 ⟨v8, rfl, j3, j4⟩
    obtain ⟨b8, cap8, rfl⟩ := own_slice j3 (by omega)
    have MA8 := MA.out w8 j4
    have RC8 := RC.out w8 j4
    have ER := err_any 0 w8
    have B8 : Hid (Below w.heap.size w w8) := B6.out.trans (j4.mono B6.out.size)
    have LR8 := Hid.intro (own_later LR.out j4)
    have CR8 := Hid.intro j3
    clear CO MA RC j3 j4 B6 LR
    go_wp2_with fail
    with_reducible refine ER.mono ?_
    rintro e w9 ⟨rfl, rfl⟩
    clear ER
    go_wp2_with fail
    with_reducible refine MA8.mono ?_
    rintro e w10 ⟨rfl, rfl⟩
    clear MA8
    go_wp2_with fail
    with_reducible refine RC8.mono ?_
    rintro e w11 ⟨v11, rfl, i3, i4⟩
    obtain ⟨b11, cap11, rfl⟩ := own_slice i3 (by omega)
    have CR11 := own_later CR8.out i4
    have SA := same_own b8 b11 cap8 cap11 _ _ _ w11 CR11 i3
    have LR11 := Hid.intro (own_later LR8.out i4)
    have CRH := Hid.intro CR11
    have B11 : Hid (Below w.heap.size w w11) := B8.out.trans (i4.mono B8.out.size)
    clear RC8 i3 i4 CR8 LR8 B8 CR11
    go_wp2_with fail
    with_reducible refine SA.mono ?_
    rintro e w12 ⟨rfl, q4⟩
    have B12 : Hid (Below w.heap.size w w12) := B11.out.trans (q4.mono B11.out.size)
    have CC := own_later CRH.out q4
    have LL := own_later LR11.out q4
    have CC := Hid.intro (fun (W : World) (hW : Below w12.heap.size w12 W) j (hj : j < 65) => cv_cells (own_later CC hW) j hj)
    have LC := Hid.intro (fun (W : World) (hW : Below w12.heap.size w12 W) j (hj : j < 65) => ni_cell (own_later LL hW) j hj)
    clear SA q4 CRH LR11 B11 LL
    go_wp2_with fail
    go_loopw [8] (fun iv wr => M1Rel w12 iv wr) (fun iv _ => 65 - (intOf iv).toNat)
    case atStart => exact ⟨0, by omega, rfl, Below.refl _ _⟩
    case round =>
      obtain ⟨i, hi, rfl, d1⟩ := hrel
      by_cases hlt : i < 65
      · obtain ⟨c1, c2, _, _⟩ := CC.out wr d1 i hlt
        have c3 := LC.out wr d1 i hlt
        have l15 := PB.out i
        have cln := code_len L PB.out i hlt
        have cft := code_fit L PB.out (PS ()) i hlt
        rw [cln] at c2
        have HLT := Hid.intro hlt
        have hii : (i : Int) < 65 := by omega
        have hi0 : (0 : Int) ≤ (i : Int) := by omega
        obtain ⟨b, hb⟩ : ∃ b, (cat (codesOf L) i).1 = b := ⟨_, rfl⟩
        obtain ⟨y, hy⟩ : ∃ y, at0 L i = y := ⟨_, rfl⟩
        rw [hb] at c1 cft
        rw [hy] at c2 c3 cft l15
        have hdiv : (b : Int) / 2 ^ y = 0 := by
          have : b / 2 ^ y = 0 := Nat.div_eq_of_lt cft
          rw [show ((2 : Int) ^ y) = ((2 ^ y : Nat) : Int) by simp, ← Int.natCast_ediv, this]; rfl
        have hbb : b ≤ 32768 := by
          have : 2 ^ y ≤ 2 ^ 15 := Nat.pow_le_pow_right (by omega) l15
          omega
        have t1 : ((y : Int) == (y : Int)) = true := by simp
        have t2 : ((y : Int) != (y : Int)) = false := by simp
        have t3 : decide ((b : Int) < 0) = false := by simp
        have y0 : (0 : Int) ≤ (y : Int) := by omega
        have CB : Unit → (cat (codesOf L) i).1 = b := fun _ => hb
        have CY : Unit → at0 L i = y := fun _ => hy
        clear cln cft hb hy
        have D1 := Hid.intro d1
        clear d1
        go_wp2_with fail
        go_quiet (fail)
        clear t1 t2 t3 hdiv c1 c2 c3
        go_wp2_with fail
        have D2 := Hid.intro (below_drewN D1.out nq)
        have ew : wr.drewN nq = wr.drewN nq := rfl
        obtain ⟨w13, hw13⟩ : ∃ w13, wr.drewN nq = w13 := ⟨_, rfl⟩
        rw [hw13] at D2
        simp only [hw13]
        clear ew D1 hw13
        go_loopw [9] (fun jv wr => M1Rel w12 jv wr) (fun jv _ => 65 - (intOf jv).toNat)
        case atStart => exact ⟨0, by omega, rfl, D2.out⟩
        case round =>
          clear D2
          obtain ⟨j, hj, rfl, d2⟩ := hrel
          by_cases hjt : j < 65
          · obtain ⟨c1, c2, _, _⟩ := CC.out _ d2 i HLT.out
            rw [code_len L PB.out i HLT.out, CY ()] at c2
            rw [CB ()] at c1
            obtain ⟨c4, c5, _, _⟩ := CC.out _ d2 j hjt
            rw [code_len L PB.out j hjt] at c5
            have l15' := PB.out j
            have AP := Hid.intro (fun hne h0 hle => code_apart L PB.out i j HLT.out hjt hne h0 hle)
            rw [CY (), CB ()] at AP
            have hji : (j : Int) < 65 := by omega
            have hj0 : (0 : Int) ≤ (j : Int) := by omega
            have cfj := code_fit L PB.out (PS ()) j hjt
            obtain ⟨b', hb'⟩ : ∃ b, (cat (codesOf L) j).1 = b := ⟨_, rfl⟩
            obtain ⟨y', hy'⟩ : ∃ y, at0 L j = y := ⟨_, rfl⟩
            rw [hb'] at c4 AP cfj
            rw [hy'] at c5 AP l15' cfj
            have hbb' : b' ≤ 32768 := by
              have : 2 ^ y' ≤ 2 ^ 15 := Nat.pow_le_pow_right (by omega) l15'
              omega
            have D3 : Hid (∀ q, Below w12.heap.size w12 (wr.drewN q)) := fun q => below_drewN d2 q
            clear hb' hy' d2 cfj
            by_cases hij : i = j
            · subst hij
              have t1 : ((i : Int) == (i : Int)) = true := by simp
              have t2 : ((i : Int) != (i : Int)) = false := by simp
              clear AP
              go_wp2_with fail
              go_quiet (fail)
              clear t1 t2
              go_wp2_with fail
              go_roundw
              case rel => exact ⟨i + 1, by omega, by go_num, D3.out nq⟩
              case measure => simp [intOf]; omega
            · have t1 : ((i : Int) == (j : Int)) = false := by simp; omega
              have t2 : ((i : Int) != (j : Int)) = true := by simp; omega
              by_cases h0 : y = 0
              · subst h0
                clear AP
                go_wp2_with fail
                go_quiet (fail)
                clear t1 t2
                go_wp2_with fail
                go_roundw
                case rel => exact ⟨j + 1, by omega, by go_num, D3.out nq⟩
                case measure => simp [intOf]; omega
              · have t3 : decide (0 < y) = true := by simp; omega
                by_cases hle : y ≤ y'
                · have t4 : decide (y ≤ y') = true := by simp [hle]
                  have ap := AP.out hij (by omega) hle
                  obtain ⟨k, hk⟩ : ∃ k, y' - y = k := ⟨_, rfl⟩
                  rw [hk] at ap
                  obtain ⟨d, hd⟩ : ∃ d, b' / 2 ^ k = d := ⟨_, rfl⟩
                  rw [hd] at ap
                  have hki : (y' : Int) - (y : Int) = (k : Int) := by omega
                  have hdi : (b' : Int) / 2 ^ k = (d : Int) := by rw [← hd, show ((2 : Int) ^ k) = ((2 ^ k : Nat) : Int) by simp, Int.natCast_ediv]
                  have t5 : ((d : Int) == (b : Int)) = false := by simp; omega
                  have wk : IntKind.i64.wrap (k : Int) = (k : Int) := by rw [IntKind.wrap_i64]; omega
                  have k0 : (0 : Int) ≤ (k : Int) := by omega
                  clear AP hk hd ap
                  go_wp2_with fail
                  go_quiet (fail)
                  clear t1 t2 t3 t4 t5 hki hdi wk
                  go_wp2_with fail
                  go_roundw
                  case rel => exact ⟨j + 1, by omega, by go_num, D3.out nq⟩
                  case measure => simp [intOf]; omega
                · have t4 : decide (y ≤ y') = false := by simp; omega
                  clear AP
                  go_wp2_with fail
                  go_quiet (fail)
                  clear t1 t2 t3 t4
                  go_wp2_with fail
                  go_roundw
                  case rel => exact ⟨j + 1, by omega, by go_num, D3.out nq⟩
                  case measure => simp [intOf]; omega
          · obtain rfl : j = 65 := by omega
            have R2 := Hid.intro d2
            clear d2
            go_wp2_with fail
            go_roundw
            case rel => exact ⟨i + 1, by omega, by go_num, R2.out⟩
            case measure => simp [intOf]; omega
      · obtain rfl : i = 65 := by omega
        have B13 := Hid.intro (B12.out.trans (d1.mono B12.out.size))
        have AW := awake_any wr
        clear d1
        go_wp2_with fail
        with_reducible refine AW.mono ?_
        rintro e w14 ⟨rfl, k5⟩
        have B14 := Hid.intro (B13.out.trans (k5.mono B13.out.size))
        clear AW k5
        go_wp2_with fail
        go_ret
        exact ⟨rfl, B14.out⟩
end Go.Proofs.Ytgejcdmiihmlfaa
