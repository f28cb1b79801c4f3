/-
  Lengths may be, and cost least among their neighbours: the walk of MergeLeast.
-/
import Derived.Test.YtabnafjndljimaaMv
import Derived.Test.YtabnafjndljimaaFq
import Derived.Deep.CutRange
import Derived.Deep.RegionWith
namespace Go.Proofs.Ytabnafjndljimaa
open Go.ChangeShapes Go.WideShapes Go.ChangeAt Go.RowKit
open Go.ChangeMaps (open_string shut_string)

theorem freq_ok {F : List Int} (hF : ∀ z ∈ F, (0 : Int) ≤ z ∧ z ≤ 65535) (k : Nat) (h7 : 7 ≤ k) (h15 : k ≤ 15) : mayB F 65 (k : Int) = true := mayB_of F k (fun z hz => by have := hF z hz; omega) h7 h15
def LtRel (w5 : World) (sv : Value) (wr : World) : Prop := ∃ i : Nat, i ≤ 65 ∧ sv = .int .i64 i ∧ Below w5.heap.size w5 wr
theorem ni_ivs (l : List Nat) : ni l = ivs (l.map Int.ofNat) := rfl
set_option maxRecDepth 100000 in
set_option maxHeartbeats 4000000 in
theorem least_walk (a : Option Addr) (n cap : Nat) (lim xa xb : Int) (w : World) (h : RU w a n) (hn : n ≤ 9223372036854775807) (hl : 0 ≤ lim ∧ lim ≤ 255) (hxa : 0 ≤ xa ∧ xa ≤ 255) (hxb : 0 ≤ xb ∧ xb ≤ 255) :
    Calls Try.prog 5 #[.slice a n cap, .int .u8 lim, .int .u8 xa, .int .u8 xb] w fun e w' => e = .returned (.bool true) ∧ Below w.heap.size w w' := by
  by_cases h0 : 140 < n
  · have AW0 := awake_any w
    clear h
    go_enter Try.func5, Try.ntmps5
    go_wp2_with fail
    with_reducible refine AW0.mono ?_
    rintro e w4 ⟨rfl, k5⟩
    clear AW0
    go_wp2_with fail
    go_ret
    exact ⟨rfl, k5⟩
  · have FQ := freq_any a n cap w h (by omega)
    obtain ⟨k, hk⟩ : ∃ k : Nat, 7 + lim % 8 = (k : Int) := ⟨(7 + lim % 8).toNat, by omega⟩
    have k7 : 7 ≤ k := by omega
    have k14 : k ≤ 14 := by omega
    obtain ⟨x, hx⟩ : ∃ x : Nat, xa % 65 = (x : Int) := ⟨(xa % 65).toNat, by omega⟩
    obtain ⟨y, hy⟩ : ∃ y : Nat, xb % 65 = (y : Int) := ⟨(xb % 65).toNat, by omega⟩
    have hx65 : x < 65 := by omega
    have hy65 : y < 65 := by omega
    obtain ⟨k1, hk1⟩ : ∃ k1 : Nat, (k : Int) + 1 = (k1 : Int) := ⟨k + 1, by omega⟩
    have hk1' : k + 1 = k1 := by omega
    clear h
    go_enter Try.func5, Try.ntmps5
    go_wp2_with fail
    with_reducible refine FQ.mono ?_
    rintro e w1 ⟨v, F, rfl, f1, f2, f3, f4⟩
    obtain ⟨bf, cf, rfl⟩ := own_slice f3 (by omega)
    have MB := freq_ok f2 k k7 (by omega)
    have MB1 := freq_ok f2 k1 (by omega) (by omega)
    have LE := lengths_yes (some ⟨bf, 0, none⟩) cf F k w1 (own_ri2 f3) MB
    have HF := Hid.intro (And.intro f3 (And.intro f4 (And.intro MB1 (And.intro f1 f2))))
    clear FQ f1 f2 f3 f4 MB MB1
    go_wp2_with fail
    with_reducible refine LE.mono ?_
    rintro e w2 ⟨v, o, r, rfl, p1, p2, p3, p4⟩
    have LE1 := lengths_yes (some ⟨bf, 0, none⟩) cf F k1 w2 (ri_below (own_ri2 HF.out.1) p4) HF.out.2.2.1
    have HP := Hid.intro (And.intro p1 (And.intro p2 (And.intro p3 p4)))
    obtain ⟨bl, cl, rfl⟩ := own_slice p3 (by omega)
    clear LE p1 p2 p3 p4 hk
    go_wp2_with fail
    with_reducible refine LE1.mono ?_
    rintro e w5 ⟨v, o', r', rfl, q1, q2, q3, q4⟩
    obtain ⟨p1, p2, p3, p4⟩ := HP.out
    obtain rfl := ordered_one p1 q1
    obtain ⟨bm, cm, rfl⟩ := own_slice q3 (by omega)
    obtain ⟨f3, f4, _, f1, f2⟩ := HF.out
    have rF := own_later (own_later f3 p4) q4
    have rL := own_later p3 q4
    have B5 : Below w.heap.size w w5 := (f4.trans (p4.mono f4.size)).trans (q4.mono (Nat.le_trans f4.size p4.size))
    have hr1 : Ranks F (k + 1) o r' := by rw [hk1']; exact q2
    have bL := fun c hc => lens_at p1 p2 k7 c hc
    have bM := fun c hc => lens_at p1 q2 (by omega) c hc
    have mono := fun i j hi hj h1 h2 => lens_mono p1 p2 i j hi hj h1 h2
    have mL := lens_may p1 p2 k7 (by omega)
    have mM := lens_may p1 q2 (by omega) (by omega)
    have dL := dot_cost f1 p1 p2.1
    have dM := dot_cost f1 p1 q2.1
    have more := cost_more p1 p2 hr1
    have lenL := put_len o r
    have lenM := put_len o r'
    have F65 : ∀ z ∈ F, -1099511627776 ≤ z ∧ z ≤ 1099511627776 := fun z hz => by have := f2 z hz; omega
    have F0 : ∀ c, c < 65 → 0 ≤ fr F c := fun c hc => by rw [fr_at F c (by omega)]; exact (f2 _ (List.getElem_mem (by omega))).1
    generalize put o r = L at *
    generalize put o r' = M at *
    have ML := mayl_any bl cl L w5 (own_low rL (Nat.zero_le _)) (fun c hc => by have := (bL c hc).1; omega) mL
    have MM := mayl_any bm cm M w5 (own_low q3 (Nat.zero_le _)) (fun c hc => by have := (bM c hc).1; omega) mM
    have HR := Hid.intro (And.intro rF (And.intro rL (And.intro q3 B5)))
    have HBL := Hid.intro (And.intro bL (And.intro bM (And.intro mono F0)))
    have HC := Hid.intro (And.intro dL (And.intro dM (And.intro more (And.intro lenL (And.intro lenM (And.intro F65 f1))))))
    have ER := err_any 0 w5
    clear LE1 HP HF p1 p2 p3 p4 q1 q2 q3 q4 f1 f2 f3 f4 rF rL B5 hr1 bL bM mono mL mM dL dM more lenL lenM F65 F0
    go_wp2_with fail
    with_reducible refine ER.mono ?_
    rintro e w6 ⟨rfl, rfl⟩
    go_wp2_with fail
    with_reducible refine ER.mono ?_
    rintro e w6' ⟨rfl, rfl⟩
    clear ER
    go_wp2_with fail
    with_reducible refine ML.mono ?_
    rintro e w7 ⟨rfl, rfl⟩
    clear ML
    go_wp2_with fail
    with_reducible refine MM.mono ?_
    rintro e w8 ⟨rfl, rfl⟩
    clear MM
    go_wp2_with fail
    go_loopw [15] (fun sv wr => LtRel w8 sv wr) (fun sv _ => 65 - (intOf sv).toNat)
    case atStart => exact ⟨0, by omega, rfl, Below.refl _ _⟩
    case round =>
      obtain ⟨i, hi, rfl, d1⟩ := hrel
      obtain ⟨rF, rL, rM, B5⟩ := HR.out
      by_cases hlt : i < 65
      · have cF := iv_at (own_later rF d1) i hlt
        have cL := ni_cell (own_later rL d1) i hlt
        have cM := ni_cell (own_later rM d1) i hlt
        obtain ⟨l1, l2⟩ := HBL.out.1 i hlt
        obtain ⟨m1, m2⟩ := HBL.out.2.1 i hlt
        generalize hfi : fr F i = fi at *
        generalize hli : at0 L i = li at *
        generalize at0 M i = mi at *
        have t1 : decide (k < li) = false := by simp; omega
        have t1' : decide ((k : Int) < (li : Int)) = false := by simp; omega
        have t2 : decide (k1 < mi) = false := by simp; omega
        have t2' : decide ((k1 : Int) < (mi : Int)) = false := by simp; omega
        have hiI : (i : Int) < 65 := by omega
        have hi0 : (0 : Int) ≤ (i : Int) := by omega
        have wk : IntKind.i64.wrap (k1 : Int) = (k1 : Int) := by rw [IntKind.wrap_i64]; omega
        have B1 : Hid (∀ q, Below w8.heap.size w8 (wr.drewN q)) := fun q => below_drewN d1 q
        have HFI := Hid.intro hfi
        have HLI := Hid.intro hli
        clear d1 rF rL rM B5 m2
        obtain ⟨b, hb⟩ : ∃ b, decide (0 < li) = b := ⟨_, rfl⟩
        have t3' : decide ((0 : Int) < (li : Int)) = b := by rw [← hb, decide_eq_decide]; omega
        have t4 : decide (0 < fi) = b := by rw [← hb, decide_eq_decide]; exact l2.symm
        have t5 : (b != b) = false := by cases b <;> rfl
        have t6 : (b == b) = true := by cases b <;> rfl
        clear l2 hfi hli
        go_wp2_with fail
        go_quiet (fail)
        clear t1 t1' t2 t2' t3' t4 t5 t6 hb
        go_wp2_with fail
        go_loopw [16] (fun sv wr => LtRel w8 sv wr) (fun sv _ => 65 - (intOf sv).toNat)
        case atStart => exact ⟨0, by omega, rfl, B1.out _⟩
        case round =>
          obtain ⟨j, hj, rfl, d1⟩ := hrel
          obtain ⟨rF, rL, rM, B5⟩ := HR.out
          by_cases hltj : j < 65
          · have cFi := iv_at (own_later rF d1) i hlt
            have cLi := ni_cell (own_later rL d1) i hlt
            have cFj := iv_at (own_later rF d1) j hltj
            have cLj := ni_cell (own_later rL d1) j hltj
            have mn := HBL.out.2.2.1 i j hlt hltj
            rw [HFI.out] at cFi mn
            rw [HLI.out] at cLi mn
            generalize fr F j = fj at *
            generalize at0 L j = lj at *
            have hjI : (j : Int) < 65 := by omega
            have hj0 : (0 : Int) ≤ (j : Int) := by omega
            have B2 : Hid (∀ q, Below w8.heap.size w8 (wr.drewN q)) := fun q => below_drewN d1 q
            clear d1 rF rL rM B5
            by_cases c1 : fj < fi
            · have t1 : decide (fj < fi) = true := by simp [c1]
              by_cases c2 : 0 < fj
              · have t2 : decide (0 < fj) = true := by simp [c2]
                have t3 : decide (lj < li) = false := by have := mn c1 c2; simp; omega
                have t3' : decide ((lj : Int) < (li : Int)) = false := by have := mn c1 c2; simp; omega
                clear mn c1 c2
                go_wp2_with fail
                go_quiet (fail)
                clear t1 t2 t3 t3'
                go_wp2_with fail
                go_roundw
                case rel => exact ⟨j + 1, by omega, by go_num, B2.out _⟩
                case measure => simp [intOf]; omega
              · have t2 : decide (0 < fj) = false := by simp; omega
                clear mn c1 c2
                go_wp2_with fail
                go_quiet (fail)
                clear t1 t2
                go_wp2_with fail
                go_roundw
                case rel => exact ⟨j + 1, by omega, by go_num, B2.out _⟩
                case measure => simp [intOf]; omega
            · have t1 : decide (fj < fi) = false := by simp; omega
              clear mn c1
              go_wp2_with fail
              go_quiet (fail)
              clear t1
              go_wp2_with fail
              go_roundw
              case rel => exact ⟨j + 1, by omega, by go_num, B2.out _⟩
              case measure => simp [intOf]; omega
          · have B2 := Hid.intro d1
            clear d1 rF rL rM B5
            go_wp2_with fail
            go_roundw
            case rel => exact ⟨i + 1, by omega, by go_num, B2.out⟩
            case measure => simp [intOf]; omega
      · obtain ⟨i0, hi0, hz0, hs0, hb0⟩ := info_all info3
        obtain ⟨dL, dM, more, lenL, lenM, F65, f1⟩ := HC.out
        have rL6 := own_later rL d1
        have B6 : Below w.heap.size w wr := B5.trans (d1.mono B5.size)
        have oE : Hid ((wr.alloc (.cells #[] 3)).ownsRow 0 3 1 (.slice (some ⟨wr.heap.size, 0, none⟩) 0 0) 0 []) := own_low ⟨by simp, .inr ⟨wr.heap.size, 0, #[], rfl, Nat.le_refl wr.heap.size, blk_new wr #[] 3, Nat.le_refl _, by decide, by simp, by simp⟩⟩ (Nat.zero_le _)
        have bE : Hid (Below wr.heap.size wr (wr.alloc (.cells #[] 3))) := (Below.refl _ _).alloc (Nat.le_refl _) _
        have cells : Hid (∀ q u, (ni L)[q]? = some u → (wr.alloc (.cells #[] 3)).cell? ((⟨bl, 0, none⟩ : Addr).add q) = some u) := fun q u hu => (World.ownsRow.alloc rL6 (.cells #[] 3)).cells (g := bl) rfl q u hu
        have HLn : Hid ((ni L).length = 65 * 1) := by show _ = _; rw [ni_len, lenL]
        have HB6 := Hid.intro B6
        have D1 := Hid.intro d1
        clear rF rL rM B5 rL6 B6 d1 dL dM more lenL lenM F65 f1
        go_wp2_with (at_builtin; refine wpList_push _ rfl (.tmp 132) (.tmp 133) 22 rfl 3 i0 (.int .i64 0) 1 8 Try.underlying22 hi0 hz0 hs0 hb0 rfl (by decide) (by decide) (.slice (some ⟨wr.heap.size, 0, none⟩) 0 0) 0 [] rfl oE.out ⟨bl, 0, none⟩ 65 cl (ni L) rfl HLn.out cells.out (by intro u hu; obtain ⟨z, _, rfl⟩ := List.mem_map.1 hu; rfl) (by omega) ?_)
        intro v' w9 g1 g2 g3
        have B9 : Below wr.heap.size wr w9 := by
          refine ⟨g2.os.trans bE.out.os, g2.tape.trans bE.out.tape, g2.output.trans bE.out.output, Nat.le_trans bE.out.size g2.size, fun k hk => (g2.block k ?_ ?_).trans (bE.out.block k hk)⟩
          · have := bE.out.size; omega
          · intro e; simp [Value.ownBlock] at e; omega
        obtain ⟨bn, cn, rfl⟩ := own_slice g1 (by omega)
        have hbn : wr.heap.size ≤ bn := (g3 bn rfl).elim (fun e => by simp [Value.ownBlock] at e; omega) (fun e => by have := bE.out.size; omega)
        obtain ⟨rF, rL, rM, B5⟩ := HR.out
        obtain ⟨dL, dM, more, lenL, lenM, F65, f1⟩ := HC.out
        obtain ⟨bLd, bMd, mono, F0⟩ := HBL.out
        have D9 : Below w8.heap.size w8 w9 := D1.out.trans (B9.mono D1.out.size)
        have lbl := (rL.lt bl rfl).2
        have lbf := (rF.lt bf rfl).2
        have lbm := (rM.lt bm rfl).2
        have szw := D1.out.size
        have rL9 := own_later rL D9
        have cy := ni_cell rL9 y hy65
        have cx9 := ni_cell rL9 x hx65
        obtain ⟨u1, hu1, fu1⟩ := own_one g1 x hx65
        have o10 := own_set g1 x (.int .i64 (at0 L y : Int))
        obtain ⟨u2, hu2, fu2⟩ := own_one o10 y hy65
        have o11 := own_set o10 y (.int .i64 (at0 L x : Int))
        rw [ni_ivs, ivs_set, ivs_set] at o11
        have ch1 : Chg (· = bn) w9 (w9.setCell ⟨bn, x, none⟩ (.int .i64 (at0 L y : Int))) := chg_in (chg_refl _ _) _ _
        have cx : (w9.setCell ⟨bn, x, none⟩ (.int .i64 (at0 L y : Int))).cell? ⟨bl, x, none⟩ = some (.int .i64 (at0 L x : Int)) := by
          rw [chg_cell ch1 (p := ⟨bl, x, none⟩) (by show ¬ bl = bn; omega) (by show bl < w9.heap.size; have := D9.size; omega)]; exact cx9
        have ch2 : Chg (· = bn) w9 ((w9.setCell ⟨bn, x, none⟩ (.int .i64 (at0 L y : Int))).setCell ⟨bn, y, none⟩ (.int .i64 (at0 L x : Int))) := chg_in ch1 _ _
        have hn15 : ∀ c, c < 65 → at0 L c ≤ 15 := fun c hc => by have := (bLd c hc).1; omega
        have hm15 : ∀ c, c < 65 → at0 M c ≤ 16 := fun c hc => by have := (bMd c hc).1; omega
        have nn : ∀ (P : List Nat), P.length = 65 → (∀ c, c < 65 → at0 P c ≤ 16) → ∀ z ∈ P.map Int.ofNat, -100 ≤ z ∧ z ≤ 100 := fun P hP hb z hz => by
          obtain ⟨v, hv, rfl⟩ := List.mem_map.1 hz
          obtain ⟨q, hq, rfl⟩ := List.getElem_of_mem hv
          have := hb q (by omega)
          unfold at0 at this
          rw [List.getD_eq_getElem?_getD, List.getElem?_eq_getElem hq] at this
          have e : Int.ofNat P[q] = (P[q] : Int) := rfl
          have t : P[q] ≤ 16 := this
          rw [e]; omega
        obtain ⟨w10, hw10⟩ : ∃ w10, (w9.setCell ⟨bn, x, none⟩ (.int .i64 (at0 L y : Int))).setCell ⟨bn, y, none⟩ (.int .i64 (at0 L x : Int)) = w10 := ⟨_, rfl⟩
        rw [hw10] at o11 ch2
        have rF10 : w10.ownsRow w.heap.size 3 1 (.slice (some ⟨bf, 0, none⟩) 65 cf) 65 (ivs F) := own_low (own_kept (own_later rF D9) ch2 (fun k hk e => by simp [Value.ownBlock] at hk; omega)) (Nat.le_refl _)
        have rL10 := own_kept rL9 ch2 (fun k hk e => by simp [Value.ownBlock] at hk; omega)
        have rM10 := own_kept (own_later rM D9) ch2 (fun k hk e => by simp [Value.ownBlock] at hk; omega)
        have HB10 : Hid (Below w.heap.size w w10) := by
          have b := HB6.out.trans (B9.mono HB6.out.size)
          exact b.trans (chg_below ch2 b.size (fun k hk => by have := HB6.out.size; omega))
        have CL : ∀ W, Below w10.heap.size w10 W → Calls Try.prog 14 #[.slice (some ⟨bf, 0, none⟩) 65 cf, .slice (some ⟨bl, 0, none⟩) 65 cl] W fun e W' => e = .returned (.int .i64 (dot F (L.map Int.ofNat))) ∧ Below W.heap.size W W' := fun W hW => cost_any _ _ 65 65 cf cl F _ W (ri_below (own_ri2 rF10) hW) (ri_below (own_ri2 rL10) hW) (by omega) (by omega) (dotB_of _ _ F65 (nn L lenL (fun c hc => by have := hn15 c hc; omega)))
        have CM : ∀ W, Below w10.heap.size w10 W → Calls Try.prog 14 #[.slice (some ⟨bf, 0, none⟩) 65 cf, .slice (some ⟨bm, 0, none⟩) 65 cm] W fun e W' => e = .returned (.int .i64 (dot F (M.map Int.ofNat))) ∧ Below W.heap.size W W' := fun W hW => cost_any _ _ 65 65 cf cm F _ W (ri_below (own_ri2 rF10) hW) (ri_below (own_ri2 rM10) hW) (by omega) (by omega) (dotB_of _ _ F65 (nn M lenM hm15))
        have CN : ∀ W, Below w10.heap.size w10 W → Calls Try.prog 14 #[.slice (some ⟨bf, 0, none⟩) 65 cf, .slice (some ⟨bn, 0, none⟩) 65 cn] W fun e W' => e = .returned (.int .i64 (dot F (((L.map Int.ofNat).set x (at0 L y : Int)).set y (at0 L x : Int)))) ∧ Below W.heap.size W W' := fun W hW => cost_any _ _ 65 65 cf cn F _ W (ri_below (own_ri2 rF10) hW) (ri_below (own_ri2 o11) hW) (by omega) (by omega) (dotB_of _ _ F65 (fun z hz => by
          have hlx := hn15 x hx65
          have hly := hn15 y hy65
          rcases List.mem_or_eq_of_mem_set hz with h | h
          · rcases List.mem_or_eq_of_mem_set h with h | h
            · exact nn L lenL (fun c hc => by have := hn15 c hc; omega) z h
            · omega
          · omega))
        have SWP := swap_cost f1 lenL x y hx65 hy65 mono
        have hdm : dot F (M.map Int.ofNat) ≤ dot F (L.map Int.ofNat) := by rw [dL, dM]; omega
        have cfx := iv_at rF10 x hx65
        have cfy := iv_at rF10 y hy65
        have nx := F0 x hx65
        have ny := F0 y hy65
        have HW10 := Hid.intro hw10
        have hxI : (x : Int) < 65 := by omega
        have hyI : (y : Int) < 65 := by omega
        clear g1 g2 g3 B9 oE bE cells HLn hbn rF rL rM B5 dL dM more lenL lenM F65 f1 bLd bMd mono F0 D9 D1 lbl lbf lbm szw rL9 cx9 o10 o11 ch1 ch2 hn15 hm15 nn hw10 rF10 rL10 rM10 HR HBL HC HB6 hi0 hz0 hs0 hb0
        generalize at0 L x = lx at *
        generalize at0 L y = ly at *
        generalize fr F x = fx at *
        generalize fr F y = fy at *
        generalize dot F (L.map Int.ofNat) = vl at *
        generalize dot F (M.map Int.ofNat) = vm at *
        generalize dot F (((L.map Int.ofNat).set x (ly : Int)).set y (lx : Int)) = vn at *
        go_upto_region 23 with fail
        rw [HW10.out]
        clear HW10 cx cy hu1 fu1 hu2 fu2
        by_cases hfx : fx = 0
        · subst hfx
          obtain ⟨wA, hwA⟩ : ∃ wA, wA = w10 := ⟨_, rfl⟩
          have BA : Below w10.heap.size w10 wA := by rw [hwA]; exact Below.refl _ _
          rw [← hwA] at cfx cfy ⊢
          clear hwA
          go_wp2_with fail
          with_reducible refine (CM wA BA).mono ?_
          rintro e w13 ⟨rfl, z13⟩
          have B13 := BA.trans (z13.mono BA.size)
          clear z13
          go_wp2_with fail
          with_reducible refine (CL w13 B13).mono ?_
          rintro e w14 ⟨rfl, z14⟩
          have B14 := B13.trans (z14.mono B13.size)
          have AW := awake_any w14
          clear z14
          go_wp2_with fail
          with_reducible refine AW.mono ?_
          rintro e w15 ⟨rfl, z15⟩
          have B15 := Hid.intro (HB10.out.trans ((B14.trans (z15.mono B14.size)).mono HB10.out.size))
          clear AW z15
          go_wp2_with fail
          go_ret
          exact ⟨rfl, B15.out⟩
        · have tx : (fx == 0) = false := by simp [hfx]
          by_cases hfy : fy = 0
          · subst hfy
            obtain ⟨wA, hwA⟩ : ∃ wA, wA = w10 := ⟨_, rfl⟩
            have BA : Below w10.heap.size w10 wA := by rw [hwA]; exact Below.refl _ _
            rw [← hwA] at cfx cfy ⊢
            clear hwA
            go_wp2_with fail
            with_reducible refine (CM wA BA).mono ?_
            rintro e w13 ⟨rfl, z13⟩
            have B13 := BA.trans (z13.mono BA.size)
            clear z13
            go_wp2_with fail
            with_reducible refine (CL w13 B13).mono ?_
            rintro e w14 ⟨rfl, z14⟩
            have B14 := B13.trans (z14.mono B13.size)
            have AW := awake_any w14
            clear z14
            go_wp2_with fail
            with_reducible refine AW.mono ?_
            rintro e w15 ⟨rfl, z15⟩
            have B15 := Hid.intro (HB10.out.trans ((B14.trans (z15.mono B14.size)).mono HB10.out.size))
            clear AW z15
            go_wp2_with fail
            go_ret
            exact ⟨rfl, B15.out⟩
          · have ty : (fy == 0) = false := by simp [hfy]
            have sw := SWP (by omega) (by omega)
            go_wp2_with fail
            with_reducible refine (CN w10 (Below.refl _ _)).mono ?_
            rintro e w11 ⟨rfl, z11⟩
            go_wp2_with fail
            with_reducible refine (CL w11 z11).mono ?_
            rintro e wA ⟨rfl, z12⟩
            have BA : Below w10.heap.size w10 wA := z11.trans (z12.mono z11.size)
            clear z11 z12
            go_wp2_with fail
            with_reducible refine (CM wA BA).mono ?_
            rintro e w13 ⟨rfl, z13⟩
            have B13 := BA.trans (z13.mono BA.size)
            clear z13
            go_wp2_with fail
            with_reducible refine (CL w13 B13).mono ?_
            rintro e w14 ⟨rfl, z14⟩
            have B14 := B13.trans (z14.mono B13.size)
            have AW := awake_any w14
            clear z14
            go_wp2_with fail
            with_reducible refine AW.mono ?_
            rintro e w15 ⟨rfl, z15⟩
            have B15 := Hid.intro (HB10.out.trans ((B14.trans (z15.mono B14.size)).mono HB10.out.size))
            clear AW z15
            go_wp2_with fail
            go_ret
            exact ⟨rfl, B15.out⟩
end Go.Proofs.Ytabnafjndljimaa
