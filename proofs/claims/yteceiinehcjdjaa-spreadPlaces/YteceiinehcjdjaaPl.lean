/-
  SpreadPlaces: the walk.
-/
import Derived.Test.YteceiinehcjdjaaTt
import Derived.Test.YteceiinehcjdjaaAw
import Derived.Test.YteceiinehcjdjaaCn
import Derived.Test.YteceiinehcjdjaaSc
import Derived.Test.YteceiinehcjdjaaPm
import Derived.Deep.QuietTactic
import Derived.Deep.RegionWith
import Derived.Deep.RegionHeld3
import Derived.OwnWalk
import Derived.ChangeOld
import Derived.Below
import Derived.BigQuiet
namespace Go.Proofs.Yteceiinehcjdjaa
open Go.ChangeShapes Go.WideShapes Go.ChangeAt Go.RowKit
open Go.ChangeMaps (open_string shut_string)

theorem rowF_zero (K n s : Nat) (cs : List Nat) (c : Nat) : rowF (hF K n ((cs.take 0).count c)) s = List.replicate s 0 := by
  rw [rowF_congr (f' := fun _ => 0) (fun t _ => by simp [hF, hit])]
  unfold rowF
  apply List.ext_getElem?
  intro t
  by_cases ht : t < s
  · rw [List.getElem?_map, List.getElem?_range ht, List.getElem?_replicate, if_pos ht]; rfl
  · rw [List.getElem?_eq_none (by simp; omega), List.getElem?_eq_none (by simp; omega)]
def PlRel (M cs : List Nat) (K cq s m1 i1 : Nat) (w : World) (iv : Value) (wr : World) : Prop :=
  ∃ i : Nat, i ≤ s ∧ iv = .int .i64 i ∧ wr.ownsRow 0 3 1 (.slice (some ⟨m1, 0, none⟩) 65 65) 65 (nis (nxt zr cs i)) ∧ wr.ownsRow 0 3 1 (.slice (some ⟨i1, 0, none⟩) s s) s (nis (rowF (hF K (g M cq) ((cs.take i).count cq)) s)) ∧ Below w.heap.size w wr
def PlRel2 (M cs : List Nat) (K cq s m1 i1 i m e b : Nat) (Z : Nat) (w : World) (jv : Value) (wr : World) : Prop :=
  ∃ j : Nat, j ≤ 2 ^ b ∧ jv = .int .i64 j ∧ wr.ownsRow 0 3 1 (.slice (some ⟨m1, 0, none⟩) 65 65) 65 (nis (nxt zr cs (i + 1))) ∧ wr.ownsRow 0 3 1 (.slice (some ⟨i1, 0, none⟩) s s) s (nis (rowF (inF K (g M cq) m e j) s)) ∧ Blk wr Z #[.int .i64 (cq : Nat), .int .i64 (b : Nat), .int .i64 (e : Nat)] 45 ∧ Below w.heap.size w wr
def PlRel3 (s : Nat) (w : World) (iv : Value) (wr : World) : Prop := ∃ i : Nat, i ≤ s ∧ iv = .int .i64 i ∧ Below w.heap.size w wr
set_option maxRecDepth 100000 in
set_option maxHeartbeats 8000000 in
theorem places_walk (a : Option Addr) (n cap : Nat) (b c : Int) (w : World) (h : RU w a n) (h2 : 0 ≤ b ∧ b ≤ 255) (h3 : 0 ≤ c ∧ c ≤ 255) (hn : n ≤ 9223372036854775807) :
    Calls Try.prog 5 #[.slice a n cap, .int .u8 b, .int .u8 c] w fun e w' => e = .returned (.bool true) ∧ Below w.heap.size w w' := by
  have AW := Hid.intro awake_any
  by_cases hbig : 140 < n
  · clear h
    go_enter Try.func5, Try.ntmps5
    go_wp2_with fail
    with_reducible refine (AW.out _).mono ?_
    rintro e w1 ⟨rfl, b1⟩
    go_wp2_with fail
    go_ret
    exact ⟨rfl, b1⟩
  · have CN := counts_any a n cap b w h h2 (by omega)
    obtain ⟨cq, hcq⟩ : ∃ cq : Nat, c % 65 = (cq : Int) := ⟨(c % 65).toNat, by omega⟩
    have hcqt : c.tmod 65 = (cq : Int) := by rw [Int.tmod_eq_emod_of_nonneg h3.1]; exact hcq
    have cq65 : cq < 65 := by omega
    have wc : IntKind.i64.wrap c = c := by rw [IntKind.wrap_i64]; omega
    have wcq : IntKind.i64.wrap (cq : Int) = (cq : Int) := by rw [IntKind.wrap_i64]; omega
    obtain ⟨h3a, h3b⟩ := h3
    clear h
    go_enter Try.func5, Try.ntmps5
    go_wp2_with fail
    with_reducible refine CN.mono ?_
    rintro e w1 ⟨v, K, M, rfl, sp, mm, o1, b1⟩
    clear CN
    obtain ⟨bl, cl, rfl⟩ := own_slice o1 (by omega)
    have e3 : (K : Int).toNat = K := by omega
    have e4 : (M.map Int.ofNat).map Int.toNat = M := by rw [List.map_map]; conv => rhs; rw [← List.map_id M]
                                                        exact List.map_congr_left (fun x _ => rfl)
    have tA := tabA_yes mm
    rw [e3, e4] at tA
    have C1 := table_any (some ⟨bl, 0, none⟩) 65 cl (M.map Int.ofNat) (K : Int) w1 (own_ri' o1) (by omega)
    rw [tA] at C1
    obtain ⟨s, hs2, hs8, es, -, -, -, sl, su, -, -⟩ := stp_eq K sp.k7 sp.k12
    have O1 := Hid.intro o1
    have B1 := Hid.intro b1
    have K12 := sp.k12
    have sk : (2 : Int) ^ K = (s : Int) := by rw [← es, Int.natCast_pow]; rfl
    have wk : IntKind.i64.wrap (s : Int) = (s : Int) := by rw [IntKind.wrap_i64]; omega
    have HSP := Hid.intro sp
    have HSP2 : Hid (Spd K M (spr K M)) := HSP
    obtain ⟨cs, hcs⟩ : ∃ cs, spr K M = cs := ⟨_, rfl⟩
    rw [hcs] at HSP C1
    clear sp mm o1 b1 e3 e4 tA hcs HSP2
    go_wp2_with fail
    with_reducible refine C1.mono ?_
    rintro e w2 ⟨v1, rfl, o2, b2⟩
    simp only at o2
    rw [tab_len, es] at o2
    obtain ⟨bt, ct, rfl⟩ := own_slice o2 (by omega)
    have B2 := Hid.intro (B1.out.trans (b2.mono B1.out.size))
    have O1 := Hid.intro (own_later O1.out b2)
    have O2 := Hid.intro o2
    clear o2 b2 C1 B1
    have mk := make_ints 22 3 Try.underlying22 info3 65 (by omega) w2
    rw [show ((65 : Nat) : Int) = 65 from rfl] at mk
    have om := own_made_ints w2 3 65 (by omega)
    have mk2 := make_ints 22 3 Try.underlying22 info3 s (by omega) (w2.alloc (.cells (madeCells #[.int .i64 0] 65) 3))
    have om2 := own_made_ints (w2.alloc (.cells (madeCells #[.int .i64 0] 65) 3)) 3 s (by omega)
    go_wp2_with fail
    with_reducible refine (err_i _ _).mono ?_
    rintro e w9 ⟨rfl, hw9⟩
    cases hw9
    have tn : ((s : Int) != (s : Int)) = false := by simp
    go_wp2_with fail
    clear mk mk2
    obtain ⟨m1, hm1⟩ : ∃ m1, w2.heap.size = m1 := ⟨_, rfl⟩
    have HM1 := Hid.intro hm1
    have sz1 : (w2.alloc (.cells (madeCells #[.int .i64 0] 65) 3)).heap.size = m1 + 1 := by simp; omega
    rw [sz1] at om2
    rw [hm1] at om ⊢
    have ob := own_low (World.ownsRow.alloc om (.cells (madeCells #[.int .i64 0] s) 3)) (Nat.zero_le _)
    have b5 : Below w2.heap.size w2 ((w2.alloc (.cells (madeCells #[.int .i64 0] 65) 3)).alloc (.cells (madeCells #[.int .i64 0] s) 3)) := ((Below.refl _ _).alloc (Nat.le_refl _) _).alloc (by simp) _
    have h140 : decide ((140 : Int) < (n : Int)) = false := by simp; omega
    simp only [h140]
    clear h140
    generalize (w2.alloc (.cells (madeCells #[.int .i64 0] 65) 3)).alloc (.cells (madeCells #[.int .i64 0] s) 3) = w5 at *
    have om2' := own_low om2 (Nat.zero_le _)
    have ST : Hid (PlRel M cs K cq s m1 (m1 + 1) w2 (.int .i64 0) w5) := by
      refine ⟨0, Nat.zero_le _, rfl, ?_, ?_, b5⟩
      · show World.ownsRow _ _ _ _ _ _ _
        rw [nis_zero] at ob
        exact ob
      · show World.ownsRow _ _ _ _ _ _ _
        rw [rowF_zero, ← nis_zero]
        exact om2'
    have hbl := Hid.intro (O1.out.lt bl rfl).2
    have hbt := Hid.intro (O2.out.lt bt rfl).2
    have ES := Hid.intro es
    clear om om2 om2' ob b5 sz1 es hm1
    go_loopw [15] (fun iv wr => PlRel M cs K cq s m1 (m1 + 1) w2 iv wr) (fun iv _ => s - (intOf iv).toNat)
    case atStart => exact ST.out
    case round =>
      clear ST
      obtain ⟨i, hi, rfl, d1, d2, d3⟩ := hrel
      by_cases hlt : i < s
      · obtain ⟨cc, bb, ee, hcel, hgc, hc65, hbK, hes, hbb, hee, hxx⟩ := cel_bd HSP.out i (by rw [ES.out]; exact hlt)
        have him : i < cs.length := by rw [HSP.out.all, ES.out]; exact hlt
        have tc := cv_cells (own_later O2.out d3) i hlt
        rw [tab_get K M cs s i hlt, hcel] at tc
        obtain ⟨t1, t2, t3⟩ := tc
        simp only at t1 t2 t3
        have bZ := blk_new wr #[.int .i64 (cc : Int), .int .i64 (bb : Int), .int .i64 (ee : Int)] 45
        obtain ⟨Z, hZ⟩ : ∃ Z, wr.heap.size = Z := ⟨_, rfl⟩
        have hZ1 : m1 + 1 < Z := by rw [← hZ]; exact (d2.lt (m1 + 1) rfl).2
        rw [hZ] at bZ
        have e1 := World.ownsRow.alloc d1 (.cells #[.int .i64 (cc : Int), .int .i64 (bb : Int), .int .i64 (ee : Int)] 45)
        have e2 := World.ownsRow.alloc d2 (.cells #[.int .i64 (cc : Int), .int .i64 (bb : Int), .int .i64 (ee : Int)] 45)
        have e3 : Below w2.heap.size w2 (wr.alloc (.cells #[.int .i64 (cc : Int), .int .i64 (bb : Int), .int .i64 (ee : Int)] 45)) := d3.alloc d3.size _
        obtain ⟨P, hP⟩ : ∃ P : Nat, (2 : Int) ^ bb = (P : Int) ∧ 2 ^ bb = P := ⟨2 ^ bb, by rw [Int.natCast_pow]; rfl, rfl⟩
        obtain ⟨hP1, hP2⟩ := hP
        rw [hP2, ES.out] at hes
        have hP0 : 0 < P := by rw [← hP2]; exact Nat.two_pow_pos bb
        have i0 : (0 : Int) ≤ (i : Int) := by omega
        have iS : (i : Int) < (s : Int) := by omega
        have q1 : decide ((cc : Int) < 0) = false := by simp
        have q2 : decide ((64 : Int) < (cc : Int)) = false := by simp; omega
        have q3 : decide ((bb : Int) < 0) = false := by simp
        have q4 : decide ((K : Int) < (bb : Int)) = false := by simp; omega
        have q5 : decide ((ee : Int) < 0) = false := by simp
        have q6 : decide ((s : Int) < (ee : Int) + (P : Int)) = false := by simp; omega
        have wP : IntKind.i64.wrap (P : Int) = (P : Int) := by rw [IntKind.wrap_i64]; omega
        have wE : IntKind.i64.wrap ((ee : Int) + (P : Int)) = (ee : Int) + (P : Int) := by rw [IntKind.wrap_i64]; omega
        have bb0 : (0 : Int) ≤ (bb : Int) := by omega
        have HC := Hid.intro hcel
        have HG := Hid.intro hgc
        have HB := Hid.intro hbb
        have HE := Hid.intro hee
        have HX := Hid.intro hxx
        have HI := Hid.intro him
        have HP2 := Hid.intro hP2
        clear d1 d2 d3 hcel hgc hbb hee hxx him hP2
        go_wp2_with fail
        generalize wr.alloc (.cells #[.int .i64 (cc : Int), .int .i64 (bb : Int), .int .i64 (ee : Int)] 45) = w6 at *
        have z0 : w6.cell? ⟨Z, 0, none⟩ = some (.int .i64 (cc : Int)) := by rw [blk_cell bZ]; rfl
        have z1 : w6.cell? ⟨Z, 1, none⟩ = some (.int .i64 (bb : Int)) := by rw [blk_cell bZ]; rfl
        have z2 : w6.cell? ⟨Z, 2, none⟩ = some (.int .i64 (ee : Int)) := by rw [blk_cell bZ]; rfl
        clear t1 t2 t3 hZ
        have BZ := Hid.intro bZ
        have E1 := Hid.intro e1
        have E2 := Hid.intro e2
        have E3 := Hid.intro e3
        clear bZ e1 e2 e3
        go_quiet (fail)
        have bZ : Blk (w6.drewN nq) Z #[.int .i64 (cc : Int), .int .i64 (bb : Int), .int .i64 (ee : Int)] 45 := blk_kept BZ.out (drewN_chg w6 nq) (fun h => h)
        have e1 := own_kept E1.out (drewN_chg w6 nq) (fun _ _ h => h)
        have e2 := own_kept E2.out (drewN_chg w6 nq) (fun _ _ h => h)
        have e3 := below_drewN E3.out nq
        generalize w6.drewN nq = w7 at *
        clear z0 z1 z2 BZ E1 E2 E3 q1 q2 q3 q4 q5 q6 wE
        have z0 : w7.cell? ⟨Z, 0, none⟩ = some (.int .i64 (cc : Int)) := by rw [blk_cell bZ]; rfl
        have cn := nis_at e1 cc hc65
        have fn := (own_there e1 cc (by omega)).2.2
        have yle : g (nxt zr cs i) cc ≤ 4096 := by
          rw [cnt_get HSP.out cc i (by have := HI.out; omega)]
          have := List.count_le_length (a := cc) (l := cs.take i)
          rw [List.length_take] at this
          omega
        have N2 : Hid (nxt zr cs (i + 1) = (nxt zr cs i).set cc (g (nxt zr cs i) cc + 1)) := by
          show _ = _
          simp only [nxt]
          rw [HG.out]
        have CN2 : Hid ((cs.take (i + 1)).count cq = (cs.take i).count cq + if cc = cq then 1 else 0) := by
          have := cnt_next HSP.out i HI.out cq
          rw [HG.out] at this
          exact this
        have f1 := blk_set_other bZ ⟨m1, cc, none⟩ (.int .i64 ((g (nxt zr cs i) cc : Nat) + 1)) (by show Z ≠ m1; omega)
        have Zc := chg_set (S := (· = m1)) (chg_refl _ w7) ⟨m1, cc, none⟩ (.int .i64 ((g (nxt zr cs i) cc : Nat) + 1)) (fun _ => rfl)
        have f2 : Hid ((w7.setCell ⟨m1, cc, none⟩ (.int .i64 ((g (nxt zr cs i) cc : Nat) + 1))).ownsRow 0 3 1 (.slice (some ⟨m1, 0, none⟩) 65 65) 65 (nis (nxt zr cs (i + 1)))) := by
          have := own_set e1 cc (.int .i64 ((g (nxt zr cs i) cc + 1 : Nat) : Int))
          rw [nis_set] at this
          show World.ownsRow _ _ _ _ _ _ _
          rw [N2.out]
          exact this
        have f3 := own_kept e2 Zc (fun j hj e => by simp [Value.ownBlock] at hj; omega)
        have f4 := Hid.intro (e3.setCell (p := ⟨m1, cc, none⟩) (by show w2.heap.size ≤ m1; rw [HM1.out]; exact Nat.le_refl _) (.int .i64 ((g (nxt zr cs i) cc : Nat) + 1)))
        have c0 : (0 : Int) ≤ (cc : Int) := by omega
        have cI : (cc : Int) < 65 := by omega
        clear bZ e1 e2 e3 Zc N2
        generalize g (nxt zr cs i) cc = y at *
        have F1 := Hid.intro f1
        have F3 := Hid.intro f3
        have z0' : (w7.setCell ⟨m1, cc, none⟩ (.int .i64 ((y : Nat) + 1))).cell? ⟨Z, 0, none⟩ = some (.int .i64 (cc : Int)) := by rw [blk_cell f1]; rfl
        clear f1 f3
        by_cases hq : cc = cq
        · subst hq
          rw [if_pos rfl] at CN2
          have tq : ((cc : Int) == (cc : Int)) = true := by simp
          go_wp2_with fail
          have mle : (cs.take i).count cc ≤ 4096 := by
            have := List.count_le_length (a := cc) (l := cs.take i)
            rw [List.length_take] at this
            omega
          have HN : Hid (inF K (g M cc) ((cs.take i).count cc) ee P = inF K (g M cc) ((cs.take i).count cc) ((g M cc + (cs.take i).count cc) * 2 ^ bts K (g M cc + (cs.take i).count cc) - 2 ^ K) (2 ^ bts K (g M cc + (cs.take i).count cc))) := by
            show _ = _
            rw [← HB.out, HP2.out, HE.out, HP2.out]
          have HX2 : Hid (2 ^ K ≤ (g M cc + (cs.take i).count cc) * 2 ^ bts K (g M cc + (cs.take i).count cc)) := by rw [← HB.out]; exact HX.out
          have ST2 : Hid (PlRel2 M cs K cc s m1 (m1 + 1) i ((cs.take i).count cc) ee bb Z w2 (.int .i64 0) (w7.setCell ⟨m1, cc, none⟩ (.int .i64 ((y : Nat) + 1)))) := by
            refine ⟨0, Nat.zero_le _, rfl, f2.out, ?_, F1.out, f4.out⟩
            show World.ownsRow _ _ _ _ _ _ _
            rw [show inF K (g M cc) ((cs.take i).count cc) ee 0 = hF K (g M cc) ((cs.take i).count cc) from funext (fun t => inF_zero _ _ _ _ t)]
            exact F3.out
          clear f2 f4 F1 F3 z0' z0 cn fn
          generalize w7.setCell ⟨m1, cc, none⟩ (.int .i64 ((y : Nat) + 1)) = w8 at *
          generalize (cs.take i).count cc = m at *
          go_loopw [17] (fun jv wr => PlRel2 M cs K cc s m1 (m1 + 1) i m ee bb Z w2 jv wr) (fun jv _ => P - (intOf jv).toNat)
          case atStart => exact ST2.out
          case round =>
            clear ST2
            obtain ⟨j, hj, rfl, d1, d2, d3, d4⟩ := hrel
            rw [HP2.out] at hj
            have y1 : wr.cell? ⟨Z, 1, none⟩ = some (.int .i64 (bb : Int)) := by rw [blk_cell d3]; rfl
            have y2 : wr.cell? ⟨Z, 2, none⟩ = some (.int .i64 (ee : Int)) := by rw [blk_cell d3]; rfl
            by_cases hjl : j < P
            · obtain ⟨t, ht⟩ : ∃ t : Nat, (ee : Int) + (j : Int) = (t : Int) := ⟨ee + j, by omega⟩
              have ht2 : t = ee + j := by omega
              have hts : t < s := by omega
              have cy := nis_at d2 t hts
              rw [rowF_get _ _ _ hts] at cy
              have fy := (own_there d2 t (by omega)).2.2
              have ybd : inF K (g M cc) m ee j t ≤ 4097 := by
                unfold inF
                have := hF_bd K (g M cc) m t
                split <;> omega
              have g1 := own_kept d1 (chg_set (S := (· = m1 + 1)) (chg_refl _ wr) ⟨m1 + 1, t, none⟩ (.int .i64 ((inF K (g M cc) m ee j t : Nat) + 1)) (fun _ => rfl)) (fun q hq e => by simp [Value.ownBlock] at hq; omega)
              have g2 : Hid ((wr.setCell ⟨m1 + 1, t, none⟩ (.int .i64 ((inF K (g M cc) m ee j t : Nat) + 1))).ownsRow 0 3 1 (.slice (some ⟨m1 + 1, 0, none⟩) s s) s (nis (rowF (inF K (g M cc) m ee (j + 1)) s))) := by
                have := own_set d2 t (.int .i64 ((inF K (g M cc) m ee j t + 1 : Nat) : Int))
                rw [nis_set, rowF_set] at this
                rw [show (fun q => inF K (g M cc) m ee j q + if q = t then 1 else 0) = inF K (g M cc) m ee (j + 1) from funext (fun q => by rw [inF_succ, ht2])] at this
                exact this
              have g3 := Hid.intro (blk_set_other d3 ⟨m1 + 1, t, none⟩ (.int .i64 ((inF K (g M cc) m ee j t : Nat) + 1)) (by show Z ≠ m1 + 1; omega))
              have g4 := Hid.intro (d4.setCell (p := ⟨m1 + 1, t, none⟩) (by show w2.heap.size ≤ m1 + 1; have := HM1.out; omega) (.int .i64 ((inF K (g M cc) m ee j t : Nat) + 1)))
              have G1 := Hid.intro g1
              have t0 : (0 : Int) ≤ (t : Int) := by omega
              have tI : (t : Int) < (s : Int) := by omega
              clear d1 d2 d3 d4 g1 ht2
              generalize inF K (g M cc) m ee j t = u at *
              go_wp2_with fail
              go_roundw
              case rel => exact ⟨j + 1, by rw [HP2.out]; omega, by go_num, G1.out, g2.out, g3.out, g4.out⟩
              case measure => simp [intOf]; omega
            · obtain rfl : j = P := by omega
              have g2 : Hid (wr.ownsRow 0 3 1 (.slice (some ⟨m1 + 1, 0, none⟩) s s) s (nis (rowF (hF K (g M cc) (m + 1)) s))) := by
                rw [HN.out] at d2
                rw [rowF_congr (fun t _ => inF_all K (g M cc) m t HX2.out)] at d2
                exact d2
              clear d2 d3
              go_wp2_with fail
              go_roundw
              case rel => exact ⟨i + 1, by omega, by go_num, d1, by rw [CN2.out]; exact g2.out, d4⟩
              case measure => simp [intOf]; omega
        · have tq : ((cc : Int) == (cq : Int)) = false := by simp; omega
          rw [if_neg hq, Nat.add_zero] at CN2
          go_wp2_with fail
          exact ⟨⟨i + 1, by omega, by go_num, f2.out, by rw [CN2.out]; exact F3.out, f4.out⟩, by simp [intOf]; omega⟩
      · obtain rfl : i = s := by omega
        have hcnt : (cs.take i).count cq = g M cq := by rw [List.take_of_length_le (by rw [HSP.out.all, ES.out]; exact Nat.le_refl _), HSP.out.cnt]
        have hall : nxt zr cs i = M := by rw [← ES.out]; exact cnt_all HSP.out
        rw [hcnt] at d2
        rw [hall] at d1
        have D1 := Hid.intro d1
        have D2 := Hid.intro d2
        have D3 := Hid.intro d3
        have ST3 : Hid (PlRel3 i wr (.int .i64 0) wr) := ⟨0, Nat.zero_le _, rfl, Below.refl _ _⟩
        have cl2 : Hid (∀ W, Below wr.heap.size wr W → W.cell? ⟨bl, cq, none⟩ = some (.int .i64 (g M cq : Nat))) := fun W hW => nis_at (own_later O1.out (d3.trans (hW.mono d3.size))) cq cq65
        have ci2 : Hid (∀ W, Below wr.heap.size wr W → ∀ q, q < i → W.cell? ⟨m1 + 1, q, none⟩ = some (.int .i64 ((if 0 < g M cq then 1 else 0 : Nat) : Int))) := fun W hW q hq => by
          have := nis_at (own_later D2.out hW) q hq
          rw [rowF_get _ _ _ hq, hF_end (spd_le HSP.out cq) (by rw [ES.out]; exact hq)] at this
          exact this
        have gle : g M cq ≤ 4096 := by have := spd_le HSP.out cq; rw [ES.out] at this; omega
        have OM : Hid (∀ W, Below wr.heap.size wr W → Calls Try.prog 13 #[.slice (some ⟨m1, 0, none⟩) 65 65, .slice (some ⟨bl, 0, none⟩) 65 cl] W fun e W' => e = .returned (.bool true) ∧ Below W.heap.size W W') := fun W hW => by
          have c := sameI_any (some ⟨m1, 0, none⟩) (some ⟨bl, 0, none⟩) 65 65 65 cl (M.map Int.ofNat) (M.map Int.ofNat) W (own_ri' (own_later (show wr.ownsRow 0 3 1 (.slice (some ⟨m1, 0, none⟩) 65 65) 65 (ivs (M.map Int.ofNat)) from D1.out) hW)) (own_ri' (own_later (show w2.ownsRow w.heap.size 3 1 (.slice (some ⟨bl, 0, none⟩) 65 cl) 65 (ivs (M.map Int.ofNat)) from O1.out) (D3.out.trans (hW.mono D3.out.size)))) (by omega) (by omega)
          rw [decide_eq_true rfl] at c; exact c
        clear d1 d2 d3 hcnt hall D1 D2 hlt
        generalize g M cq = gm at *
        go_wp2_with fail
        go_loopw [18] (fun iv w' => PlRel3 i wr iv w') (fun iv _ => i - (intOf iv).toNat)
        case atStart => exact ST3.out
        case round =>
          clear ST3
          obtain ⟨q, hq, rfl, d1⟩ := hrel
          by_cases hql : q < i
          · have cI := ci2.out wr d1 q hql
            have cL := cl2.out wr d1
            have q0 : (0 : Int) ≤ (q : Int) := by omega
            have qI : (q : Int) < (i : Int) := by omega
            have c0 : (0 : Int) ≤ (cq : Int) := by omega
            have c65 : (cq : Int) < 65 := by omega
            have D1 := Hid.intro d1
            clear d1
            by_cases hg : 0 < gm
            · rw [if_pos hg] at cI
              have g1 : decide ((gm : Int) > 0) = true := by simpa using hg
              have g2 : ((gm : Int) == 0) = false := by simp; omega
              go_wp2_with fail
              go_roundw
              case rel => exact ⟨q + 1, by omega, by go_num, D1.out⟩
              case measure => simp [intOf]; omega
            · obtain rfl : gm = 0 := by omega
              rw [if_neg hg] at cI
              go_wp2_with fail
              go_roundw
              case rel => exact ⟨q + 1, by omega, by go_num, D1.out⟩
              case measure => simp [intOf]; omega
          · obtain rfl : q = i := by omega
            have MO := OM.out wr d1
            have B7 : Hid (Below w.heap.size w wr) := B2.out.trans ((D3.out.trans (d1.mono D3.out.size)).mono B2.out.size)
            clear d1
            go_wp2_with fail
            with_reducible refine MO.mono ?_
            rintro e w8 ⟨rfl, b8⟩
            have B8 : Hid (Below w.heap.size w w8) := B7.out.trans (b8.mono B7.out.size)
            clear b8 MO
            go_wp2_with fail
            with_reducible refine (AW.out _).mono ?_
            rintro e w9 ⟨rfl, b9⟩
            have B9 : Hid (Below w.heap.size w w9) := B8.out.trans (b9.mono B8.out.size)
            clear b9
            go_wp2_with fail
            go_ret
            exact ⟨rfl, B9.out⟩
end Go.Proofs.Yteceiinehcjdjaa
