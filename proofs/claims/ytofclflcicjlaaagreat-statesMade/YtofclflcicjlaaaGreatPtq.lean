/-
  All steps of a writer by states, the last part first; the program's Put of parts by states.
-/
import Derived.Test.YtofclflcicjlaaaGreatGb
import Derived.Test.YtofclflcicjlaaaGreatRw
import Derived.Test.YtofclflcicjlaaaGreatTt
import Derived.Test.YtofclflcicjlaaaGreatRefSb
import Derived.WalkKit
import Derived.ProofKit
import Derived.OpenShut
import Derived.Deep.QuietTactic
import Derived.Deep.RegionWith
import Derived.Deep.RegionHeld3
import Derived.OwnWalk
import Derived.ChangeOld
import Derived.Below
import Derived.BigQuiet
namespace Go.Proofs.YtofclflcicjlaaaGreat
open Go.ChangeShapes Go.WideShapes Go.ChangeAt Go.RowKit
open Go.ChangeMaps (open_string shut_string)
set_option maxRecDepth 100000
set_option linter.unusedVariables false
theorem rp_below {W W' : World} {a : Option Addr} {n : Nat} {ps : List (Int × Int)} (h : RP W a n ps) (g : Below W.heap.size W W') : RP W' a n ps :=
  ⟨h.1, fun hn => by
    obtain ⟨x, e, hx⟩ := h.2 hn
    exact ⟨x, e, fun i hi => ⟨(g.cell (World.block_lt_of_cell? _ _ (hx i hi).1)).trans (hx i hi).1, (g.cell (World.block_lt_of_cell? _ _ (hx i hi).2)).trans (hx i hi).2⟩⟩⟩
/-- What was put when so many parts are left. -/
def stP (k : Nat) (L cs : List Nat) (ps : List (Int × Int)) (j : Nat) : Nat := sts k L cs (((ps.map toNP).drop j).map Prod.fst)
def vlP (k : Nat) (L cs : List Nat) (ps : List (Int × Int)) (j : Nat) : List (Nat × Nat) := vls k L cs (((ps.map toNP).drop j).map Prod.fst)
theorem drop_cons {ps : List (Int × Int)} {j : Nat} {p : Int × Int} (h : ps[j]? = some p) : ((ps.map toNP).drop j).map Prod.fst = p.1.toNat :: ((ps.map toNP).drop (j + 1)).map Prod.fst := by
  obtain ⟨hj, rfl⟩ := List.getElem?_eq_some_iff.1 h
  rw [List.drop_eq_getElem_cons (by rw [List.length_map]; exact hj), List.map_cons, List.getElem_map]; rfl
theorem ok_pos {L : List Nat} {ps : List (Int × Int)} (hf : ∀ p ∈ ps, 0 ≤ p.2 ∧ p.2 ≤ 18446744073709551615) {j : Nat} (h : ∀ p ∈ ps.drop j, okPS L p = true) : ∀ c ∈ ((ps.map toNP).drop j).map Prod.fst, 0 < g L c := by
  intro c hc
  rw [← List.map_drop, List.map_map] at hc
  obtain ⟨⟨c', r'⟩, hp, rfl⟩ := List.mem_map.1 hc
  obtain ⟨q, r, e1, -, -, h3, -⟩ := okPS_is (hf _ (List.mem_of_mem_drop hp)).1 (h _ hp)
  subst e1
  exact h3
def TmRel (W0 : World) (A : Nat) (al : Option Addr) (capl Bs k : Nat) (L cs : List Nat) (ps : List (Int × Int)) (iv : Value) (wr : World) : Prop :=
  ∃ i j : Nat, i + j = ps.length ∧ iv = .int .i64 i ∧ Ws W0 wr A al capl Bs j (stP k L cs ps j) (vlP k L cs ps j) ∧ ∀ p ∈ ps.drop j, okPS L p = true
def TmPost (W0 : World) (A : Nat) (al : Option Addr) (capl Bs k : Nat) (L cs : List Nat) (ps : List (Int × Int)) (e : Ending) (W' : World) : Prop :=
  (ps.all (okPS L) = false ∧ e = .returned (.int .i64 1) ∧ Below W0.heap.size W0 W') ∨
  (ps.all (okPS L) = true ∧ e = .returned (.int .i64 0) ∧ Ws W0 W' A al capl Bs 0 (stP k L cs ps 0) (vlP k L cs ps 0))
set_option maxRecDepth 100000 in
set_option maxHeartbeats 4000000 in
theorem timesPut_any (W0 W : World) (A : Nat) (al : Option Addr) (capl Bs k : Nat) (L cs : List Nat) (ps : List (Int × Int)) (hy : Sy W0 al Bs k L cs ps) (h : Ws W0 W A al capl Bs ps.length 0 []) (hcap : ps.length ≤ capl) :
    Calls Tryz.prog 18 #[.int .i64 (ps.length : Int), .func (.func 19) #[.pointer (some ⟨A, 0, none⟩)] #[]] W (TmPost W0 A al capl Bs k L cs ps) := by
  have ST : Hid (TmRel W0 A al capl Bs k L cs ps (.int .i64 0) W) := by
    refine ⟨0, ps.length, by omega, rfl, ?_, fun p hp => ?_⟩
    · unfold stP vlP
      rw [List.drop_of_length_le (by rw [List.length_map]; exact Nat.le_refl _)]
      exact h
    · rw [List.drop_of_length_le (Nat.le_refl _)] at hp; cases hp
  have GB := fun wr j p (hw : Ws W0 wr A al capl Bs (j + 1) (stP k L cs ps (j + 1)) (vlP k L cs ps (j + 1))) (hp : ps[j]? = some p) (hok : ∀ p ∈ ps.drop (j + 1), okPS L p = true) =>
    goBack_any W0 wr A al capl Bs k L cs ps j _ _ p hy hw hp (sts_lt hy.2.2.1 _ (ok_pos hy.2.2.2.1 hok)) (by unfold vlP; rw [vls_len, List.length_map, List.length_drop, List.length_map]; have := hy.2.2.2.2; omega) (by have := (List.getElem?_eq_some_iff.1 hp).1; omega)
  have HGB : Aside _ := GB
  have hn := hy.2.2.2.2
  clear h hy GB hcap
  obtain ⟨n, hnn⟩ : ∃ n, ps.length = n := ⟨_, rfl⟩
  have HNN := Hid.intro hnn
  rw [hnn] at hn ⊢
  clear hnn
  go_enter Tryz.func18, Tryz.ntmps18
  go_wp2_with fail
  go_loopw [7] (fun iv wr => TmRel W0 A al capl Bs k L cs ps iv wr) (fun iv _ => 1001 - (intOf iv).toNat)
  case atStart => exact ST.out
  case round =>
    clear ST
    obtain ⟨i, j, hij, rfl, d1, d2⟩ := hrel
    rw [HNN.out] at hij
    by_cases hlt : i < n
    · obtain ⟨j', rfl⟩ : ∃ j', j = j' + 1 := ⟨j - 1, by omega⟩
      obtain ⟨p, hp⟩ : ∃ p, ps[j']? = some p := ⟨_, List.getElem?_eq_getElem (by rw [HNN.out]; omega)⟩
      have CALL := HGB.out wr j' p d1 hp d2
      have DC := Hid.intro (drop_cons hp)
      have HP := Hid.intro hp
      have D2 := Hid.intro d2
      clear d1 d2 hp
      go_wp2_with fail
      with_reducible refine CALL.mono ?_
      intro e w1 hpost
      rcases hpost with ⟨q1, rfl, q3⟩ | ⟨q1, rfl, q3⟩
      · have AF : Hid (ps.all (okPS L) = false) := by
          show _ = _
          rw [List.all_eq_false]
          exact ⟨p, List.mem_of_getElem? HP.out, by rw [q1]; decide⟩
        have Q3 := Hid.intro q3
        clear CALL q1 q3
        go_wp2_with fail
        go_returns
        exact .inl ⟨AF.out, rfl, Q3.out⟩
      · have Q1 := Hid.intro q1
        have Q3 := Hid.intro q3
        clear CALL q1 q3
        go_wp2_with fail
        go_roundw
        case rel =>
          refine ⟨i + 1, j', by rw [HNN.out]; omega, by go_num, ?_, fun r hr => ?_⟩
          · unfold stP vlP
            rw [DC.out]
            exact Q3.out
          · rw [List.drop_eq_getElem_cons (by rw [HNN.out]; omega)] at hr
            rcases List.mem_cons.1 hr with e | e
            · have := HP.out
              rw [List.getElem?_eq_getElem (by rw [HNN.out]; omega)] at this
              rw [e, Option.some.inj this]; exact Q1.out
            · exact D2.out r e
        case measure => simp [intOf]; omega
    · obtain rfl : j = 0 := by omega
      have AL : Hid (ps.all (okPS L) = true) := by
        show _ = _
        rw [List.all_eq_true]
        intro p hp
        exact d2 p (by rw [List.drop_zero]; exact hp)
      have D1 := Hid.intro d1
      clear d1 d2
      go_wp2_with fail
      go_returns
      exact .inr ⟨AL.out, rfl, D1.out⟩
set_option linter.unusedVariables false
set_option maxRecDepth 100000 in
set_option maxHeartbeats 8000000 in
theorem sput_any (al : Option Addr) (nl capl : Nat) (ps : List (Int × Int)) (a : Option Addr) (n0 cap : Nat) (f : List Int) (z : Int) (w : World) (hp : RP w al nl ps) (hf : ∀ p ∈ ps, 0 ≤ p.2 ∧ p.2 ≤ 18446744073709551615) (hnl : nl ≤ 900) (hcap : nl ≤ capl) (h : RI w a n0 f) (hn0 : n0 ≤ 1000) :
    Calls Tryz.prog 6 #[.slice al nl capl, .slice a n0 cap, .int .i64 z] w fun e w' => e = .returned (.tuple #[.string (bs (putS f z ps).2), .int .i64 ((putS f z ps).1 : Nat)]) ∧ Below w.heap.size w w' := by
  have RT := table_any a n0 cap f z w h hn0
  by_cases hm : may z f = true
  · obtain ⟨k, L, rfl, rfl, e3, e4, sp⟩ := may_spd hm
    have GN : Unit → ps.all (okPS L) = false → putS (L.map Int.ofNat) k ps = (1, []) := fun _ q => by unfold putS; rw [if_pos hm, e4, if_neg (by rw [q]; decide)]
    have GY : Unit → ps.all (okPS L) = true → putS (L.map Int.ofNat) k ps = (0, putB k L (spr k L) (ps.map toNP)) := fun _ q => by unfold putS; rw [if_pos hm, e3, e4, if_pos q]
    rw [tabA_yes hm, e3, e4] at RT
    obtain ⟨s, hs2, hs8, es, -, -, -, sl, su, -, -⟩ := stp_eq k sp.k7 sp.k12
    have HSP := Hid.intro sp
    have K12 := sp.k12
    generalize putS (L.map Int.ofNat) k ps = gg at *
    have HPP := Hid.intro hp
    have HN : ps.length = nl := hp.1
    have HF := Hid.intro hf
    obtain ⟨cs, hcs⟩ : ∃ cs, spr k L = cs := ⟨_, rfl⟩
    rw [hcs] at HSP RT GY
    clear h hm hp hf e3 e4 sp hcs
    go_enter Tryz.func6, Tryz.ntmps6
    go_wp2_with fail
    with_reducible refine RT.mono ?_
    rintro e w2 ⟨v, rfl, k1, k2⟩
    simp only at k1
    rw [tab_len, es] at k1
    obtain ⟨b, cp, rfl⟩ := own_slice k1 (by omega)
    have SRC := sourcesOf_any b cp _ s k L cs w2 HSP.out es k1
    have K2 := Hid.intro k2
    clear RT k1 k2
    go_wp2_with fail
    with_reducible refine SRC.mono ?_
    rintro e w3 ⟨Bs, rfl, so, h3⟩
    clear SRC
    have H3 := Hid.intro (K2.out.trans (h3.mono K2.out.size))
    have SO3 := Hid.intro so
    have RP3 := Hid.intro (rp_below HPP.out H3.out)
    clear h3 so K2
    go_wp2_with fail
    obtain ⟨A, hA⟩ : ∃ A, w3.heap.size = A := ⟨_, rfl⟩
    have n0' := blk_new w3 #[.slice al (nl : Nat) capl, .slice (some ⟨Bs, 0, none⟩) 65 65, .int .i64 0, .slice none 0 0, .slice none 0 0] 58
    have b0 : Below w3.heap.size w3 (w3.alloc (.cells #[.slice al (nl : Nat) capl, .slice (some ⟨Bs, 0, none⟩) 65 65, .int .i64 0, .slice none 0 0, .slice none 0 0] 58)) := (Below.refl _ _).alloc (Nat.le_refl _) _
    rw [hA] at n0' ⊢
    have WS : Ws w3 (w3.alloc (.cells #[.slice al (nl : Nat) capl, .slice (some ⟨Bs, 0, none⟩) 65 65, .int .i64 0, .slice none 0 0, .slice none 0 0] 58)) A al capl Bs nl 0 [] :=
      ⟨⟨.slice none 0 0, .slice none 0 0, by omega, n0', vl_nil _ _, fun q hq => by simp [Value.ownBlock] at hq, fun q hq => by simp [Value.ownBlock] at hq⟩, b0⟩
    have SY : Sy w3 al Bs k L cs ps := ⟨SO3.out, by rw [HN]; exact RP3.out, HSP.out, HF.out, by omega⟩
    generalize w3.alloc (.cells #[.slice al (nl : Nat) capl, .slice (some ⟨Bs, 0, none⟩) 65 65, .int .i64 0, .slice none 0 0, .slice none 0 0] 58) = w4 at *
    have TM := timesPut_any w3 w4 A al capl Bs k L cs ps SY (by rw [HN]; exact WS) (by omega)
    rw [HN] at TM
    clear n0' b0 WS hA
    go_wp2_with fail
    with_reducible refine TM.mono ?_
    intro e w5 hpost
    clear TM
    rcases hpost with ⟨q1, rfl, q3⟩ | ⟨q1, rfl, ⟨vv, kv, q2⟩, q3⟩
    · have GG := GN () q1
      have FN : Hid (Below w.heap.size w w5) := H3.out.trans (q3.mono H3.out.size)
      clear GN GY q1 q3
      subst GG
      go_wp2_with fail
      go_ret2
      exact ⟨rfl, FN.out⟩
    · have GG := GY () q1
      have ALL := Hid.intro q1
      have F1 : ∀ c ∈ (ps.map toNP).map Prod.fst, 0 < g L c := by
        have := ok_pos (L := L) (ps := ps) HF.out (j := 0) (fun p hp => List.all_eq_true.1 q1 p (by rw [List.drop_zero] at hp; exact hp))
        rw [List.drop_zero] at this; exact this
      clear GN GY q1
      subst GG
      obtain ⟨P, hP⟩ : ∃ P, ps.map toNP = P := ⟨_, rfl⟩
      have HPL : P.length = nl := by rw [← hP, List.length_map]; exact HN
      rw [hP] at F1
      have RTS := fun W (hW : Below w3.heap.size w3 W) => restsOf_any al nl capl L ps W (rp_below RP3.out hW) HF.out ALL.out hnl
      rw [hP] at RTS
      have HRTS : Aside _ := RTS
      unfold stP vlP at q2
      rw [List.drop_zero, hP] at q2
      have stl := sts_lt HSP.out _ F1
      have VLL : (vls k L cs (P.map Prod.fst)).length = nl := by rw [vls_len, List.length_map]; exact HPL
      have AV : allV k L cs (P.map Prod.fst) = vls k L cs (P.map Prod.fst) ++ [(sts k L cs (P.map Prod.fst), k)] := rfl
      have ABD := all_bdi HSP.out _ F1
      have TB : tailB k L cs P = byt (mk (vX (allV k L cs (P.map Prod.fst))) (vK (allV k L cs (P.map Prod.fst))) (nl + 1)) (szs (vK (allV k L cs (P.map Prod.fst))) (nl + 1) / 8 + 1) := by rw [← HPL]; rfl
      have p12 : 2 ^ k ≤ 4096 := pow_bd k K12
      have RLN : (restB P).length ≤ 7300 := by
        unfold restB
        rw [byt_len, HPL, ← hP]
        have := rest_small (L := L) HF.out nl (by omega) (by rw [List.take_of_length_le (by omega)]; exact ALL.out)
        unfold byc; omega
      generalize allV k L cs (P.map Prod.fst) = AVL at *
      generalize vls k L cs (P.map Prod.fst) = V at *
      generalize sts k L cs (P.map Prod.fst) = st at *
      have PUT := wput_any A w3.heap.size _ _ (st : Int) vv kv V st k w5 q2 (by omega) (by omega)
      have a2 : w5.cell? ⟨A, 2, none⟩ = some (.int .i64 (st : Int)) := by rw [blk_cell q2.2.1]; rfl
      have Q2 := Hid.intro q2
      have Q3 := Hid.intro q3
      have F1' := Hid.intro F1
      have HP := Hid.intro hP
      have RLN' := Hid.intro RLN
      have TB' := Hid.intro TB
      have AV' := Hid.intro AV
      have ABD' := Hid.intro ABD
      clear q2 q3 F1 RTS hP RLN TB AV ABD
      go_wp2_with fail
      with_reducible refine PUT.mono ?_
      rintro e w6 ⟨rfl, ⟨v8, l8, g1⟩, g2, -⟩
      clear PUT a2
      have J6 := Hid.intro (Q3.out.trans g2)
      obtain ⟨m0, mb, ⟨m1, m2, -, -, -⟩, -, -⟩ := g1
      have AVn : AVL.length = nl + 1 := by rw [AV'.out]; simp [VLL]
      rw [← AV'.out] at m1 m2
      rw [AVn] at m1 m2
      obtain ⟨x8, c8, rfl⟩ := own_slice m1 (by omega)
      obtain ⟨y8, c9, rfl⟩ := own_slice m2 (by omega)
      have us := us_own m1 AVn (fun i => by have := (ABD'.out i).1; omega)
      have ls := ls_own m2 AVn (fun i => by have := (ABD'.out i).2; omega)
      have SEAL := seal_core (some ⟨x8, 0, none⟩) (some ⟨y8, 0, none⟩) (nl + 1) c8 (nl + 1) c9 (nl + 1) (vX AVL) (fun i => (vK AVL i : Int)) w6 (by omega) (Nat.le_refl _) (Nat.le_refl _) (by omega) (by omega) (by omega) us ls (vK AVL) (fun i => (cl_nat _ (by have := (ABD'.out i).2; omega)).symm) (fun i => by have := (ABD'.out i).2; omega)
      have TLN : (tailB k L cs P).length ≤ 2000 := by
        rw [TB'.out, byt_len]
        have := szs_bd (k := vK AVL) (B := 12) (fun i => by have := (ABD'.out i).2; omega) (nl + 1)
        omega
      have TE : sealed (num (vX AVL) (vK AVL) (nl + 1)) (szs (vK AVL) (nl + 1)) = bs (tailB k L cs P) := by rw [TB'.out]; rfl
      rw [TE] at SEAL
      have a3 : w6.cell? ⟨A, 3, none⟩ = some (.slice (some ⟨x8, 0, none⟩) (nl + 1) c8) := by rw [blk_cell mb]; rfl
      have a4 : w6.cell? ⟨A, 4, none⟩ = some (.slice (some ⟨y8, 0, none⟩) (nl + 1) c9) := by rw [blk_cell mb]; rfl
      have PB : Hid (bs (putB k L cs P) = bs (vb (tailB k L cs P).length ++ (tailB k L cs P ++ restB P))) := by show _ = _; rfl
      obtain ⟨T, hT⟩ : ∃ T, tailB k L cs P = T := ⟨_, rfl⟩
      obtain ⟨R, hR⟩ : ∃ R, restB P = R := ⟨_, rfl⟩
      have HRT : Aside _ := HRTS.out
      rw [hT] at TLN PB SEAL
      rw [hR] at PB RLN' HRT
      clear m0 mb m1 m2 us ls TE hT hR g2 HRTS AVn
      go_wp2_with fail
      with_reducible refine SEAL.mono ?_
      rintro e w13 ⟨rfl, h13⟩
      clear SEAL a3 a4
      have zs : (bs T).size = T.length := size_bs T
      have tl : T.length ≤ 2000 := TLN
      have J7 := Hid.intro (J6.out.trans (h13.mono J6.out.size))
      have RV := put_anyv T.length (by omega) w13
      clear h13
      go_wp2_with fail
      with_reducible refine RV.mono ?_
      rintro e w14 ⟨rfl, h14⟩
      clear RV
      have J8 := Hid.intro (J7.out.trans (h14.mono J7.out.size))
      have a1 : bs (vb T.length) ++ bs T = bs (vb T.length ++ T) := bs_add _ _
      have a2 : bs (vb T.length ++ T) ++ bs R = bs (vb T.length ++ (T ++ R)) := by rw [bs_add, List.append_assoc]
      have z1 : (bs (vb T.length)).size ≤ 10 := by rw [size_bs]; exact (vb_len _).2
      have z2 : (bs (vb T.length ++ T)).size ≤ 2010 := by rw [size_bs, List.length_append]; have := (vb_len T.length).2; omega
      have z3 : (bs R).size ≤ 7300 := by rw [size_bs]; exact RLN'.out
      have RR := HRT.out w14 J8.out
      clear h14 HRT
      go_wp2_with fail
      with_reducible refine RR.mono ?_
      rintro e w15 ⟨rfl, h15⟩
      clear RR
      have FN : Hid (Below w.heap.size w w15) := H3.out.trans ((J8.out.trans (h15.mono J8.out.size)).mono H3.out.size)
      clear h15
      go_wp2_with fail
      go_ret2
      refine ⟨?_, FN.out⟩
      rw [HP.out, PB.out]
      rfl
  · have hm' : may z f = false := by simpa using hm
    have GN : putS f z ps = (3, []) := by unfold putS; rw [if_neg hm]
    rw [GN]
    rw [tabA_no hm'] at RT
    clear h hp hm
    go_enter Tryz.func6, Tryz.ntmps6
    go_wp2_with fail
    with_reducible refine RT.mono ?_
    rintro e w2 ⟨v, rfl, k1, k2⟩
    have K2 := Hid.intro k2
    clear k1 k2 RT
    go_wp2_with fail
    go_ret2
    exact ⟨rfl, K2.out⟩
end Go.Proofs.YtofclflcicjlaaaGreat
