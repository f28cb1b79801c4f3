/-
  All steps of a reader by states, and its end; the program's Get of parts by states.
-/
import Derived.Test.YtofclflcicjlaaaGreatGfq
import Derived.Test.YtofclflcicjlaaaGreatTt
import Derived.WalkKit
import Derived.ProofKit
import Derived.OpenShut
import Derived.Deep.QuietTactic
import Derived.Deep.RegionWith
import Derived.Deep.RegionHeld3
import Derived.OwnWalk
import Derived.ChangeOld
import Derived.Below
import Derived.BigQuiet
namespace Go.Proofs.YtofclflcicjlaaaGreat
open Go.ChangeShapes Go.WideShapes Go.ChangeAt Go.RowKit
open Go.ChangeMaps (open_string shut_string)
set_option maxRecDepth 100000
set_option linter.unusedVariables false
set_option maxHeartbeats 2000000 in
theorem ended_any (W0 W : World) (A T R : Nat) (cv : Value) (st : Nat) (t q : ByteArray) (a r : Nat) (pv : Value) (acc : List (Int × Int)) (h : Rs W0 W A T R cv st t q a r pv acc) (hq : q.size ≤ 20000) (hr : r ≤ 8 * q.size) :
    Calls Tryz.prog 32 #[.pointer (some ⟨A, 0, none⟩)] W fun e W' => e = .returned (.bool (decide (st = 0 ∧ a = 0 ∧ 8 * q.size - r < 8 ∧ got (le q.data.toList) r (8 * q.size - r) = 0))) ∧ Chg (fun _ => False) W W' := by
  obtain ⟨hA, hT, hR, -⟩ := h
  have a1 : W.cell? ⟨A, 1, none⟩ = some (.int .i64 (st : Int)) := by rw [blk_cell hA]; rfl
  have a2 : W.cell? ⟨A, 2, none⟩ = some (ptr T) := by rw [blk_cell hA]; rfl
  have a3 : W.cell? ⟨A, 3, none⟩ = some (ptr R) := by rw [blk_cell hA]; rfl
  unfold ptr at a2 a3
  have LF := left_anyb T t a W hT
  have RS := rest_any R q r W hR (by omega) hr
  unfold ptr at LF RS
  have E : Hid (rs q r = decide (8 * q.size - r < 8 ∧ got (le q.data.toList) r (8 * q.size - r) = 0)) := by
    show _ = _
    unfold rs
    rw [← Bool.decide_and]
    by_cases hx : 8 * q.size < r + 8
    · rw [decide_eq_decide]; constructor
      · rintro ⟨-, h2⟩; exact ⟨by omega, h2⟩
      · rintro ⟨-, h2⟩; exact ⟨hx, h2⟩
    · rw [decide_eq_decide]; constructor
      · rintro ⟨h1, -⟩; exact absurd h1 hx
      · rintro ⟨h1, -⟩; exact absurd h1 (by omega)
  generalize rs q r = bb at *
  clear hA hT hR
  by_cases h0 : st = 0
  · subst h0
    by_cases h1 : a = 0
    · subst h1
      go_enter Tryz.func32, Tryz.ntmps32
      go_wp2_with fail
      with_reducible refine LF.mono ?_
      rintro e w1 ⟨rfl, rfl⟩
      clear LF
      go_wp2_with fail
      with_reducible refine RS.mono ?_
      rintro e w1 ⟨rfl, hc⟩
      have HC := Hid.intro hc
      clear RS hc
      go_wp2_with fail
      go_returns
      refine ⟨?_, HC.out⟩
      rw [E.out]; simp
    · have h1' : ((a : Int) == 0) = false := by simp; omega
      clear RS
      go_enter Tryz.func32, Tryz.ntmps32
      go_wp2_with fail
      with_reducible refine LF.mono ?_
      rintro e w1 ⟨rfl, rfl⟩
      clear LF
      go_wp2_with fail
      go_returns
      refine ⟨?_, chg_refl _ _⟩
      rw [decide_eq_false (fun h => h1 h.2.1)]
      rfl
  · have h0' : ((st : Int) == 0) = false := by simp; omega
    clear RS LF
    go_enter Tryz.func32, Tryz.ntmps32
    go_wp2_with fail
    go_returns
    refine ⟨?_, chg_refl _ _⟩
    rw [decide_eq_false (fun h => h0 h.1)]
    rfl
def toIP (p : Nat × Nat) : Int × Int := ((p.1 : Int), (p.2 : Int))
def TgRel (W0 : World) (A T R : Nat) (cv : Value) (k : Nat) (L cs : List Nat) (t q : ByteArray) (n : Nat) (G : Option (List (Nat × Nat) × Nat × Nat × Nat)) (iv : Value) (wr : World) : Prop :=
  ∃ (i st a r : Nat) (pv : Value) (acc : List (Nat × Nat)), i ≤ n ∧ iv = .int .i64 i ∧ Rs W0 wr A T R cv st t q a r pv (acc.map toIP) ∧ acc.length = i ∧ st < 2 ^ k ∧ a ≤ 8 * t.size ∧ r ≤ 8 * q.size ∧
    gS k L cs (le t.data.toList) (le q.data.toList) (8 * q.size) (n - i) st a r acc = G
def TgPost (W0 : World) (A T R : Nat) (cv : Value) (t q : ByteArray) (n : Nat) (G : Option (List (Nat × Nat) × Nat × Nat × Nat)) (e : Ending) (W' : World) : Prop :=
  (G = none ∧ (∃ er : Nat, er ≠ 0 ∧ e = .returned (.int .i64 (er : Int))) ∧ Below W0.heap.size W0 W') ∨
  (∃ (st a r : Nat) (pv : Value) (acc : List (Nat × Nat)), G = some (acc, st, a, r) ∧ e = .returned (.int .i64 0) ∧ Rs W0 W' A T R cv st t q a r pv (acc.map toIP) ∧ acc.length = n ∧ r ≤ 8 * q.size)
set_option maxRecDepth 100000 in
set_option maxHeartbeats 4000000 in
theorem timesGet_any (W0 W : World) (A T R b s cap base k n : Nat) (L cs : List Nat) (st : Nat) (t q : ByteArray) (a : Nat) (h : Rs W0 W A T R (.slice (some ⟨b, 0, none⟩) s cap) st t q a 0 (.slice none 0 0) []) (hs : Spd k L cs) (he : 2 ^ k = s) (ho : W0.ownsRow base 77 3 (.slice (some ⟨b, 0, none⟩) s cap) s (cvs (tab k L cs s)))
    (hst : st < 2 ^ k) (ht : t.size ≤ 20000) (hq : q.size ≤ 20000) (ha : a ≤ 8 * t.size) (hn : n ≤ 4096) :
    Calls Tryz.prog 18 #[.int .i64 (n : Int), .func (.func 31) #[.pointer (some ⟨A, 0, none⟩)] #[]] W (TgPost W0 A T R (.slice (some ⟨b, 0, none⟩) s cap) t q n (gS k L cs (le t.data.toList) (le q.data.toList) (8 * q.size) n st a 0 [])) := by
  obtain ⟨G, hG⟩ : ∃ G, gS k L cs (le t.data.toList) (le q.data.toList) (8 * q.size) n st a 0 [] = G := ⟨_, rfl⟩
  rw [hG]
  have ST : Hid (TgRel W0 A T R (.slice (some ⟨b, 0, none⟩) s cap) k L cs t q n G (.int .i64 0) W) :=
    ⟨0, st, a, 0, .slice none 0 0, [], Nat.zero_le _, rfl, h, rfl, hst, ha, Nat.zero_le _, hG⟩
  have GF := fun wr st a r pv (acc : List (Nat × Nat)) c bb ee (hw : Rs W0 wr A T R (.slice (some ⟨b, 0, none⟩) s cap) st t q a r pv (acc.map toIP)) (h1 : st < 2 ^ k) (h2 : cel k L cs st = (c, bb, ee)) (h3 : a ≤ 8 * t.size) (h4 : r ≤ 8 * q.size) (h5 : acc.length ≤ 5000) =>
    goForth_any W0 wr A T R b s cap base k L cs st t q a r pv (acc.map toIP) c bb ee hw hs he ho (by rw [← he]; exact h1) h2 ht hq h3 h4 (by rw [List.length_map]; exact h5)
  have HGF : Aside _ := GF
  have HS := Hid.intro hs
  clear h hs ho hG GF hst ha
  go_enter Tryz.func18, Tryz.ntmps18
  go_wp2_with fail
  go_loopw [7] (fun iv wr => TgRel W0 A T R (.slice (some ⟨b, 0, none⟩) s cap) k L cs t q n G iv wr) (fun iv _ => 4097 - (intOf iv).toNat)
  case atStart => exact ST.out
  case round =>
    clear ST
    obtain ⟨i, st, a, r, pv, acc, hi, rfl, d1, d2, d3, d4, d5, d6⟩ := hrel
    by_cases hlt : i < n
    · obtain ⟨c, bb, ee, hcel, -, hc65, hbk, hee, -⟩ := cel_bd HS.out st d3
      have CALL := HGF.out wr st a r pv acc c bb ee d1 d3 hcel d4 d5 (by omega)
      obtain ⟨m, hm⟩ : ∃ m, n - i = m + 1 := ⟨n - i - 1, by omega⟩
      rw [hm] at d6
      have D6 := Hid.intro d6
      have HC := Hid.intro hcel
      clear d1 hcel d6
      go_wp2_with fail
      with_reducible refine CALL.mono ?_
      intro e w1 hpost
      rcases hpost with ⟨q1, ⟨er, her, rfl⟩, q3⟩ | ⟨q1, rfl, pv', q3⟩
      · have GN : Hid (G = none) := by show _ = _; rw [← D6.out]; exact gS_no HC.out q1
        have her' : ((er : Int) == 0) = false := by simp; omega
        have Q3 := Hid.intro q3
        clear CALL q1 q3
        go_wp2_with fail
        go_returns
        exact .inl ⟨GN.out, ⟨er, her, rfl⟩, Q3.out⟩
      · rw [not_or] at q1
        have GY := gS_yes (T := le t.data.toList) (R := le q.data.toList) (n := m) (acc := acc) HC.out (by omega : bb ≤ a) (by omega : c - 1 ≤ 8 * q.size - r)
        have D7 : Hid (gS k L cs (le t.data.toList) (le q.data.toList) (8 * q.size) (n - (i + 1)) (ee + got (le t.data.toList) (a - bb) bb) (a - bb) (r + (c - 1)) (acc ++ [(c, got (le q.data.toList) r (c - 1))]) = G) := by
          show _ = _
          rw [show n - (i + 1) = m by omega, ← GY]; exact D6.out
        have SL : Hid (ee + got (le t.data.toList) (a - bb) bb < 2 ^ k) := by
          have := got_lt (le t.data.toList) (a - bb) bb
          show _ < _; omega
        have Q3 : Hid (Rs W0 w1 A T R (.slice (some ⟨b, 0, none⟩) s cap) (ee + got (le t.data.toList) (a - bb) bb) t q (a - bb) (r + (c - 1)) pv' ((acc ++ [(c, got (le q.data.toList) r (c - 1))]).map toIP)) := by
          rw [List.map_append]; exact q3
        have Q1 := Hid.intro q1
        clear CALL q1 q3 GY
        go_wp2_with fail
        go_roundw
        case rel => exact ⟨i + 1, _, _, _, pv', _, by omega, by go_num, Q3.out, by simp [d2], SL.out, by omega, by have := Q1.out; omega, D7.out⟩
        case measure => simp [intOf]; omega
    · obtain rfl : i = n := by omega
      rw [Nat.sub_self] at d6
      have GG : Hid (G = some (acc, st, a, r)) := by show _ = _; rw [← d6]; rfl
      have D1 := Hid.intro d1
      clear d1 d6
      go_wp2_with fail
      go_returns
      exact .inr ⟨st, a, r, pv, acc, GG.out, rfl, D1.out, d2, d5⟩
set_option linter.unusedVariables false
/-- The document's Get of parts by states: the error, the parts. -/
def getS (f : List Int) (z : Int) (l : List UInt8) (n : Int) : Nat × List (Nat × Nat) :=
  if may z f then (if n < 0 ∨ 4096 < n then (1, []) else getB z.toNat (f.map Int.toNat) (spr z.toNat (f.map Int.toNat)) l n.toNat) else (3, [])
def SgPost (G : Nat × List (Nat × Nat)) (w : World) (e : Ending) (w' : World) : Prop :=
  ∃ v, e = .returned (.tuple #[v, .int .i64 (G.1 : Nat)]) ∧ w'.ownsRow w.heap.size 74 2 v G.2.length (pvs (G.2.map toIP)) ∧ Below w.heap.size w w'
theorem sg_none {G : Nat × List (Nat × Nat)} {w w' : World} {er : Nat} (h : G = (er, [])) (b : Below w.heap.size w w') : SgPost G w (.returned (.tuple #[.slice none 0 0, .int .i64 (er : Int)])) w' := by
  subst h; exact ⟨_, rfl, World.ownsRow_nil _ _ _ _, b⟩
set_option maxRecDepth 100000 in
set_option maxHeartbeats 8000000 in
theorem sget_any (s : ByteArray) (n : Int) (a : Option Addr) (n0 cap : Nat) (f : List Int) (z : Int) (w : World) (hs : s.size ≤ 20000) (h : RI w a n0 f) (hn0 : n0 ≤ 1000) :
    Calls Tryz.prog 8 #[.string s, .int .i64 n, .slice a n0 cap, .int .i64 z] w (SgPost (getS f z s.data.toList n) w) := by
  have RT := table_any a n0 cap f z w h hn0
  by_cases hm : may z f = true
  · obtain ⟨k, L, rfl, rfl, e3, e4, sp⟩ := may_spd hm
    rw [tabA_yes hm, e3, e4] at RT
    obtain ⟨sz, hs2, hs8, es, -, -, -, sl, su, -, -⟩ := stp_eq k sp.k7 sp.k12
    have GG : getS (L.map Int.ofNat) k s.data.toList n = if n < 0 ∨ 4096 < n then (1, []) else getB k L (spr k L) s.data.toList n.toNat := by unfold getS; rw [if_pos hm, e3, e4]
    have HSP := Hid.intro sp
    have K12 := sp.k12
    generalize getS (L.map Int.ofNat) k s.data.toList n = gg at *
    obtain ⟨cs, hcs⟩ : ∃ cs, spr k L = cs := ⟨_, rfl⟩
    rw [hcs] at HSP RT GG
    clear h hm e3 e4 sp hcs
    by_cases hr : n < 0 ∨ 4096 < n
    · rw [if_pos hr] at GG
      have HG := Hid.intro GG
      clear GG
      by_cases h0 : n < 0
      · go_enter Tryz.func8, Tryz.ntmps8
        go_wp2_with fail
        with_reducible refine RT.mono ?_
        rintro e w2 ⟨v, rfl, k1, k2⟩
        have K2 := Hid.intro k2
        clear RT k1 k2
        go_wp2_with fail
        go_ret2
        exact sg_none HG.out K2.out
      · have h1 : 4096 < n := by omega
        go_enter Tryz.func8, Tryz.ntmps8
        go_wp2_with fail
        with_reducible refine RT.mono ?_
        rintro e w2 ⟨v, rfl, k1, k2⟩
        have K2 := Hid.intro k2
        clear RT k1 k2
        go_wp2_with fail
        go_ret2
        exact sg_none HG.out K2.out
    · rw [if_neg hr] at GG
      obtain ⟨m, rfl⟩ : ∃ m : Nat, n = (m : Int) := ⟨n.toNat, by omega⟩
      have hm4 : m ≤ 4096 := by omega
      rw [Int.toNat_natCast] at GG
      have h0 : ¬ ((m : Int) < 0) := by omega
      have h1 : ¬ (4096 < (m : Int)) := by omega
      clear hr
      go_enter Tryz.func8, Tryz.ntmps8
      go_wp2_with fail
      with_reducible refine RT.mono ?_
      rintro e w2 ⟨v, rfl, k1, k2⟩
      simp only at k1
      rw [tab_len, es] at k1
      obtain ⟨b, cp, rfl⟩ := own_slice k1 (by omega)
      have RO := readerOf_any s (some ⟨b, 0, none⟩) sz cp k w2 hs K12
      have K1 := Hid.intro k1
      have K2 := Hid.intro k2
      clear RT k1 k2
      go_wp2_with fail
      with_reducible refine RO.mono ?_
      rintro e w3 ⟨b3, hro⟩
      clear RO
      have B3 := Hid.intro (K2.out.trans (b3.mono K2.out.size))
      clear b3
      rcases hro with ⟨er, her, rfl, hgb⟩ | ⟨A, T, R, st, a', t, q, rfl, rs, ht, hq, ha, hst, hgb⟩
      · have HG : Hid (gg = (3, [])) := by show _ = _; rw [GG, hgb]
        have her' : ((er : Int) == 0) = false := by simp; omega
        clear GG hgb
        go_wp2_with fail
        go_ret2
        exact sg_none HG.out B3.out
      · have TG := timesGet_any w2 w3 A T R b sz cp _ k m L cs st t q a' rs HSP.out es K1.out hst ht hq ha hm4
        rw [hgb] at GG
        have HG := Hid.intro GG
        unfold ptr
        clear GG hgb rs hst ha
        go_wp2_with fail
        with_reducible refine TG.mono ?_
        intro e w4 hp
        clear TG
        rcases hp with ⟨g1, ⟨er, her, rfl⟩, g3⟩ | ⟨st, a', r, pv, acc, g1, rfl, g3, g4, g5⟩
        · have HG' : Hid (gg = (3, [])) := by show _ = _; rw [HG.out, g1]; rfl
          have her' : ((er : Int) == 0) = false := by simp; omega
          have FN := Hid.intro (K2.out.trans (g3.mono K2.out.size))
          clear g1 g3
          go_wp2_with fail
          go_ret2
          exact sg_none HG'.out FN.out
        · have EN := ended_any w2 w4 A T R _ st t q a' r pv _ g3 hq g5
          have G3 := Hid.intro g3
          have HG' : Hid (gg = if st = 0 ∧ a' = 0 ∧ 8 * q.size - r < 8 ∧ got (le q.data.toList) r (8 * q.size - r) = 0 then (0, acc) else (3, [])) := by show _ = _; rw [HG.out, g1]; rfl
          clear g1 g3
          by_cases hend : st = 0 ∧ a' = 0 ∧ 8 * q.size - r < 8 ∧ got (le q.data.toList) r (8 * q.size - r) = 0
          · rw [decide_eq_true hend] at EN
            have HE := Hid.intro hend
            clear hend
            go_wp2_with fail
            with_reducible refine EN.mono ?_
            rintro e w5 ⟨rfl, hc⟩
            clear EN
            have bA := blk_kept G3.out.1 hc (fun h => h)
            have oP := own_kept G3.out.2.2.2.1 hc (fun _ _ h => h)
            have bB := G3.out.2.2.2.2.2.2.2.trans ((chg_below hc (Nat.le_refl _) (fun _ h => h.elim)).mono G3.out.2.2.2.2.2.2.2.size)
            have a4 : w5.cell? ⟨A, 4, none⟩ = some pv := by rw [blk_cell bA]; rfl
            have OP := Hid.intro oP
            have BB := Hid.intro bB
            clear bA oP bB hc
            go_wp2_with fail
            go_ret2
            refine ⟨pv, ?_, ?_, K2.out.trans (BB.out.mono K2.out.size)⟩
            · rw [HG'.out, if_pos HE.out]; rfl
            · rw [HG'.out, if_pos HE.out]
              have := OP.out
              rw [List.length_map] at this
              exact own_up this (fun j hj => Nat.le_trans K2.out.size (G3.out.2.2.2.2.1.2.2.2 j hj))
          · rw [decide_eq_false hend] at EN
            have HE := Hid.intro hend
            clear hend
            go_wp2_with fail
            with_reducible refine EN.mono ?_
            rintro e w5 ⟨rfl, hc⟩
            clear EN
            have bB := G3.out.2.2.2.2.2.2.2.trans ((chg_below hc (Nat.le_refl _) (fun _ h => h.elim)).mono G3.out.2.2.2.2.2.2.2.size)
            have FN := Hid.intro (K2.out.trans (bB.mono K2.out.size))
            clear hc bB
            go_wp2_with fail
            go_ret2
            exact sg_none (by rw [HG'.out, if_neg HE.out]) FN.out
  · have hm' : may z f = false := by simpa using hm
    have GN : Hid (getS f z s.data.toList n = (3, [])) := by show _ = _; unfold getS; rw [if_neg hm]
    rw [tabA_no hm'] at RT
    clear h hm
    go_enter Tryz.func8, Tryz.ntmps8
    go_wp2_with fail
    with_reducible refine RT.mono ?_
    rintro e w2 ⟨v, rfl, k1, k2⟩
    have K2 := Hid.intro k2
    clear k1 k2 RT
    go_wp2_with fail
    go_ret2
    exact sg_none GN.out K2.out
end Go.Proofs.YtofclflcicjlaaaGreat
