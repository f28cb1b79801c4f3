/-
  The program's Get of parts by states.
-/
import Derived.Test.YtofclflcicjlaaaTeq
import Derived.Test.YtofclflcicjlaaaTt
import Derived.WalkKit
import Derived.ProofKit
import Derived.OpenShut
import Derived.Deep.QuietTactic
import Derived.Deep.RegionWith
import Derived.Deep.RegionHeld3
import Derived.OwnWalk
import Derived.ChangeOld
import Derived.Below
import Derived.BigQuiet
namespace Go.Proofs.Ytofclflcicjlaaa
open Go.ChangeShapes Go.WideShapes Go.ChangeAt Go.RowKit
open Go.ChangeMaps (open_string shut_string)
set_option linter.unusedVariables false
/-- The document's Get of parts by states: the error, the parts. -/
def getS (f : List Int) (z : Int) (l : List UInt8) (n : Int) : Nat × List (Nat × Nat) :=
  if may z f then (if n < 0 ∨ 4096 < n then (1, []) else getB z.toNat (f.map Int.toNat) (spr z.toNat (f.map Int.toNat)) l n.toNat) else (3, [])
def SgPost (G : Nat × List (Nat × Nat)) (w : World) (e : Ending) (w' : World) : Prop :=
  ∃ v, e = .returned (.tuple #[v, .int .i64 (G.1 : Nat)]) ∧ w'.ownsRow w.heap.size 32 2 v G.2.length (pvs (G.2.map toIP)) ∧ Below w.heap.size w w'
theorem sg_none {G : Nat × List (Nat × Nat)} {w w' : World} {er : Nat} (h : G = (er, [])) (b : Below w.heap.size w w') : SgPost G w (.returned (.tuple #[.slice none 0 0, .int .i64 (er : Int)])) w' := by
  subst h; exact ⟨_, rfl, World.ownsRow_nil _ _ _ _, b⟩
set_option maxRecDepth 100000 in
set_option maxHeartbeats 8000000 in
theorem sget_any (s : ByteArray) (n : Int) (a : Option Addr) (n0 cap : Nat) (f : List Int) (z : Int) (w : World) (hs : s.size ≤ 20000) (h : RI w a n0 f) (hn0 : n0 ≤ 1000) :
    Calls Try.prog 13 #[.string s, .int .i64 n, .slice a n0 cap, .int .i64 z] w (SgPost (getS f z s.data.toList n) w) := by
  have RT := table_any a n0 cap f z w h hn0
  by_cases hm : may z f = true
  · obtain ⟨k, L, rfl, rfl, e3, e4, sp⟩ := may_spd hm
    rw [tabA_yes hm, e3, e4] at RT
    obtain ⟨sz, hs2, hs8, es, -, -, -, sl, su, -, -⟩ := stp_eq k sp.k7 sp.k12
    have GG : getS (L.map Int.ofNat) k s.data.toList n = if n < 0 ∨ 4096 < n then (1, []) else getB k L (spr k L) s.data.toList n.toNat := by unfold getS; rw [if_pos hm, e3, e4]
    have HSP := Hid.intro sp
    have K12 := sp.k12
    generalize getS (L.map Int.ofNat) k s.data.toList n = gg at *
    obtain ⟨cs, hcs⟩ : ∃ cs, spr k L = cs := ⟨_, rfl⟩
    rw [hcs] at HSP RT GG
    clear h hm e3 e4 sp hcs
    by_cases hr : n < 0 ∨ 4096 < n
    · rw [if_pos hr] at GG
      have HG := Hid.intro GG
      clear GG
      by_cases h0 : n < 0
      · go_enter Try.func13, Try.ntmps13
        go_wp2_with fail
        with_reducible refine RT.mono ?_
        rintro e w2 ⟨v, rfl, k1, k2⟩
        have K2 := Hid.intro k2
        clear RT k1 k2
        go_wp2_with fail
        go_ret2
        exact sg_none HG.out K2.out
      · have h1 : 4096 < n := by omega
        go_enter Try.func13, Try.ntmps13
        go_wp2_with fail
        with_reducible refine RT.mono ?_
        rintro e w2 ⟨v, rfl, k1, k2⟩
        have K2 := Hid.intro k2
        clear RT k1 k2
        go_wp2_with fail
        go_ret2
        exact sg_none HG.out K2.out
    · rw [if_neg hr] at GG
      obtain ⟨m, rfl⟩ : ∃ m : Nat, n = (m : Int) := ⟨n.toNat, by omega⟩
      have hm4 : m ≤ 4096 := by omega
      rw [Int.toNat_natCast] at GG
      have h0 : ¬ ((m : Int) < 0) := by omega
      have h1 : ¬ (4096 < (m : Int)) := by omega
      clear hr
      go_enter Try.func13, Try.ntmps13
      go_wp2_with fail
      with_reducible refine RT.mono ?_
      rintro e w2 ⟨v, rfl, k1, k2⟩
      simp only at k1
      rw [tab_len, es] at k1
      obtain ⟨b, cp, rfl⟩ := own_slice k1 (by omega)
      have RO := readerOf_any s (some ⟨b, 0, none⟩) sz cp k w2 hs K12
      have K1 := Hid.intro k1
      have K2 := Hid.intro k2
      clear RT k1 k2
      go_wp2_with fail
      with_reducible refine RO.mono ?_
      rintro e w3 ⟨b3, hro⟩
      clear RO
      have B3 := Hid.intro (K2.out.trans (b3.mono K2.out.size))
      clear b3
      rcases hro with ⟨er, her, rfl, hgb⟩ | ⟨A, T, R, st, a', t, q, rfl, rs, ht, hq, ha, hst, hgb⟩
      · have HG : Hid (gg = (3, [])) := by show _ = _; rw [GG, hgb]
        have her' : ((er : Int) == 0) = false := by simp; omega
        clear GG hgb
        go_wp2_with fail
        go_ret2
        exact sg_none HG.out B3.out
      · have TG := timesGet_any w2 w3 A T R b sz cp _ k m L cs st t q a' rs HSP.out es K1.out hst ht hq ha hm4
        rw [hgb] at GG
        have HG := Hid.intro GG
        unfold ptr
        clear GG hgb rs hst ha
        go_wp2_with fail
        with_reducible refine TG.mono ?_
        intro e w4 hp
        clear TG
        rcases hp with ⟨g1, ⟨er, her, rfl⟩, g3⟩ | ⟨st, a', r, pv, acc, g1, rfl, g3, g4, g5⟩
        · have HG' : Hid (gg = (3, [])) := by show _ = _; rw [HG.out, g1]; rfl
          have her' : ((er : Int) == 0) = false := by simp; omega
          have FN := Hid.intro (K2.out.trans (g3.mono K2.out.size))
          clear g1 g3
          go_wp2_with fail
          go_ret2
          exact sg_none HG'.out FN.out
        · have EN := ended_any w2 w4 A T R _ st t q a' r pv _ g3 hq g5
          have G3 := Hid.intro g3
          have HG' : Hid (gg = if st = 0 ∧ a' = 0 ∧ 8 * q.size - r < 8 ∧ got (le q.data.toList) r (8 * q.size - r) = 0 then (0, acc) else (3, [])) := by show _ = _; rw [HG.out, g1]; rfl
          clear g1 g3
          by_cases hend : st = 0 ∧ a' = 0 ∧ 8 * q.size - r < 8 ∧ got (le q.data.toList) r (8 * q.size - r) = 0
          · rw [decide_eq_true hend] at EN
            have HE := Hid.intro hend
            clear hend
            go_wp2_with fail
            with_reducible refine EN.mono ?_
            rintro e w5 ⟨rfl, hc⟩
            clear EN
            have bA := blk_kept G3.out.1 hc (fun h => h)
            have oP := own_kept G3.out.2.2.2.1 hc (fun _ _ h => h)
            have bB := G3.out.2.2.2.2.2.2.2.trans ((chg_below hc (Nat.le_refl _) (fun _ h => h.elim)).mono G3.out.2.2.2.2.2.2.2.size)
            have a4 : w5.cell? ⟨A, 4, none⟩ = some pv := by rw [blk_cell bA]; rfl
            have OP := Hid.intro oP
            have BB := Hid.intro bB
            clear bA oP bB hc
            go_wp2_with fail
            go_ret2
            refine ⟨pv, ?_, ?_, K2.out.trans (BB.out.mono K2.out.size)⟩
            · rw [HG'.out, if_pos HE.out]; rfl
            · rw [HG'.out, if_pos HE.out]
              have := OP.out
              rw [List.length_map] at this
              exact own_up this (fun j hj => Nat.le_trans K2.out.size (G3.out.2.2.2.2.1.2.2.2 j hj))
          · rw [decide_eq_false hend] at EN
            have HE := Hid.intro hend
            clear hend
            go_wp2_with fail
            with_reducible refine EN.mono ?_
            rintro e w5 ⟨rfl, hc⟩
            clear EN
            have bB := G3.out.2.2.2.2.2.2.2.trans ((chg_below hc (Nat.le_refl _) (fun _ h => h.elim)).mono G3.out.2.2.2.2.2.2.2.size)
            have FN := Hid.intro (K2.out.trans (bB.mono K2.out.size))
            clear hc bB
            go_wp2_with fail
            go_ret2
            exact sg_none (by rw [HG'.out, if_neg HE.out]) FN.out
  · have hm' : may z f = false := by simpa using hm
    have GN : Hid (getS f z s.data.toList n = (3, [])) := by show _ = _; unfold getS; rw [if_neg hm]
    rw [tabA_no hm'] at RT
    clear h hm
    go_enter Try.func13, Try.ntmps13
    go_wp2_with fail
    with_reducible refine RT.mono ?_
    rintro e w2 ⟨v, rfl, k1, k2⟩
    have K2 := Hid.intro k2
    clear k1 k2 RT
    go_wp2_with fail
    go_ret2
    exact sg_none GN.out K2.out
end Go.Proofs.Ytofclflcicjlaaa
