/-
  One step forth of a reader by states: a part told, the state ahead of it.
-/
import Derived.Test.YtofclflcicjlaaaGreatRoq
import Derived.Test.YtofclflcicjlaaaGreatRw
import Derived.Test.YtofclflcicjlaaaGreatTt
import Derived.Test.YtofclflcicjlaaaGreatGb
import Derived.WalkKit
import Derived.ProofKit
import Derived.OpenShut
import Derived.Deep.QuietTactic
import Derived.Deep.RegionWith
import Derived.Deep.RegionHeld3
import Derived.OwnWalk
import Derived.ChangeOld
import Derived.Below
import Derived.BigQuiet
import Derived.Deep.RegionLaw
import Derived.ArgAppend
namespace Go.Proofs.YtofclflcicjlaaaGreat
set_option maxRecDepth 100000
open Go.ChangeShapes Go.WideShapes Go.ChangeAt Go.RowKit
open Go.ChangeMaps (open_string shut_string)
set_option linter.unusedVariables false
theorem pvs_snocq (l : List (Int × Int)) (p : Int × Int) : pvs l ++ [.int .i64 p.1, .int .u64 p.2] = pvs (l ++ [p]) := by unfold pvs; rw [List.flatMap_append]; simp [pv]
def GfPost (W0 : World) (A T R : Nat) (cv : Value) (c bb ee : Nat) (t q : ByteArray) (a r : Nat) (acc : List (Int × Int)) (e : Ending) (W' : World) : Prop :=
  ((a < bb ∨ 8 * q.size - r < c - 1) ∧ (∃ er : Nat, er ≠ 0 ∧ e = .returned (.int .i64 (er : Int))) ∧ Below W0.heap.size W0 W') ∨
  (¬ (a < bb ∨ 8 * q.size - r < c - 1) ∧ e = .returned (.int .i64 0) ∧ ∃ pv', Rs W0 W' A T R cv (ee + got (le t.data.toList) (a - bb) bb) t q (a - bb) (r + (c - 1)) pv' (acc ++ [((c : Int), ((got (le q.data.toList) r (c - 1) : Nat) : Int))]))
set_option maxRecDepth 100000 in
set_option maxHeartbeats 4000000 in
theorem goForth_any (W0 W : World) (A T R b s cap base k : Nat) (L cs : List Nat) (st : Nat) (t q : ByteArray) (a r : Nat) (pv : Value) (acc : List (Int × Int)) (c bb ee : Nat) (h : Rs W0 W A T R (.slice (some ⟨b, 0, none⟩) s cap) st t q a r pv acc) (hs : Spd k L cs) (he : 2 ^ k = s) (ho : W0.ownsRow base 77 3 (.slice (some ⟨b, 0, none⟩) s cap) s (cvs (tab k L cs s)))
    (hst : st < s) (hc : cel k L cs st = (c, bb, ee)) (ht : t.size ≤ 20000) (hq : q.size ≤ 20000) (ha : a ≤ 8 * t.size) (hr : r ≤ 8 * q.size) (hn : acc.length ≤ 5000) :
    Calls Tryz.prog 31 #[.pointer (some ⟨A, 0, none⟩)] W (GfPost W0 A T R (.slice (some ⟨b, 0, none⟩) s cap) c bb ee t q a r acc) := by
  obtain ⟨hA, hT, hR, hO, hB, hD, hP, hBW⟩ := h
  obtain ⟨c', bb', ee', hcel, -, hc65, hbk, hee, -⟩ := cel_bd hs st (by rw [he]; exact hst)
  obtain ⟨e1, e2⟩ := Prod.mk.inj (hc.symm.trans hcel)
  obtain ⟨e2, e3⟩ := Prod.mk.inj e2
  subst e1 e2 e3
  have oc := own_below ho hBW (fun j hj => (ho.lt j hj).2)
  obtain ⟨x0, x1, x2⟩ := cv_cells oc st hst
  rw [tab_get k L cs s st hst, hc] at x0 x1 x2
  simp only at x0 x1 x2
  have bl : b < W.heap.size := World.block_lt_of_cell? _ _ x0
  have a0 : W.cell? ⟨A, 0, none⟩ = some (.slice (some ⟨b, 0, none⟩) s cap) := by rw [blk_cell hA]; rfl
  have a1 : W.cell? ⟨A, 1, none⟩ = some (.int .i64 (st : Int)) := by rw [blk_cell hA]; rfl
  have MK : Aside (∀ w', Below W.heap.size W w' → ((w'.cell? ⟨A, 0, none⟩ = some (.slice (some ⟨b, 0, none⟩) s cap) ∧ w'.cell? ⟨A, 1, none⟩ = some (.int .i64 (st : Int))) ∧ (w'.cell? ⟨b, st * 3, none⟩ = some (.int .i64 (c : Int)) ∧ w'.cell? ⟨b, st * 3 + 1, none⟩ = some (.int .i64 (bb : Int)) ∧ w'.cell? ⟨b, st * 3 + 2, none⟩ = some (.int .i64 (ee : Int)))) ∧ Below W.heap.size W w') := fun w' hw' =>
    ⟨⟨⟨(hw'.cell (p := ⟨A, 0, none⟩) (blk_lt hA)).trans a0, (hw'.cell (p := ⟨A, 1, none⟩) (blk_lt hA)).trans a1⟩, (hw'.cell (p := ⟨b, st * 3, none⟩) bl).trans x0, (hw'.cell (p := ⟨b, st * 3 + 1, none⟩) bl).trans x1, (hw'.cell (p := ⟨b, st * 3 + 2, none⟩) bl).trans x2⟩, hw'⟩
  have bd : Below W.heap.size W W.drew := (Below.refl _ _).drew
  have hstz : (st : Int) < (s : Int) := by omega
  have hst0 : (0 : Int) ≤ (st : Int) := by omega
  have HA := Hid.intro hA
  have HT := Hid.intro hT
  have HR := Hid.intro hR
  have HO := Hid.intro hO
  have HB := Hid.intro hB
  have HD := Hid.intro hD
  have HP := Hid.intro hP
  have HBW := Hid.intro hBW
  have K12 := hs.k12
  have p12 : 2 ^ k ≤ 4096 := pow_bd k hs.k12
  clear hA hT hR hO hB hD hP hBW oc x0 x1 x2 a0 a1 hc hcel hs ho bl
  go_enter Tryz.func31, Tryz.ntmps31
  go_wp2_with fail
  go_region_held3 (fun w' => ((w'.cell? ⟨A, 0, none⟩ = some (.slice (some ⟨b, 0, none⟩) s cap) ∧ w'.cell? ⟨A, 1, none⟩ = some (.int .i64 (st : Int))) ∧ (w'.cell? ⟨b, st * 3, none⟩ = some (.int .i64 (c : Int)) ∧ w'.cell? ⟨b, st * 3 + 1, none⟩ = some (.int .i64 (bb : Int)) ∧ w'.cell? ⟨b, st * 3 + 2, none⟩ = some (.int .i64 (ee : Int)))) ∧ Below W.heap.size W w')
    (first | with_reducible exact MK.out _ bd | with_reducible exact MK.out _ (below_put bd _) | with_reducible exact MK.out _ (below_put (Below.refl _ _) _).drew | with_reducible exact MK.out _ (below_put (Below.refl _ _) _)) (fail)
  obtain ⟨P, hP⟩ : ∃ P, W.heap.size = P := ⟨_, rfl⟩
  have n1 := blk_drew (blk_new W #[.int .i64 (c : Int), .int .i64 (bb : Int), .int .i64 (ee : Int)] 77)
  have b1 : Below W.heap.size W (W.alloc (.cells #[.int .i64 (c : Int), .int .i64 (bb : Int), .int .i64 (ee : Int)] 77)).drew := (below_put (Below.refl _ _) _).drew
  rw [hP] at n1 ⊢
  generalize (W.alloc (.cells #[.int .i64 (c : Int), .int .i64 (bb : Int), .int .i64 (ee : Int)] 77)).drew = w1 at *
  have A1 : Hid (A ≠ P ∧ T ≠ P ∧ R ≠ P) := by
    have h1 := blk_lt HA.out
    have h2 := blk_lt HT.out
    have h3 := blk_lt HR.out
    exact ⟨by omega, by omega, by omega⟩
  have kA := blk_below HA.out b1 (blk_lt HA.out)
  have kT : Rdb w1 T t a := blk_below HT.out b1 (blk_lt HT.out)
  have kR : Rd w1 R q r := blk_below HR.out b1 (blk_lt HR.out)
  have kO := own_later HO.out b1
  have kB := HBW.out.trans (b1.mono HBW.out.size)
  have hPB : Hid (W0.heap.size ≤ P) := by show _ ≤ _; rw [← hP]; exact HBW.out.size
  have m2 : w1.drew.cell? ⟨A, 2, none⟩ = some (ptr T) := by rw [blk_cell (blk_drew kA)]; rfl
  have m1 : w1.drew.cell? ⟨P, 1, none⟩ = some (.int .i64 (bb : Int)) := by rw [blk_cell (blk_drew n1)]; rfl
  unfold ptr at m2
  have KA := Hid.intro kA
  have KR := Hid.intro kR
  have KO := Hid.intro kO
  have N1 := Hid.intro n1
  by_cases hab : a < bb
  · have e0 : geb a (bb : Int) = 2 := by unfold geb; rw [if_neg (by omega), if_pos (by omega)]
    have e1 : gkb a (bb : Int) = 0 := by unfold gkb; rw [e0]; rfl
    have GT := get_ownb (w := W0) (W := w1.drew) T t a (bb : Int) (blk_drew kT) HB.out.2.1 kB.drew (by omega) ha a 0 2 (by rw [e1]; rfl) (by rw [e1, got_zero]) e0
    unfold ptr at GT
    clear kA kT kR kO kB n1 b1 MK bd
    go_wp2_with fail
    go_region_held3 (fun w' => w'.cell? ⟨A, 2, none⟩ = some (.pointer (some ⟨T, 0, none⟩)) ∧ w'.cell? ⟨P, 1, none⟩ = some (.int .i64 (bb : Int))) (first | with_reducible exact ⟨m2, m1⟩ | with_reducible assumption)
      (first
        | (go_at_call 60; with_reducible refine GT.mono ?_; rintro e w2 ⟨rfl, g1, g2, g3⟩
           have kk : w2.cell? ⟨A, 2, none⟩ = some (.pointer (some ⟨T, 0, none⟩)) ∧ w2.cell? ⟨P, 1, none⟩ = some (.int .i64 (bb : Int)) := ⟨by rw [blk_cell (blk_kept (blk_drew KA.out) g3 HD.out.1)]; rfl, by rw [blk_cell (blk_kept (blk_drew N1.out) g3 (fun e => A1.out.2.1 e.symm))]; rfl⟩
           have G2 := Hid.intro g2
           clear g1 g2 g3))
    clear kk
    go_wp2_with fail
    go_returns
    exact .inl ⟨.inl hab, ⟨2, by decide, rfl⟩, G2.out⟩
  · obtain ⟨y, hy⟩ : ∃ y, got (le t.data.toList) (a - bb) bb = y := ⟨_, rfl⟩
    have yl : y < 2 ^ bb := by rw [← hy]; exact got_lt _ _ _
    have e0 : geb a (bb : Int) = 0 := by unfold geb; rw [if_neg (by omega), if_neg (by omega)]
    have e1 : gkb a (bb : Int) = bb := by unfold gkb; rw [if_pos e0]; simp
    have GT := get_ownb (w := W0) (W := w1.drew) T t a (bb : Int) (blk_drew kT) HB.out.2.1 kB.drew (by omega) ha (a - bb) y 0 (by rw [e1]) (by rw [e1]; exact hy) e0
    unfold ptr at GT
    have HY := Hid.intro hy
    clear kA kT kR kO kB n1 b1 MK bd hy
    go_wp2_with fail
    go_region_held3 (fun w' => w'.cell? ⟨A, 2, none⟩ = some (.pointer (some ⟨T, 0, none⟩)) ∧ w'.cell? ⟨P, 1, none⟩ = some (.int .i64 (bb : Int))) (first | with_reducible exact ⟨m2, m1⟩ | with_reducible assumption)
      (first
        | (go_at_call 60; with_reducible refine GT.mono ?_; rintro e w2 ⟨rfl, g1, g2, g3⟩
           have kk : w2.cell? ⟨A, 2, none⟩ = some (.pointer (some ⟨T, 0, none⟩)) ∧ w2.cell? ⟨P, 1, none⟩ = some (.int .i64 (bb : Int)) := ⟨by rw [blk_cell (blk_kept (blk_drew KA.out) g3 HD.out.1)]; rfl, by rw [blk_cell (blk_kept (blk_drew N1.out) g3 (fun e => A1.out.2.1 e.symm))]; rfl⟩
           have G1 := Hid.intro g1
           have G2 := Hid.intro g2
           have KA2 := Hid.intro (blk_kept (blk_drew KA.out) g3 HD.out.1)
           have KN2 := Hid.intro (blk_kept (blk_drew N1.out) g3 (fun e => A1.out.2.1 e.symm))
           have KR2 : Hid (Rd w2 R q r) := blk_kept (blk_drew KR.out) g3 (fun e => HD.out.2.2 e.symm)
           have KO2 := Hid.intro (own_kept (own_drew KO.out) g3 (fun j hj e => (HP.out j hj).2.1 e))
           clear g1 g2 g3))
    clear kk m1 m2
    have m3 : w2.drew.cell? ⟨A, 3, none⟩ = some (ptr R) := by rw [blk_cell (blk_drew KA2.out)]; rfl
    have m0 : w2.drew.cell? ⟨P, 0, none⟩ = some (.int .i64 (c : Int)) := by rw [blk_cell (blk_drew KN2.out)]; rfl
    unfold ptr at m3
    have FU := fun W => further_any c W (by omega)
    by_cases hrc : 8 * q.size - r < c - 1
    · have e2 : ge (8 * q.size) r ((c - 1 : Nat) : Int) = 2 := by unfold ge; rw [if_neg (by omega), if_pos (by omega)]
      have e3 : gk (8 * q.size) r ((c - 1 : Nat) : Int) = 0 := by unfold gk; rw [e2]; rfl
      have GR := get_own (w := W0) (W := w2.drew) R q r ((c - 1 : Nat) : Int) (blk_drew KR2.out) HB.out.2.2.1 G2.out.drew (by omega) hr r 0 2 (by rw [e3]; rfl) (by rw [e3, got_zero]) e2
      unfold ptr at GR
      go_wp2_with fail
      go_region_held3 (fun w' => w'.cell? ⟨A, 3, none⟩ = some (.pointer (some ⟨R, 0, none⟩)) ∧ w'.cell? ⟨P, 0, none⟩ = some (.int .i64 (c : Int))) (first | with_reducible exact ⟨m3, m0⟩ | with_reducible assumption)
        (first
          | (go_at_call 55; refine (FU _).mono ?_; rintro e w' ⟨rfl, rfl⟩)
          | (go_at_call 62; with_reducible refine GR.mono ?_; rintro e w3 ⟨rfl, g1, g2, g3⟩
             have kk : w3.cell? ⟨A, 3, none⟩ = some (.pointer (some ⟨R, 0, none⟩)) ∧ w3.cell? ⟨P, 0, none⟩ = some (.int .i64 (c : Int)) := ⟨by rw [blk_cell (blk_kept (blk_drew KA2.out) g3 HD.out.2.1)]; rfl, by rw [blk_cell (blk_kept (blk_drew KN2.out) g3 (fun e => A1.out.2.2 e.symm))]; rfl⟩
             have G3 := Hid.intro g2
             clear g1 g2 g3))
      clear kk
      go_wp2_with fail
      go_returns
      exact .inl ⟨.inr hrc, ⟨2, by decide, rfl⟩, G3.out⟩
    · obtain ⟨v, hv⟩ : ∃ v, got (le q.data.toList) r (c - 1) = v := ⟨_, rfl⟩
      have e2 : ge (8 * q.size) r ((c - 1 : Nat) : Int) = 0 := by unfold ge; rw [if_neg (by omega), if_neg (by omega)]
      have e3 : gk (8 * q.size) r ((c - 1 : Nat) : Int) = c - 1 := by unfold gk; rw [if_pos e2]; simp
      have GR := get_own (w := W0) (W := w2.drew) R q r ((c - 1 : Nat) : Int) (blk_drew KR2.out) HB.out.2.2.1 G2.out.drew (by omega) hr (r + (c - 1)) v 0 (by rw [e3]) (by rw [e3]; exact hv) e2
      unfold ptr at GR
      have HV := Hid.intro hv
      clear hv
      go_wp2_with fail
      go_region_held3 (fun w' => w'.cell? ⟨A, 3, none⟩ = some (.pointer (some ⟨R, 0, none⟩)) ∧ w'.cell? ⟨P, 0, none⟩ = some (.int .i64 (c : Int))) (first | with_reducible exact ⟨m3, m0⟩ | with_reducible assumption)
        (first
          | (go_at_call 55; refine (FU _).mono ?_; rintro e w' ⟨rfl, rfl⟩)
          | (go_at_call 62; with_reducible refine GR.mono ?_; rintro e w3 ⟨rfl, g1, g2, g3⟩
             have kk : w3.cell? ⟨A, 3, none⟩ = some (.pointer (some ⟨R, 0, none⟩)) ∧ w3.cell? ⟨P, 0, none⟩ = some (.int .i64 (c : Int)) := ⟨by rw [blk_cell (blk_kept (blk_drew KA2.out) g3 HD.out.2.1)]; rfl, by rw [blk_cell (blk_kept (blk_drew KN2.out) g3 (fun e => A1.out.2.2 e.symm))]; rfl⟩
             have KR3 : Hid (Rd w3 R q (r + (c - 1))) := g1
             have KB3 := Hid.intro g2
             have KA3 := Hid.intro (blk_kept (blk_drew KA2.out) g3 HD.out.2.1)
             have KN3 := Hid.intro (blk_kept (blk_drew KN2.out) g3 (fun e => A1.out.2.2 e.symm))
             have KT3 : Hid (Rdb w3 T t (a - bb)) := blk_kept (blk_drew G1.out) g3 HD.out.2.2
             have KO3 := Hid.intro (own_kept (own_drew KO2.out) g3 (fun j hj e => (HP.out j hj).2.2 e))
             clear g1 g2 g3))
      clear kk m3 m0 FU GR KA2 KN2 KR2 KO2 G1 G2 KA KR KO N1
      have i1 : IntKind.i64.wrap (y : Int) = (y : Int) := by rw [IntKind.wrap_i64]; omega
      obtain ⟨u, hu⟩ : ∃ u : Nat, (ee : Int) + (y : Int) = (u : Int) := ⟨ee + y, by omega⟩
      have hu2 : Hid (ee + y = u) := by show _ = _; omega
      have i2 : IntKind.i64.wrap (u : Int) = (u : Int) := by rw [IntKind.wrap_i64]; omega
      have n0 : w3.cell? ⟨P, 0, none⟩ = some (.int .i64 (c : Int)) := by rw [blk_cell KN3.out]; rfl
      have n2 : w3.cell? ⟨P, 2, none⟩ = some (.int .i64 (ee : Int)) := by rw [blk_cell KN3.out]; rfl
      have a1 : w3.cell? ⟨A, 1, none⟩ = some (.int .i64 (st : Int)) := by rw [blk_cell KA3.out]; rfl
      have f1 := blk_free KA3.out 1
      go_wp2_with fail
      have z := chg_set (S := (· = A)) (chg_refl _ w3) ⟨A, 1, none⟩ (.int .i64 (u : Int)) (fun _ => rfl)
      have lA : Blk (w3.setCell ⟨A, 1, none⟩ (.int .i64 (u : Int))) A #[.slice (some ⟨b, 0, none⟩) s cap, .int .i64 (u : Int), ptr T, ptr R, pv] 85 := by simpa using blk_set KA3.out 1 (.int .i64 (u : Int))
      have lP := blk_kept KN3.out z (fun e => A1.out.1 e.symm)
      have lT : Rdb (w3.setCell ⟨A, 1, none⟩ (.int .i64 (u : Int))) T t (a - bb) := blk_kept KT3.out z (fun e => HD.out.1 e.symm)
      have lR : Rd (w3.setCell ⟨A, 1, none⟩ (.int .i64 (u : Int))) R q (r + (c - 1)) := blk_kept KR3.out z (fun e => HD.out.2.1 e.symm)
      have lO := own_kept KO3.out z (fun j hj e => (HP.out j hj).1 e)
      have lB := below_one KB3.out z HB.out.1
      generalize w3.setCell ⟨A, 1, none⟩ (.int .i64 (u : Int)) = w4 at *
      clear z n0 n2 a1 f1 KA3 KN3 KT3 KR3 KO3 KB3
      have a4 : w4.cell? ⟨A, 4, none⟩ = some pv := by rw [blk_cell lA]; rfl
      have a5 : ∀ o, (w4.alloc o).cell? ⟨A, 4, none⟩ = some pv := fun o => by rw [blk_cell (blk_alloc lA o)]; rfl
      have p0 : w4.cell? ⟨P, 0, none⟩ = some (.int .i64 (c : Int)) := by rw [blk_cell lP]; rfl
      have LA := Hid.intro lA
      have LT := Hid.intro lT
      have LR := Hid.intro lR
      have LO := Hid.intro lO
      have LB := Hid.intro lB
      obtain ⟨i32, hi, hz, hs, hb⟩ := info_all info74
      clear lA lP lT lR lO lB
      go_region_law (refine step_pushT rfl (.tmp 56) (.tmp 61) 22 rfl 74 i32 (.agg #[.int .i64 0, .int .u64 0]) 2 16 Tryz.underlying22 hi hz hs hb rfl (by decide) (by decide) pv acc.length (pvs acc) rfl (World.ownsRow.alloc (own_drew LO.out) _) ⟨w4.heap.size, 0, none⟩ 1 1 [.int .i64 (c : Int), .int .u64 (v : Int)] rfl rfl (two_new _ _ _ _) (by intro u hu; simp at hu; rcases hu with rfl | rfl <;> rfl) (by omega) ?_; intro v2 w5 g1 g2 g3; have g7 := blk_grown (blk_alloc (blk_drew LA.out) _) g2 (fun e => (HP.out A e.symm).1 rfl); have g8 := blk_free g7 4; have g9 := blk_cell g7 4; have G1 := Hid.intro g1; have G2 := Hid.intro g2; have G3 := Hid.intro g3; have G7 := Hid.intro g7; obtain ⟨vb, vc, rfl⟩ := own_slice g1 (Nat.succ_pos _); clear g1 g2 g3 g7)
      all_goals
        have K1 : Below W0.heap.size W0 (w4.alloc (.cells #[.int .i64 (c : Int), .int .u64 (v : Int)] 74)).drew := (LB.out.alloc LB.out.size _).drew
        have hs4 : W0.heap.size ≤ (w4.alloc (.cells #[.int .i64 (c : Int), .int .u64 (v : Int)] 74)).drew.heap.size := K1.size
        have K2 := below_grown K1 G2.out hs4 (fun j hj => HB.out.2.2.2 j hj)
        have hA4 : A < w4.heap.size := blk_lt LA.out
        have hT4 : T < w4.heap.size := blk_lt LT.out
        have hR4 : R < w4.heap.size := blk_lt LR.out
        have vbn : vb ≠ A ∧ vb ≠ T ∧ vb ≠ R := by
          rcases G3.out vb rfl with e | e
          · exact HP.out vb e
          · have e' : w4.heap.size + 1 ≤ vb := by simpa using e
            omega
        have cT : Rdb w5 T t (a - bb) := blk_grown (blk_alloc (blk_drew LT.out) _) G2.out (fun e => (HP.out T e.symm).2.1 rfl)
        have cR : Rd w5 R q (r + (c - 1)) := blk_grown (blk_alloc (blk_drew LR.out) _) G2.out (fun e => (HP.out R e.symm).2.2 rfl)
        have FV : From W0.heap.size (.slice (some ⟨vb, 0, none⟩) (acc.length + 1) vc) := from_moved HB.out.2.2.2 G3.out hs4
        have Z := chg_set (S := (· = A)) (chg_refl _ w5) ⟨A, 4, none⟩ (.slice (some ⟨vb, 0, none⟩) (acc.length + 1) vc) (fun _ => rfl)
        have CT := Hid.intro cT
        have CR := Hid.intro cR
        have FIN : Hid (Rs W0 (w5.setCell ⟨A, 4, none⟩ (.slice (some ⟨vb, 0, none⟩) (acc.length + 1) vc)) A T R (.slice (some ⟨b, 0, none⟩) s cap) (ee + got (le t.data.toList) (a - bb) bb) t q (a - bb) (r + (c - 1)) (.slice (some ⟨vb, 0, none⟩) (acc.length + 1) vc) (acc ++ [((c : Int), ((got (le q.data.toList) r (c - 1) : Nat) : Int))])) := by
          refine ⟨?_, blk_kept cT Z (fun e => HD.out.1 e.symm), blk_kept cR Z (fun e => HD.out.2.1 e.symm), ?_, ⟨HB.out.1, HB.out.2.1, HB.out.2.2.1, FV⟩, HD.out, fun j hj => by simp [Value.ownBlock] at hj; subst hj; exact vbn, below_one K2 Z HB.out.1⟩
          · rw [HY.out, hu2.out]; simpa using blk_set G7.out 4 (.slice (some ⟨vb, 0, none⟩) (acc.length + 1) vc)
          · rw [HV.out, List.length_append, ← pvs_snocq]
            exact own_kept G1.out Z (fun j hj e => vbn.1 (by simp [Value.ownBlock] at hj; omega))
        clear K1 hs4 K2 cT cR FV Z vbn
        go_wp2_with fail
        go_returns
        exact .inr ⟨by rw [not_or]; exact ⟨hab, hrc⟩, rfl, _, FIN.out⟩
end Go.Proofs.YtofclflcicjlaaaGreat
