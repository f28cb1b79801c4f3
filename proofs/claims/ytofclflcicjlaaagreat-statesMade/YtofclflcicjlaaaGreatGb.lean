/-
  One step back of a writer by states: a part taken, its state told.
-/
import Derived.Test.YtofclflcicjlaaaGreatSs
import Derived.Test.YtofclflcicjlaaaGreatPw
import Derived.Test.YtofclflcicjlaaaGreatWp
import Derived.Test.YtofclflcicjlaaaGreatSf
import Derived.Test.YtofclflcicjlaaaGreatZigBz
import Derived.WalkKit
import Derived.ProofKit
import Derived.OpenShut
import Derived.Deep.QuietTactic
import Derived.Deep.RegionWith
import Derived.Deep.RegionHeld3
import Derived.OwnWalk
import Derived.ChangeOld
import Derived.Below
import Derived.BigQuiet
namespace Go.Proofs.YtofclflcicjlaaaGreat
set_option maxRecDepth 100000
open Go.ChangeShapes Go.WideShapes Go.ChangeAt Go.RowKit
open Go.ChangeMaps (open_string shut_string)
set_option linter.unusedVariables false
theorem wt_later {W W' : World} {A B : Nat} {lv sv : Value} {st : Int} {vv kv : Value} {V : List (Nat × Nat)} (h : Wt W A B lv sv st vv kv V) (b : Below W.heap.size W W') : Wt W' A B lv sv st vv kv V :=
  ⟨h.1, blk_below h.2.1 b (blk_lt h.2.1), vl_later h.2.2.1 b, h.2.2.2⟩
/-- How a writer stands: so many parts are left, this is the state, this was put. -/
def Ws (W0 W : World) (A : Nat) (al : Option Addr) (capl Bs j st : Nat) (V : List (Nat × Nat)) : Prop :=
  (∃ vv kv, Wt W A W0.heap.size (.slice al (j : Nat) capl) (.slice (some ⟨Bs, 0, none⟩) 65 65) (st : Int) vv kv V) ∧ Below W0.heap.size W0 W
/-- What stays while the writer goes: the sources, the parts. -/
def Sy (W0 : World) (al : Option Addr) (Bs k : Nat) (L cs : List Nat) (ps : List (Int × Int)) : Prop :=
  SO W0 Bs k L cs ∧ RP W0 al ps.length ps ∧ Spd k L cs ∧ (∀ p ∈ ps, 0 ≤ p.2 ∧ p.2 ≤ 18446744073709551615) ∧ ps.length ≤ 900
theorem below_put {W w : World} (h : Below W.heap.size W w) (o : Obj) : Below W.heap.size W (w.alloc o) := h.alloc h.size o
def GbPost (W0 : World) (A : Nat) (al : Option Addr) (capl Bs k : Nat) (L cs : List Nat) (p : Int × Int) (j st : Nat) (V : List (Nat × Nat)) (e : Ending) (W' : World) : Prop :=
  (okPS L p = false ∧ e = .returned (.int .i64 1) ∧ Below W0.heap.size W0 W') ∨
  (okPS L p = true ∧ e = .returned (.int .i64 0) ∧ Ws W0 W' A al capl Bs j (fnd k L cs p.1.toNat st) (V ++ [(st - (cel k L cs (fnd k L cs p.1.toNat st)).2.2, (cel k L cs (fnd k L cs p.1.toNat st)).2.1)]))
set_option maxRecDepth 100000 in
set_option maxHeartbeats 4000000 in
theorem goBack_any (W0 W : World) (A : Nat) (al : Option Addr) (capl Bs k : Nat) (L cs : List Nat) (ps : List (Int × Int)) (j st : Nat) (V : List (Nat × Nat)) (p : Int × Int) (hy : Sy W0 al Bs k L cs ps) (h : Ws W0 W A al capl Bs (j + 1) st V) (hp : ps[j]? = some p) (hst : st < 2 ^ k) (hV : V.length ≤ 900) (hjc : j ≤ capl) :
    Calls Tryz.prog 19 #[.pointer (some ⟨A, 0, none⟩)] W (GbPost W0 A al capl Bs k L cs p j st V) := by
  obtain ⟨⟨vv, kv, hw⟩, hbl⟩ := h
  obtain ⟨hso, hrp, hs, hf, hn⟩ := hy
  obtain ⟨hj, rfl⟩ := List.getElem?_eq_some_iff.1 hp
  obtain ⟨x, rfl, hx⟩ := hrp.2 (by omega)
  obtain ⟨x0, x1⟩ := hx j hj
  have hr := hf ps[j] (List.getElem_mem hj)
  obtain ⟨⟨c, r0⟩, hpp⟩ : ∃ p, ps[j] = p := ⟨_, rfl⟩
  rw [hpp] at x0 x1 hr ⊢
  simp only at x0 x1 hr
  obtain ⟨r, rfl⟩ : ∃ r : Nat, r0 = (r : Int) := ⟨r0.toNat, by omega⟩
  have hb := hw.2.1
  have a0 : W.cell? ⟨A, 0, none⟩ = some (.slice (some x) ((j + 1 : Nat) : Nat) capl) := by rw [blk_cell hb]; rfl
  obtain ⟨x0, x1⟩ := rp_cells2 hbl x0 x1
  have hj0 : (0 : Int) ≤ (j : Int) := by omega
  have hj9 : j < 900 := by omega
  have JN := fun W1 => join_any c (r : Int) W1 (by omega) (by omega)
  have HW := Hid.intro hw
  have HBL := Hid.intro hbl
  have HSO := Hid.intro hso
  have HS := Hid.intro hs
  have HB := Hid.intro hb
  clear hw hbl hso hs hf hrp hx hp hpp hn hr hj
  go_enter Tryz.func19, Tryz.ntmps19
  go_wp2_with fail
  obtain ⟨P, hP⟩ : ∃ P, W.heap.size = P := ⟨_, rfl⟩
  have n0 := blk_new W #[.int .i64 c, .int .u64 (r : Int)] 74
  have b1 : Below W.heap.size W (W.alloc (.cells #[.int .i64 c, .int .u64 (r : Int)] 74)) := (Below.refl _ _).alloc (Nat.le_refl _) _
  have hz1 : (W.alloc (.cells #[.int .i64 c, .int .u64 (r : Int)] 74)).heap.size = P + 1 := by rw [World.size_alloc, hP]
  rw [hP] at n0 ⊢
  have J1 := JN (W.alloc (.cells #[.int .i64 c, .int .u64 (r : Int)] 74))
  generalize W.alloc (.cells #[.int .i64 c, .int .u64 (r : Int)] 74) = w1 at *
  clear JN a0 x0 x1
  with_reducible refine J1.mono ?_
  rintro e w2 ⟨rfl, b2⟩
  clear J1
  have n1 := blk_below n0 b2 (blk_lt n0)
  have b12 := b1.trans (b2.mono b1.size)
  have hP2 : P < w2.heap.size := Nat.lt_of_lt_of_le (blk_lt n0) b2.size
  have hA2 : A < W.heap.size := blk_lt HB.out
  have e1 := blk_below HB.out b12 hA2
  have p0 : w2.cell? ⟨P, 0, none⟩ = some (.int .i64 c) := by rw [blk_cell n1]; rfl
  have a0 : w2.cell? ⟨A, 0, none⟩ = some (.slice (some x) ((j + 1 : Nat) : Nat) capl) := by rw [blk_cell e1]; rfl
  have a1 : w2.cell? ⟨A, 1, none⟩ = some (.slice (some ⟨Bs, 0, none⟩) 65 65) := by rw [blk_cell e1]; rfl
  have a2 : w2.cell? ⟨A, 2, none⟩ = some (.int .i64 (st : Int)) := by rw [blk_cell e1]; rfl
  have B12 := Hid.intro b12
  have E1 := Hid.intro e1
  have N1 := Hid.intro n1
  have HP := Hid.intro hP
  have HA2 := Hid.intro hA2
  clear n0 b1 b2 n1 e1 b12 hz1 hb
  by_cases hjk : jok c (r : Int) = true
  · obtain ⟨q, hck, hq65⟩ : ∃ q : Nat, c = (q : Int) ∧ q < 65 := by
      by_cases h0 : c < 0 ∨ 64 < c
      · rw [jokOut c r h0] at hjk; cases hjk
      · exact ⟨c.toNat, by omega, by omega⟩
    subst hck
    have hb2 : Below W0.heap.size W0 w2 := HBL.out.trans (B12.out.mono HBL.out.size)
    have so2 := so_later HSO.out hb2
    obtain ⟨vs, D, hBs, hvl, hvr⟩ := so2
    obtain ⟨v, hv⟩ : ∃ v, vs[q]? = some v := ⟨_, List.getElem?_eq_getElem (by rw [hvl]; exact hq65)⟩
    obtain ⟨r1, r2, r3, r4, r5⟩ := hvr q v hv
    have hqz : (q : Int) < 65 := by omega
    have hq0 : (0 : Int) ≤ (q : Int) := by omega
    have HB2 := Hid.intro hb2
    have R1 := Hid.intro r1
    clear hvr hv hvl hBs hb2
    by_cases hD : D q = []
    · obtain ⟨av, cv, rfl⟩ : ∃ av cv, v = .slice av 0 cv := by
        rcases r2 with ⟨h, -⟩ | ⟨b, cap, h, -⟩
        · exact ⟨none, 0, h⟩
        · rw [hD] at h; exact ⟨_, _, h⟩
      have hg : g L q = 0 := by
        rcases Nat.eq_zero_or_pos (g L q) with h | h
        · exact h
        · obtain ⟨m, -, h2, -⟩ := src_at HS.out r3 r4 h hst
          rw [hD] at h2; exact absurd h2 (Nat.not_lt_zero _)
      have OK : Hid (okPS L ((q : Int), (r : Int)) = false) := by show _ = _; unfold okPS; rw [hjk]; simp [hg]
      clear r2 r3 r4 r5 hD hg
      go_wp2_with fail
      go_quiet (fail)
      go_wp2_with fail
      go_ret
      exact .inl ⟨OK.out, rfl, below_drewN HB2.out _⟩
    · obtain ⟨b, cap, rfl, hbl, hh⟩ : ∃ b cap, v = .slice (some ⟨b, 0, none⟩) ((D q).length : Nat) cap ∧ b < w2.heap.size ∧ Go.Sort.HoldsK enS 4 w2 b 0 (D q).toArray := by
        rcases r2 with ⟨-, h⟩ | h
        · exact absurd h hD
        · exact h
      have hg : 0 < g L q := by
        rcases Nat.eq_zero_or_pos (g L q) with h | h
        · exact absurd (sr_none HS.out r3 h) hD
        · exact h
      have OK : Hid (okPS L ((q : Int), (r : Int)) = true) := by show _ = _; unfold okPS; rw [hjk]; simp [hg]
      obtain ⟨m, hm1, hm2, hm3⟩ := src_at HS.out r3 r4 hg hst
      obtain ⟨bb, ee, hcel, he1, he2, he3, he4⟩ := fnd_cel HS.out hg hst
      rw [hcel] at hm3
      have FP := Hid.intro (fnd_is HS.out hg hst).1
      have HC := Hid.intro hcel
      have E12 := Hid.intro (And.intro he1 (And.intro he2 (And.intro he3 he4)))
      generalize hpl : fnd k L cs q st = pl at *
      have HPL := Hid.intro hpl
      have hn0 : 0 < (D q).length := by omega
      have SOF : Aside (∀ w', Below w2.heap.size w2 w' → Calls Tryz.prog 51 #[.int .i64 (st : Int), .slice (some ⟨b, 0, none⟩) ((D q).length : Nat) cap] w' fun e w'' => e = .returned (.agg #[.int .i64 (pl : Int), .int .i64 (q : Int), .int .i64 (bb : Int), .int .i64 (ee : Int)]) ∧ Below w'.heap.size w' w'') := fun w' hw' =>
        sourceOf_any b cap st m (D q) (pl, q, bb, ee) w' (fun jj hjj => by
          obtain ⟨h1, h2⟩ := hh jj hjj
          exact ⟨(hw'.cell (p := ⟨b, 0 + jj, none⟩) hbl).trans h1, (hw'.frozen (p := ⟨b, 0 + jj, none⟩) hbl).trans h2⟩) (Nat.lt_of_lt_of_le hbl hw'.size) r5 r4 hm1 hm3
      generalize (D q).length = n at *
      have hn0z : ((n : Int) == 0) = false := by simp; omega
      clear r2 r3 r4 hD hh hbl hg hm1 hm2 hm3 hcel he1 he2 he3 he4 hpl r5
      go_wp2_with fail
      go_quiet (fail)
      have b23 : Below w2.heap.size w2 (w2.drewN nq) := below_drewN (Below.refl _ _) nq
      have hBs2 : Bs < w2.heap.size := World.block_lt_of_cell? _ _ r1
      have MK : Aside (∀ w', Below w2.heap.size w2 w' → (w'.cell? ⟨A, 1, none⟩ = some (.slice (some ⟨Bs, 0, none⟩) 65 65) ∧ w'.cell? ⟨A, 2, none⟩ = some (.int .i64 (st : Int)) ∧ w'.cell? ⟨P, 0, none⟩ = some (.int .i64 (q : Int)) ∧ w'.cell? ⟨Bs, q, none⟩ = some (.slice (some ⟨b, 0, none⟩) (n : Nat) cap)) ∧ Below w2.heap.size w2 w') := fun w' hw' =>
        ⟨⟨(hw'.cell (p := ⟨A, 1, none⟩) (blk_lt E1.out)).trans a1, (hw'.cell (p := ⟨A, 2, none⟩) (blk_lt E1.out)).trans a2, (hw'.cell (p := ⟨P, 0, none⟩) hP2).trans p0, (hw'.cell (p := ⟨Bs, q, none⟩) hBs2).trans r1⟩, hw'⟩
      generalize w2.drewN nq = w3 at *
      have b23d := b23.drew
      clear a0 a1 a2 p0 r1 hBs2 x0 x1
      go_wp2_with fail
      go_region_held3 (fun w' => (w'.cell? ⟨A, 1, none⟩ = some (.slice (some ⟨Bs, 0, none⟩) 65 65) ∧ w'.cell? ⟨A, 2, none⟩ = some (.int .i64 (st : Int)) ∧ w'.cell? ⟨P, 0, none⟩ = some (.int .i64 (q : Int)) ∧ w'.cell? ⟨Bs, q, none⟩ = some (.slice (some ⟨b, 0, none⟩) (n : Nat) cap)) ∧ Below w2.heap.size w2 w')
        (first
          | with_reducible exact MK.out _ b23d
          | with_reducible exact MK.out _ (below_put b23d _)
          | with_reducible exact MK.out _ (below_put b23 _).drew
          | with_reducible exact MK.out _ b24
          | with_reducible exact MK.out _ (below_put b24 _)
          | with_reducible exact MK.out _ (((((below_put b24 _).setCell (p := ⟨w4.heap.size, 0, none⟩) b24.size _).setCell (p := ⟨w4.heap.size, 1, none⟩) b24.size _).setCell (p := ⟨w4.heap.size, 2, none⟩) b24.size _).setCell (p := ⟨w4.heap.size, 3, none⟩) b24.size _)
          | with_reducible exact MK.out _ ((((b24.setCell (p := ⟨w3.heap.size, 0, none⟩) b23.size _).setCell (p := ⟨w3.heap.size, 1, none⟩) b23.size _).setCell (p := ⟨w3.heap.size, 2, none⟩) b23.size _).setCell (p := ⟨w3.heap.size, 3, none⟩) b23.size _))
        (first
          | (go_at_call 51; refine (SOF.out _ (by first | with_reducible exact b23d | with_reducible exact below_put b23d _ | with_reducible exact (below_put b23 _).drew)).mono ?_; rintro e w4 ⟨rfl, hb4⟩
             have b24 : Below w2.heap.size w2 w4 := Below.trans (by first | with_reducible exact b23d | with_reducible exact below_put b23d _ | with_reducible exact (below_put b23 _).drew) (hb4.mono (Below.size (by first | with_reducible exact b23d | with_reducible exact below_put b23d _ | with_reducible exact (below_put b23 _).drew)))
             try have z4 : Blk w4 w3.heap.size #[.int .i64 0, .int .i64 0, .int .i64 0, .int .i64 0] 109 := blk_below (blk_drew (blk_new w3 #[.int .i64 0, .int .i64 0, .int .i64 0, .int .i64 0] 109)) hb4 (by simp)
             try have c0 : w4.cell? ⟨w3.heap.size, 0, none⟩ = some (.int .i64 0) := (by rw [blk_cell z4]; rfl)
             try have f0 := blk_free z4 0
             try have c1 : w4.cell? ⟨w3.heap.size, 1, none⟩ = some (.int .i64 0) := (by rw [blk_cell z4]; rfl)
             try have f1 := blk_free z4 1
             try have c2 : w4.cell? ⟨w3.heap.size, 2, none⟩ = some (.int .i64 0) := (by rw [blk_cell z4]; rfl)
             try have f2 := blk_free z4 2
             try have c3 : w4.cell? ⟨w3.heap.size, 3, none⟩ = some (.int .i64 0) := (by rw [blk_cell z4]; rfl)
             try have f3 := blk_free z4 3
             clear hb4))
      all_goals (first
        | (have n5 : Blk ((((w4.setCell ⟨w3.heap.size, 0, none⟩ (.int .i64 (pl : Int))).setCell ⟨w3.heap.size, 1, none⟩ (.int .i64 (q : Int))).setCell ⟨w3.heap.size, 2, none⟩ (.int .i64 (bb : Int))).setCell ⟨w3.heap.size, 3, none⟩ (.int .i64 (ee : Int))) w3.heap.size #[.int .i64 (pl : Int), .int .i64 (q : Int), .int .i64 (bb : Int), .int .i64 (ee : Int)] 109 := (by simpa using blk_set (blk_set (blk_set (blk_set z4 0 (.int .i64 (pl : Int))) 1 (.int .i64 (q : Int))) 2 (.int .i64 (bb : Int))) 3 (.int .i64 (ee : Int)))
           have b25 := ((((b24.setCell (p := ⟨w3.heap.size, 0, none⟩) b23.size (.int .i64 (pl : Int))).setCell (p := ⟨w3.heap.size, 1, none⟩) b23.size (.int .i64 (q : Int))).setCell (p := ⟨w3.heap.size, 2, none⟩) b23.size (.int .i64 (bb : Int))).setCell (p := ⟨w3.heap.size, 3, none⟩) b23.size (.int .i64 (ee : Int)))
           have hN : w2.heap.size ≤ w3.heap.size := b23.size
           clear z4 c0 c1 c2 c3 f0 f1 f2 f3
           generalize (((w4.setCell ⟨w3.heap.size, 0, none⟩ (.int .i64 (pl : Int))).setCell ⟨w3.heap.size, 1, none⟩ (.int .i64 (q : Int))).setCell ⟨w3.heap.size, 2, none⟩ (.int .i64 (bb : Int))).setCell ⟨w3.heap.size, 3, none⟩ (.int .i64 (ee : Int)) = w5 at *
           generalize w3.heap.size = N at *
           clear b23 b23d b24)
        | (have n5 := blk_new w4 #[.int .i64 (pl : Int), .int .i64 (q : Int), .int .i64 (bb : Int), .int .i64 (ee : Int)] 109
           have b25 := below_put b24 (.cells #[.int .i64 (pl : Int), .int .i64 (q : Int), .int .i64 (bb : Int), .int .i64 (ee : Int)] 109)
           have hN : w2.heap.size ≤ w4.heap.size := b24.size
           generalize w4.alloc (.cells #[.int .i64 (pl : Int), .int .i64 (q : Int), .int .i64 (bb : Int), .int .i64 (ee : Int)] 109) = w5 at *
           generalize w4.heap.size = N at *
           clear b23 b23d b24))
      all_goals
        clear MK SOF
        have hw5 := wt_later HW.out (B12.out.trans (b25.mono B12.out.size))
        obtain ⟨d, hd⟩ : ∃ d : Nat, (st : Int) - (ee : Int) = (d : Int) := ⟨st - ee, by have := E12.out.1; omega⟩
        have hd2 : Hid (st - ee = d) := by show _ = _; have := E12.out.1; omega
        have hd3 : d < 9223372036854775808 := by
          have h1 := pow_bd k HS.out.k12
          have h2 := hd2.out
          omega
        have hwd : IntKind.i64.wrap (d : Int) = (d : Int) := by rw [IntKind.wrap_i64]; omega
        have PUT := wput_any A W0.heap.size _ _ (st : Int) vv kv V d bb w5.drew (wt_later hw5 (Below.refl _ _).drew) hd3 (by omega)
        have n0 : w5.drew.cell? ⟨A, 2, none⟩ = some (.int .i64 (st : Int)) := by rw [blk_cell (blk_drew hw5.2.1)]; rfl
        have n2 : w5.drew.cell? ⟨N, 2, none⟩ = some (.int .i64 (bb : Int)) := by rw [blk_cell (blk_drew n5)]; rfl
        have n3 : w5.drew.cell? ⟨N, 3, none⟩ = some (.int .i64 (ee : Int)) := by rw [blk_cell (blk_drew n5)]; rfl
        have APN : Hid (N ≠ A ∧ vv.ownBlock ≠ some N ∧ kv.ownBlock ≠ some N) := by
          have h0 := HA2.out
          have h1 := B12.out.size
          refine ⟨by omega, fun e => ?_, fun e => ?_⟩
          · have := (HW.out.2.2.1.1.lt N e).2; omega
          · have := (HW.out.2.2.1.2.1.lt N e).2; omega
        have N5 := Hid.intro n5
        have B25 := Hid.intro b25
        have HW5 := Hid.intro hw5
        clear n5 b25 hw5 hN
        go_wp2_with fail
        go_region_held3 (fun w' => w'.cell? ⟨A, 2, none⟩ = some (.int .i64 (st : Int)) ∧ w'.cell? ⟨N, 2, none⟩ = some (.int .i64 (bb : Int)) ∧ w'.cell? ⟨N, 3, none⟩ = some (.int .i64 (ee : Int)))
          (first | with_reducible exact ⟨n0, n2, n3⟩ | with_reducible assumption)
          (first
            | (go_at_call 20; with_reducible refine PUT.mono ?_; rintro e w6 ⟨rfl, ⟨vv', kv', g1⟩, g2, g3⟩
               have e6 := blk_kept (blk_drew N5.out) g3 (fun h => h.elim APN.out.1 (fun h => h.elim APN.out.2.1 APN.out.2.2))
               have kk : w6.cell? ⟨A, 2, none⟩ = some (.int .i64 (st : Int)) ∧ w6.cell? ⟨N, 2, none⟩ = some (.int .i64 (bb : Int)) ∧ w6.cell? ⟨N, 3, none⟩ = some (.int .i64 (ee : Int)) := ⟨by rw [blk_cell g1.2.1]; rfl, by rw [blk_cell e6]; rfl, by rw [blk_cell e6]; rfl⟩
               have E6 := Hid.intro e6
               have G1 := Hid.intro g1
               have G2 := Hid.intro g2
               clear g1 g2 g3 e6))
        clear kk
        have bA := G1.out.2.1
        have u0 : w6.cell? ⟨A, 0, none⟩ = some (.slice (some x) ((j + 1 : Nat) : Nat) capl) := by rw [blk_cell bA]; rfl
        have u2 : w6.cell? ⟨A, 2, none⟩ = some (.int .i64 (st : Int)) := by rw [blk_cell bA]; rfl
        have u3 : w6.cell? ⟨N, 0, none⟩ = some (.int .i64 (pl : Int)) := by rw [blk_cell E6.out]; rfl
        have t0 := blk_free bA 0
        have t2 := blk_free bA 2
        have s0 : ∀ u, (w6.setCell ⟨A, 2, none⟩ u).cell? ⟨A, 0, none⟩ = some (.slice (some x) ((j + 1 : Nat) : Nat) capl) := fun u => by rw [blk_cell (blk_set bA 2 u)]; rfl
        have s2 : ∀ u, (w6.setCell ⟨A, 0, none⟩ u).cell? ⟨A, 2, none⟩ = some (.int .i64 (st : Int)) := fun u => by rw [blk_cell (blk_set bA 0 u)]; rfl
        have s3 : ∀ u, (w6.setCell ⟨A, 2, none⟩ u).frozen? ⟨A, 0, none⟩ = false := fun u => blk_free (blk_set bA 2 u) 0
        have s4 : ∀ u, (w6.setCell ⟨A, 0, none⟩ u).frozen? ⟨A, 2, none⟩ = false := fun u => blk_free (blk_set bA 0 u) 2
        have FIN : Hid (∀ W', (W' = ((w6.setCell ⟨A, 2, none⟩ (.int .i64 (pl : Int))).setCell ⟨A, 0, none⟩ (.slice (some x) (j : Nat) capl)).drew ∨ W' = ((w6.setCell ⟨A, 0, none⟩ (.slice (some x) (j : Nat) capl)).setCell ⟨A, 2, none⟩ (.int .i64 (pl : Int))).drew) → GbPost W0 A (some x) capl Bs k L cs ((q : Int), (r : Int)) j st V (.returned (.int .i64 0)) W') := fun W' hW => by
          have hBA : W0.heap.size ≤ A := HW.out.1
          have key : Blk W' A #[.slice (some x) (j : Nat) capl, .slice (some ⟨Bs, 0, none⟩) 65 65, .int .i64 (pl : Int), vv', kv'] 58 ∧ Chg (· = A) w6 W' := by
            rcases hW with rfl | rfl
            · exact ⟨blk_drew (by simpa using blk_set (blk_set bA 2 (.int .i64 (pl : Int))) 0 (.slice (some x) (j : Nat) capl)), chg_drew (chg_set (S := (· = A)) (chg_set (S := (· = A)) (chg_refl _ _) ⟨A, 2, none⟩ _ (fun _ => rfl)) ⟨A, 0, none⟩ _ (fun _ => rfl))⟩
            · exact ⟨blk_drew (by simpa using blk_set (blk_set bA 0 (.slice (some x) (j : Nat) capl)) 2 (.int .i64 (pl : Int))), chg_drew (chg_set (S := (· = A)) (chg_set (S := (· = A)) (chg_refl _ _) ⟨A, 0, none⟩ _ (fun _ => rfl)) ⟨A, 2, none⟩ _ (fun _ => rfl))⟩
          obtain ⟨k1, k2⟩ := key
          obtain ⟨g0, g1, ⟨o1, o2, f1, f2, dj⟩, m1, m2⟩ := G1.out
          have bt : Below W0.heap.size W0 w5 := HB2.out.trans (B25.out.mono HB2.out.size)
          have hB : Below W0.heap.size W0 w6 := bt.trans ((Below.refl _ w5).drew.trans G2.out)
          refine .inr ⟨OK.out, rfl, ⟨vv', kv', ?_⟩, below_one hB k2 hBA⟩
          simp only [Int.toNat_natCast]
          rw [HPL.out, HC.out]
          simp only
          rw [hd2.out]
          exact ⟨g0, k1, ⟨own_kept o1 k2 (fun i hi e => m1 i hi e), own_kept o2 k2 (fun i hi e => m2 i hi e), f1, f2, dj⟩, m1, m2⟩
        clear bA
        go_wp2_with fail
        go_region
        all_goals
          go_wp2_with fail
          go_returns
          first | exact FIN.out _ (.inl rfl) | exact FIN.out _ (.inr rfl)
  · have J : jok c (r : Int) = false := by simpa using hjk
    have OK : okPS L (c, (r : Int)) = false := by unfold okPS; rw [J]; rfl
    have F : Hid (Below W0.heap.size W0 w2) := HBL.out.trans (B12.out.mono HBL.out.size)
    have HOK := Hid.intro OK
    clear hjk OK
    go_wp2_with fail
    go_quiet (fail)
    go_wp2_with fail
    go_ret
    exact .inl ⟨HOK.out, rfl, below_drewN F.out _⟩
end Go.Proofs.YtofclflcicjlaaaGreat
