/-
  Less and Swap of a queue of packages.
-/
import Derived.Test.YtabnafjndljimaaCp
namespace Go.Proofs.Ytabnafjndljimaa
open Go.ChangeShapes Go.WideShapes Go.ChangeAt Go.RowKit
open Go.ChangeMaps (open_string shut_string)

def kltb (tbl : List Pk) (i j : Nat) : Bool := decide (K tbl i < K tbl j)
theorem kltb_iff (tbl : List Pk) (i j : Nat) : kltb tbl i j = true ↔ klt tbl i j := by unfold kltb klt; simp
theorem kltb_not (tbl : List Pk) (i j : Nat) : kltb tbl i j = false ↔ ¬ klt tbl i j := by rw [← kltb_iff]; simp
theorem tm_cell {W : World} {N : Nat} {p : Pk} (h : Tm W N p) (i : Nat) (hi : i < p.ts.length) : W.cell? ((⟨p.b, 0, none⟩ : Addr).add i) = some (.int .i64 (p.ts[i] : Int)) := by
  have l : p.ts.length = N := by have := h.1; rw [ni_len] at this; omega
  rw [Addr.add_lit, Nat.zero_add]
  exact (own_there h i (by omega)).1.trans (ni_at p.ts i hi)
set_option maxRecDepth 100000 in
set_option maxHeartbeats 1000000 in
theorem lessP_any (b n cap i j N : Nat) (p q : Pk) (W : World) (hi : i < n) (hj : j < n) (_hn : n ≤ 100000) (hN : N ≤ 100000)
    (ci : W.cell? ⟨b, i * 2, none⟩ = some (.int .i64 (p.c : Int))) (ci1 : W.cell? ⟨b, i * 2 + 1, none⟩ = some (pcv N p))
    (cj : W.cell? ⟨b, j * 2, none⟩ = some (.int .i64 (q.c : Int))) (cj1 : W.cell? ⟨b, j * 2 + 1, none⟩ = some (pcv N q))
    (hp : Tm W N p) (hq : Tm W N q) :
    Calls Try.prog 67 #[.slice (some ⟨b, 0, none⟩) n cap, .int .i64 i, .int .i64 j] W fun e W' => e = .returned (.bool (decide (p.c < q.c ∨ (p.c = q.c ∧ cmpL p.ts q.ts < 0)))) ∧ Chg (fun _ => False) W W' := by
  have lp : p.ts.length = N := by have := hp.1; rw [ni_len] at this; omega
  have lq : q.ts.length = N := by have := hq.1; rw [ni_len] at this; omega
  have CM : ∀ k m, Calls Try.prog 71 #[pcv N p, pcv N q] ((W.drewN k).drewN m) fun e w' => e = .returned (.int .i64 (cmpL p.ts q.ts)) ∧ w' = (W.drewN k).drewN m := fun k m =>
    compare_any ⟨p.b, 0, none⟩ ⟨q.b, 0, none⟩ N p.cap q.cap p.ts q.ts _ lp lq hN (fun i h => tm_cell hp i h) (fun i h => tm_cell hq i h)
  generalize cmpL p.ts q.ts = z at *
  generalize pcv N p = u at *
  generalize pcv N q = v at *
  generalize p.c = x at *
  generalize q.c = y at *
  clear hp hq lp lq
  by_cases h : x = y
  · have t : ((x : Int) == (y : Int)) = true := by simp [h]
    have t2 : ((x : Int) != (y : Int)) = false := by simp [h]
    have D : Hid (decide (x < y ∨ (x = y ∧ z < 0)) = decide (z < 0)) := by show _ = _; simp [h]
    clear h
    go_enter Try.func67, Try.ntmps67
    go_wp2_with fail
    go_quiet (fail)
    have C1 := Hid.intro (drewN_chg W nq)
    have ci1' : (W.drewN nq).cell? ⟨b, i * 2 + 1, none⟩ = some u := ci1
    have cj1' : (W.drewN nq).cell? ⟨b, j * 2 + 1, none⟩ = some v := cj1
    have CM' := CM nq
    clear CM t t2 ci ci1 cj cj1
    go_wp2_with fail
    generalize W.drewN nq = W1 at *
    go_quiet ((go_at_call 71; refine Calls.quiet_of_same (CM' _)))
    go_wp2_with fail
    go_ret
    rw [D.out]
    exact ⟨rfl, chg_same C1.out (drewN_chg _ _)⟩
  · have t : ((x : Int) == (y : Int)) = false := by simp; omega
    have t2 : ((x : Int) != (y : Int)) = true := by simp; omega
    have D : Hid (decide (x < y ∨ (x = y ∧ z < 0)) = decide (x < y)) := by show _ = _; simp [h]
    clear h
    go_enter Try.func67, Try.ntmps67
    go_wp2_with fail
    go_quiet (fail)
    go_wp2_with fail
    go_quiet (fail)
    go_wp2_with fail
    go_ret
    rw [D.out]
    exact ⟨rfl, drewN_chg _ _⟩

theorem lessP_at (b cap i j N D : Nat) (tbl : List Pk) (l : List Nat) (A : Nat) (W : World) (hi : i < l.length) (hj : j < l.length) (hn : l.length ≤ 100000) (hN : N ≤ 100000) (hD : D < 16777216)
    (h : Qp W A (.slice (some ⟨b, 0, none⟩) l.length cap) N D tbl l) :
    Calls Try.prog 67 #[.slice (some ⟨b, 0, none⟩) l.length cap, .int .i64 i, .int .i64 j] W fun e W' => e = .returned (.bool (kltb tbl (g l i) (g l j))) ∧ Chg (fun _ => False) W W' := by
  obtain ⟨h1, h2, h3, h4, h5⟩ := h
  have mi := h5 _ (g_mem l i hi)
  have mj := h5 _ (g_mem l j hj)
  have ti := h4 _ (T_mem tbl _ mi)
  have tj := h4 _ (T_mem tbl _ mj)
  have c := lessP_any b l.length cap i j N (T tbl (g l i)) (T tbl (g l j)) W hi hj hn hN
    ((own_there h2 (i * 2) (by omega)).1.trans (tvs_fst _ _ l i hi)) ((own_there h2 (i * 2 + 1) (by omega)).1.trans (tvs_snd _ _ l i hi))
    ((own_there h2 (j * 2) (by omega)).1.trans (tvs_fst _ _ l j hj)) ((own_there h2 (j * 2 + 1) (by omega)).1.trans (tvs_snd _ _ l j hj)) ti.2.1 tj.2.1
  have e : kltb tbl (g l i) (g l j) = decide ((T tbl (g l i)).c < (T tbl (g l j)).c ∨ ((T tbl (g l i)).c = (T tbl (g l j)).c ∧ cmpL (T tbl (g l i)).ts (T tbl (g l j)).ts < 0)) := by
    unfold kltb; rw [decide_eq_decide]; exact key_lt ti.1 tj.1 hD
  rw [e]; exact c
set_option maxRecDepth 100000 in
set_option maxHeartbeats 400000 in
theorem swapP_walk (b n cap i j : Nat) (p q x y : Value) (W : World) (hi : i < n) (hj : j < n) (_hn : n ≤ 100000)
    (p1 : ∃ z, p = .int .i64 z) (q1 : ∃ z, q = .int .i64 z) (x1 : ∃ b m c, x = .slice (some ⟨b, 0, none⟩) m c) (y1 : ∃ b m c, y = .slice (some ⟨b, 0, none⟩) m c)
    (ci : W.cell? ⟨b, i * 2, none⟩ = some p) (ci1 : W.cell? ⟨b, i * 2 + 1, none⟩ = some x)
    (cj : W.cell? ⟨b, j * 2, none⟩ = some q) (cj1 : W.cell? ⟨b, j * 2 + 1, none⟩ = some y)
    (fi : W.frozen? ⟨b, i * 2, none⟩ = false) (fi1 : W.frozen? ⟨b, i * 2 + 1, none⟩ = false) (fj : W.frozen? ⟨b, j * 2, none⟩ = false) (fj1 : W.frozen? ⟨b, j * 2 + 1, none⟩ = false) :
    Calls Try.prog 70 #[.slice (some ⟨b, 0, none⟩) n cap, .int .i64 i, .int .i64 j] W fun e W' => e = .returned (.tuple #[]) ∧
      W' = (((W.drew.setCell ⟨b, i * 2, none⟩ q).setCell ⟨b, i * 2 + 1, none⟩ y).setCell ⟨b, j * 2, none⟩ p).setCell ⟨b, j * 2 + 1, none⟩ x := by
  obtain ⟨p, rfl⟩ := p1
  obtain ⟨q, rfl⟩ := q1
  obtain ⟨b1, m1, c1, rfl⟩ := x1
  obtain ⟨b2, m2, c2, rfl⟩ := y1
  have zi : (0 : Int) ≤ (i : Int) := by omega
  have zj : (0 : Int) ≤ (j : Int) := by omega
  have li : (i : Int) < (n : Int) := by omega
  have lj : (j : Int) < (n : Int) := by omega
  by_cases hne : i = j
  · subst hne
    obtain rfl : p = q := by rw [ci] at cj; injection cj with cj; injection cj
    obtain ⟨rfl, rfl, rfl⟩ : b1 = b2 ∧ m1 = m2 ∧ c1 = c2 := by
      rw [ci1] at cj1; injection cj1 with cj1; injection cj1 with e1 e2 e3; injection e1 with e1; injection e1 with e1; exact ⟨e1, e2, e3⟩
    clear cj cj1 fj fj1 zj lj hj
    go_enter Try.func70, Try.ntmps70
    go_wp2_with fail
    go_region
    all_goals
      go_wp2_with fail
      go_returns
      exact ⟨rfl, rfl⟩
  · go_enter Try.func70, Try.ntmps70
    go_wp2_with fail
    go_region
    all_goals
      go_wp2_with fail
      go_returns
      exact ⟨rfl, rfl⟩
theorem swapP_any {n b cap i j N D : Nat} {tbl : List Pk} {l : List Nat} {W : World} {A : Nat} (h : Qp W A (.slice (some ⟨b, 0, none⟩) n cap) N D tbl l) (hl : l.length = n) (hi : i < n) (hj : j < n) (hn : n ≤ 1001) :
    Calls Try.prog 70 #[.slice (some ⟨b, 0, none⟩) n cap, .int .i64 i, .int .i64 j] W fun e W' => e = .returned (.tuple #[]) ∧ Qp W' A (.slice (some ⟨b, 0, none⟩) n cap) N D tbl (sw l i j) ∧ Chg (foot A (.slice (some ⟨b, 0, none⟩) n cap)) W W' := by
  subst hl
  obtain ⟨h1, h2, h3, h4, h5⟩ := h
  obtain ⟨ci, _, fi⟩ := own_there h2 (i * 2) (by omega)
  obtain ⟨ci1, _, fi1⟩ := own_there h2 (i * 2 + 1) (by omega)
  obtain ⟨cj, _, fj⟩ := own_there h2 (j * 2) (by omega)
  obtain ⟨cj1, _, fj1⟩ := own_there h2 (j * 2 + 1) (by omega)
  refine (swapP_walk b l.length cap i j _ _ _ _ W hi hj (by omega) ⟨_, rfl⟩ ⟨_, rfl⟩ ⟨_, _, _, rfl⟩ ⟨_, _, _, rfl⟩ (ci.trans (tvs_fst _ _ l i hi)) (ci1.trans (tvs_snd _ _ l i hi)) (cj.trans (tvs_fst _ _ l j hj)) (cj1.trans (tvs_snd _ _ l j hj)) fi fi1 fj fj1).mono ?_
  rintro e W' ⟨rfl, rfl⟩
  have hc : ∀ (u1 u2 u3 u4 : Value), Chg (· = b) W ((((W.drew.setCell ⟨b, i * 2, none⟩ u1).setCell ⟨b, i * 2 + 1, none⟩ u2).setCell ⟨b, j * 2, none⟩ u3).setCell ⟨b, j * 2 + 1, none⟩ u4) :=
    fun u1 u2 u3 u4 => chg_in (chg_in (chg_in (chg_in (chg_drew (chg_refl _ W)) _ _) _ _) _ _) _ _
  have h' := own_drew h2
  have k := own_set (own_set (own_set (own_set h' (i * 2) (.int .i64 ((T tbl (g l j)).c : Int))) (i * 2 + 1) (pcv N (T tbl (g l j)))) (j * 2) (.int .i64 ((T tbl (g l i)).c : Int))) (j * 2 + 1) (pcv N (T tbl (g l i)))
  have e : ((((kvs N tbl l).set (i * 2) (.int .i64 ((T tbl (g l j)).c : Int))).set (i * 2 + 1) (pcv N (T tbl (g l j)))).set (j * 2) (.int .i64 ((T tbl (g l i)).c : Int))).set (j * 2 + 1) (pcv N (T tbl (g l i))) = kvs N tbl (sw l i j) := tvs_sw _ _ l i j
  rw [e] at k
  refine ⟨rfl, ⟨blk_kept h1 (hc _ _ _ _) (fun e => h3 (by rw [e]; rfl)), by rw [sw_len]; exact k, h3, tbl_kept h4 (hc _ _ _ _) (fun k e => .inr (by rw [e]; rfl)), fun x hx => h5 x ((sw_perm l i j hi hj).mem_iff.1 hx)⟩, chg_mono (hc _ _ _ _) (fun k _ e => .inr (by rw [e]; rfl))⟩
theorem lessP_n {n b cap i j N D : Nat} {tbl : List Pk} {l : List Nat} {W : World} {A : Nat} (h : Qp W A (.slice (some ⟨b, 0, none⟩) n cap) N D tbl l) (hl : l.length = n) (hi : i < n) (hj : j < n) (hn : n ≤ 1001) (hN : N ≤ 100000) (hD : D < 16777216) :
    Calls Try.prog 67 #[.slice (some ⟨b, 0, none⟩) n cap, .int .i64 i, .int .i64 j] W fun e W' => e = .returned (.bool (kltb tbl (g l i) (g l j))) ∧ Chg (fun _ => False) W W' := by
  subst hl
  exact lessP_at b cap i j N D tbl l A W hi hj (by omega) hN hD h
end Go.Proofs.Ytabnafjndljimaa
