/-
  What comes out by two: the packages of a level.
-/
import Derived.Test.YtabnafjndljimaaQo
namespace Go.Proofs.Ytabnafjndljimaa
open Go.ChangeShapes Go.WideShapes Go.ChangeAt Go.RowKit
open Go.ChangeMaps (open_string shut_string)

def PrRel (A b cap n N D : Nat) (tbl : List Pk) (L : List Nat) (W : World) (rv : Value) (wr : World) : Prop :=
  ∃ (m : Nat) (out l : List Nat) (ps : List Pk), Qp wr A (.slice (some ⟨b, 0, none⟩) m cap) N D tbl l ∧ l.length = m ∧ PopInv (klt tbl) (List.range tbl.length) out l ∧ out.length + m = n ∧ out.length = 2 * ps.length ∧
    ps.map key = (List.range ps.length).map (fun i => at0 L (2 * i) + at0 L (2 * i + 1)) ∧ wr.ownsRow 0 63 2 rv ps.length (pkl N ps) ∧ From W.heap.size rv ∧ (∀ p ∈ ps, W.heap.size ≤ p.b) ∧ Tbl wr N (D + D) ps (fun k => rv.ownBlock = some k) ∧ Chg (foot A (.slice (some ⟨b, 0, none⟩) n cap)) W wr
theorem two_cells (w : World) (x y : Value) (t : TypeId) : ∀ j u, [x, y][j]? = some u → (w.alloc (.cells #[x, y] t)).cell? ((⟨w.heap.size, 0, none⟩ : Addr).add j) = some u := by
  intro j u hj
  rw [Addr.add_lit, blk_cell (blk_new w #[x, y] t), ← hj]
  simp
/-- One round of pairs: two come out, and stand together behind the others. -/
theorem pairs_step {A b cap n m N D : Nat} {tbl : List Pk} {L out l l1 l2 : List Nat} {ps : List Pk} {W wr w1 w2 w3 w5 : World} {rv v5 : Value} {r : Pk} {x y : Nat} {o : Obj}
    (q0 : Qp W A (.slice (some ⟨b, 0, none⟩) n cap) N D tbl l) (hL : (tbl.map key).Perm L) (hr : Rising L)
    (e2 : out.length + (m + 2) = n) (e3 : out.length = 2 * ps.length) (e4 : ps.map key = (List.range ps.length).map (fun i => at0 L (2 * i) + at0 L (2 * i + 1)))
    (e6 : From W.heap.size rv) (e7 : ∀ p ∈ ps, W.heap.size ≤ p.b) (e8 : Tbl wr N (D + D) ps (fun k => rv.ownBlock = some k)) (e9 : Chg (foot A (.slice (some ⟨b, 0, none⟩) n cap)) W wr)
    (k1 : Qp w2 A (.slice (some ⟨b, 0, none⟩) m cap) N D tbl l2) (k2 : l2.length = m) (p1 : PopInv (klt tbl) (List.range tbl.length) (out ++ [x]) l1) (p2 : PopInv (klt tbl) (List.range tbl.length) ((out ++ [x]) ++ [y]) l2) (hx : x < tbl.length) (hy : y < tbl.length)
    (c1 : Chg (foot A (.slice (some ⟨b, 0, none⟩) n cap)) wr w1) (c2 : Chg (foot A (.slice (some ⟨b, 0, none⟩) n cap)) w1 w2)
    (r1 : r.c = (T tbl x).c + (T tbl y).c) (r2 : r.ts = List.zipWith (· + ·) (T tbl x).ts (T tbl y).ts) (r3 : Tm w3 N r) (r4 : w2.heap.size ≤ r.b) (c3 : Below w2.heap.size w2 w3)
    (g1 : w5.ownsRow 0 63 2 v5 (ps.length + 1) (pkl N ps ++ [.int .i64 (r.c : Int), pcv N r])) (g2 : (w3.alloc o).grownBy w5 rv.ownBlock) (g3 : Moved (w3.alloc o) rv v5) (hrv : ∀ k, rv.ownBlock = some k → k < wr.heap.size) :
    PrRel A b cap n N D tbl L W v5 w5 := by
  have tx := k1.2.2.2.1 _ (T_mem tbl x hx)
  have ty := k1.2.2.2.1 _ (T_mem tbl y hy)
  obtain ⟨kr, okr⟩ := key_with tx.1 ty.1 r1 r2
  have s12 : wr.heap.size ≤ w2.heap.size := Nat.le_trans (chg_size c1) (chg_size c2)
  have sW : W.heap.size ≤ wr.heap.size := chg_size e9
  have c3' : Chg (fun k => rv.ownBlock = some k) w2 w5 := chg_grown (chg_alloc (chg_of c3) _) g2 (fun k hk _ => hk)
  have c35 : Chg (fun k => rv.ownBlock = some k) w3 w5 := chg_grown (chg_alloc (chg_refl _ _) _) g2 (fun k hk _ => hk)
  have qlt := qp_lt q0
  have kx := pop_key p1 hL hr
  have ky := pop_key p2 hL hr
  rw [List.length_append, List.length_singleton] at ky
  have sz3 : w2.heap.size ≤ w3.heap.size := c3.size
  have v5s : ∀ k, v5.ownBlock = some k → rv.ownBlock = some k ∨ w3.heap.size ≤ k := fun k hk => (g3 k hk).imp id (fun e => by simp at e; omega)
  refine ⟨m, (out ++ [x]) ++ [y], l2, ps ++ [r], ?_, k2, p2, ?_, ?_, ?_, ?_, ?_, ?_, ?_, ?_⟩
  · refine qp_kept k1 c3' (fun k hk hs => ?_) (fun p hp hs => ?_)
    · have := qlt k (hk.elim (fun e => .inl e) (fun e => .inr e))
      have := e6 k hs; omega
    · have := tm_lt (q0.2.2.2.1 p hp).2.1
      have := e6 _ hs; omega
  · simp; omega
  · simp; omega
  · rw [List.map_append, List.map_singleton, e4, List.length_append, List.length_singleton, List.range_succ, List.map_append, List.map_singleton, kr]
    have e1 : key (T tbl x) = at0 L out.length := kx
    have e1' : key (T tbl y) = at0 L (out.length + 1) := ky
    rw [e1, e1', e3]
  · rw [List.length_append, List.length_singleton, pkl_append]; exact g1
  · intro k hk
    rcases v5s k hk with e | e
    · exact e6 k e
    · omega
  · intro p hp
    rcases List.mem_append.1 hp with h | h
    · exact e7 p h
    · rw [List.mem_singleton.1 h]; omega
  · intro p hp
    rcases List.mem_append.1 hp with h | h
    · obtain ⟨o1, o2, o3⟩ := e8 p h
      have lt := tm_lt o2
      have gt := e7 p h
      have nf : ¬ foot A (.slice (some ⟨b, 0, none⟩) n cap) p.b := fun hf => by have := qlt _ hf; omega
      have o4 : Tm w2 N p := tm_kept (tm_kept o2 c1 nf) c2 nf
      refine ⟨o1, tm_kept o4 c3' o3, fun hk => ?_⟩
      rcases v5s _ hk with e | e
      · exact o3 e
      · omega
    · rw [List.mem_singleton.1 h]
      refine ⟨okr, tm_kept r3 c35 (fun hk => by have := hrv _ hk; omega), fun hk => ?_⟩
      have lt := tm_lt r3
      rcases v5s _ hk with e | e
      · have := hrv _ e; omega
      · omega
  · refine chg_trans (chg_same (chg_same e9 c1) c2) c3' (fun k hk hs => by have := e6 k hs; omega)
set_option maxRecDepth 100000 in
set_option maxHeartbeats 2000000 in
theorem pairs_any (A b cap n N D : Nat) (tbl : List Pk) (L l : List Nat) (W : World) (h : Qp W A (.slice (some ⟨b, 0, none⟩) n cap) N D tbl l) (hn : l.length = n) (hl : n ≤ 400) (h0 : 0 < N) (hN : N ≤ 1000) (hD : D + D < 16777216) (hp : PopInv (klt tbl) (List.range tbl.length) [] l) (hL : (tbl.map key).Perm L) (hr : Rising L) :
    Calls Try.prog 36 #[.pointer (some ⟨A, 0, none⟩)] W fun e W' => ∃ rv ps, e = .returned rv ∧ W'.ownsRow W.heap.size 63 2 rv ps.length (pkl N ps) ∧ ps.map key = prs L ∧ Tbl W' N (D + D) ps (fun _ => False) ∧ Chg (foot A (.slice (some ⟨b, 0, none⟩) n cap)) W W' := by
  obtain ⟨i0, hi, hz, hs, hb⟩ := info_all info63
  have hLn : L.length = n := by rw [← hL.length_eq, List.length_map]; have := hp.1.length_eq; simp at this; omega
  have HQ := Hid.intro h
  have HL := Hid.intro (And.intro hL (And.intro hr hLn))
  have ST : Hid (PrRel A b cap n N D tbl L W (.slice none 0 0) W) := ⟨n, [], l, [], h, hn, hp, by simp, rfl, rfl, World.ownsRow_nil _ _ _ _, fun k hk => by simp [Value.ownBlock] at hk, fun p hp => by simp at hp, fun p hp => by simp at hp, chg_refl _ _⟩
  clear h hn hp hL hr hLn
  go_enter Try.func36, Try.ntmps36
  go_wp2_with fail
  go_loopw [3] (fun rv wr => PrRel A b cap n N D tbl L W rv wr) (fun rv _ => n - slen rv)
  case atStart => exact ST.out
  case round =>
    clear ST
    obtain ⟨m, out, l', ps, d1, d2, d3, e2, e3, e4, e5, e6, e7, e8, e9⟩ := hrel
    obtain ⟨c0, f0⟩ := qp_cell d1
    have LN := lenP (some ⟨b, 0, none⟩) m cap wr
    by_cases hm : m ≤ 1
    · have R : Hid (wr.ownsRow W.heap.size 63 2 u3 ps.length (pkl N ps) ∧ ps.map key = prs L ∧ Tbl wr N (D + D) ps (fun _ => False) ∧ Chg (foot A (.slice (some ⟨b, 0, none⟩) n cap)) W wr) := by
        refine ⟨own_up e5 e6, ?_, fun p hp => ⟨(e8 p hp).1, (e8 p hp).2.1, fun h => h⟩, e9⟩
        rw [prs_range, HL.out.2.2, e4, show n / 2 = ps.length by omega]
      clear d1 d2 d3 e2 e3 e4 e5 e6 e7 e8 e9
      go_wp2_with fail
      with_reducible refine LN.mono ?_
      rintro e w1 ⟨rfl, rfl⟩
      clear LN
      go_wp2_with fail
      go_ret
      exact ⟨_, ps, rfl, R.out.1, R.out.2.1, R.out.2.2.1, R.out.2.2.2⟩
    · obtain ⟨m, rfl⟩ : ∃ m', m = m' + 1 + 1 := ⟨m - 2, by omega⟩
      have N1 := nextP_any A b cap (m + 1) N D tbl _ out l' wr d1 d2 (by omega) (by omega) (by omega) d3
      have hx : g l' 0 < tbl.length := d1.2.2.2.2 _ (g_mem l' 0 (by omega))
      have hrv : Hid (∀ k, u3.ownBlock = some k → k < wr.heap.size) := fun k hk => (e5.lt k hk).2
      have D3 := Hid.intro d3
      have sl : slen u3 = ps.length := by
        rcases e5.2 with ⟨hv, h0⟩ | ⟨g9, cap8, cur, hv, _⟩
        · rw [hv, h0]; rfl
        · rw [hv]; rfl
      have SL := Hid.intro sl
      clear d3 sl
      go_wp2_with fail
      with_reducible refine LN.mono ?_
      rintro e w0 ⟨rfl, rfl⟩
      clear LN
      go_wp2_with fail
      with_reducible refine N1.mono ?_
      rintro e w1 ⟨rfl, l1, k1, k2, k3, k4⟩
      have N2 := nextP_any A b cap m N D tbl _ (out ++ [g l' 0]) l1 w1 k1 k2 (by omega) (by omega) (by omega) k3
      have hy : g l1 0 < tbl.length := k1.2.2.2.2 _ (g_mem l1 0 (by omega))
      clear N1 d1 c0 f0
      generalize g l' 0 = x at *
      go_wp2_with fail
      with_reducible refine N2.mono ?_
      rintro e w2 ⟨rfl, l2, m1, m2, m3, m4⟩
      generalize g l1 0 = y at *
      have tx := m1.2.2.2.1 _ (T_mem tbl x hx)
      have ty := m1.2.2.2.1 _ (T_mem tbl y hy)
      have WI := with_any (T tbl x) (T tbl y) N D D w2 tx.1 ty.1 tx.2.1 ty.2.1 h0 hN hD
      clear N2 tx ty
      go_wp2_with fail
      with_reducible refine WI.mono ?_
      rintro e w3 ⟨r, rfl, r1, r2, r3, r4, r5⟩
      clear WI
      have o3 : Hid ((w3.alloc (.cells #[.int .i64 (r.c : Int), pcv N r] 63)).ownsRow 0 63 2 u3 ps.length (pkl N ps)) := by
        refine World.ownsRow.alloc (own_later (own_kept (own_kept e5 k4 (fun k hk hf => ?_)) m4 (fun k hk hf => ?_)) r5) _
        · have := qp_lt HQ.out k (hf.elim (fun e => .inl e) (fun e => .inr e)); have := e6 k hk; omega
        · have := qp_lt HQ.out k (hf.elim (fun e => .inl e) (fun e => .inr e)); have := e6 k hk; omega
      have HH := Hid.intro (And.intro k3 (And.intro m3 (And.intro k4 (And.intro m4 (And.intro r1 (And.intro r2 (And.intro r3 (And.intro r4 r5))))))))
      have HE := Hid.intro (And.intro e2 (And.intro e3 (And.intro e4 (And.intro e6 (And.intro e7 (And.intro e8 e9))))))
      have hpl : ps.length ≤ 400 := by omega
      clear k1 k2 k3 k4 m3 m4 r1 r2 r3 r4 r5 e2 e3 e4 e5 e6 e7 e8 e9 D3
      unfold pav
      go_wp2_with (at_builtin; refine wpList_push _ rfl (.tmp 9) (.tmp 15) 61 rfl 63 i0 (.agg #[.int .i64 0, .slice none 0 0]) 2 32 Try.underlying61 hi hz hs hb rfl (by decide) (by decide) u3 ps.length (pkl N ps) rfl o3.out ⟨w3.heap.size, 0, none⟩ 1 1 [.int .i64 (r.c : Int), pcv N r] rfl rfl (two_cells _ _ _ _) (by intro u hu; simp at hu; rcases hu with rfl | rfl <;> rfl) (by omega) ?_)
      intro v5 w5 g1 g2 g3
      obtain ⟨k3, m3, k4, m4, r1, r2, r3, r4, r5⟩ := HH.out
      obtain ⟨e2, e3, e4, e6, e7, e8, e9⟩ := HE.out
      have R := Hid.intro (pairs_step (o := .cells #[.int .i64 (r.c : Int), pcv N r] 63) HQ.out HL.out.1 HL.out.2.1 e2 e3 e4 e6 e7 e8 e9 m1 m2 k3 m3 hx hy k4 m4 r1 r2 r3 r4 r5 g1 g2 g3 hrv.out)
      have hlen : Hid (slen v5 = ps.length + 1) := by
        show _ = _
        rcases g1.2 with ⟨hv, h0⟩ | ⟨g9, cap8, cur, hv, _⟩
        · omega
        · rw [hv]; rfl
      have e2' : Hid (ps.length + 1 ≤ n) := by show ps.length + 1 ≤ n; omega
      clear g1 g2 g3 k3 m3 k4 m4 r1 r2 r3 r4 r5 e2 e3 e4 e6 e7 e8 e9 HH HE m1 m2
      go_wp2_with fail
      go_roundw
      case rel => exact R.out
      case measure => rw [hlen.out, SL.out]; have := e2'.out; omega
end Go.Proofs.Ytabnafjndljimaa
