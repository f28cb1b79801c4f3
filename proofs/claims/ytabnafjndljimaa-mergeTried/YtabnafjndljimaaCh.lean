/-
  The cheapest packages of the last level, level by level.
-/
import Derived.Test.YtabnafjndljimaaPp
import Derived.Test.YtabnafjndljimaaPs
import Derived.Deep.RegionWith
namespace Go.Proofs.Ytabnafjndljimaa
open Go.ChangeShapes Go.WideShapes Go.ChangeAt Go.RowKit
open Go.ChangeMaps (open_string shut_string)

theorem pk_mono {N D E : Nat} {p : Pk} (h : PkOk N D p) (hE : D ≤ E) : PkOk N E p :=
  ⟨h.1, fun t ht => Nat.le_trans (h.2.1 t ht) hE, Nat.le_trans h.2.2 (Nat.mul_le_mul_left _ hE)⟩
theorem mrg_perm (A B : List Nat) (hA : Rising A) (hB : Rising B) : (mrg A B).Perm (A ++ B) := by
  obtain ⟨a, h, p⟩ := mrgF_perm _ A B hA hB (Nat.le_refl _) (A.length + B.length) (Nat.le_refl _)
  have hl := mrgF_len (A.length + B.length) A B (Nat.le_refl _)
  rw [List.take_of_length_le (by omega), List.take_of_length_le (by have := h.2.1; have := h.2.2.1; have := h.1; omega), List.take_of_length_le (by have := h.2.2.1; have := h.1; omega)] at p
  exact p
theorem TL_two (s : List Nat) : ∀ d, (TL s d).length ≤ 2 * s.length
  | 0 => by simp [TL]
  | d + 1 => by rw [TL_len]; have := TL_two s d; omega
def Lev (s : List Nat) (N : Nat) (W : World) (pv : Value) (i : Nat) (wr : World) : Prop :=
  ∃ (A b cap n : Nat) (l : List Nat) (tbl : List Pk), pv = .pointer (some ⟨A, 0, none⟩) ∧ Qp wr A (.slice (some ⟨b, 0, none⟩) n cap) N (2 ^ i) tbl l ∧ l.length = n ∧ tbl.length = n ∧ PopInv (klt tbl) (List.range tbl.length) [] l ∧ (tbl.map key).Perm (TL s (i + 1)) ∧ W.heap.size ≤ A ∧ W.heap.size ≤ b ∧ Below W.heap.size W wr
def ChRel1 (s : List Nat) (N limit : Nat) (W : World) (pv sv : Value) (wr : World) : Prop :=
  ∃ i : Nat, i + 1 ≤ limit ∧ sv = .int .i64 i ∧ Lev s N W pv i wr
def ChRel2 (L : List Nat) (A b cap n N D B : Nat) (tbl : List Pk) (W : World) (sv : Value) (wr : World) : Prop :=
  ∃ (j m : Nat) (out l : List Nat) (pk : Pk), j + 3 ≤ 2 * N ∧ sv = .int .i64 j ∧ Qp wr A (.slice (some ⟨b, 0, none⟩) m cap) N D tbl l ∧ l.length = m ∧ PopInv (klt tbl) (List.range tbl.length) out l ∧ out.length = j + 1 ∧ out.length + m = n ∧
    Blk wr B #[.int .i64 (pk.c : Int), pcv N pk] 63 ∧ PkOk N ((j + 1) * D) pk ∧ Tm wr N pk ∧ key pk = pre L (j + 1) ∧ ¬ foot A (.slice (some ⟨b, 0, none⟩) n cap) pk.b ∧ pk.b ≠ B ∧ (j = 0 ∨ W.heap.size ≤ pk.b) ∧ Below W.heap.size W wr
theorem lev_start {N : Nat} {ps : List Pk} {s : List Nat} {W w1 : World} {A b cap : Nat} {l : List Nat} (hs : (ps.map key).Perm s) (hr : Rising s) (hl : ps.length = N)
    (q : Qp w1 A (.slice (some ⟨b, 0, none⟩) (N + 0) cap) N 1 (ps ++ []) l) (h1 : l.length = N + 0) (h2 : PopInv (klt (ps ++ [])) (List.range (ps ++ []).length) [] l) (hA : W.heap.size ≤ A) (hb : W.heap.size ≤ b) (B : Below W.heap.size W w1) :
    Lev s N W (.pointer (some ⟨A, 0, none⟩)) 0 w1 := by
  refine ⟨A, b, cap, N + 0, l, ps ++ [], rfl, q, h1, by simp [hl], h2, ?_, hA, hb, B⟩
  show ((ps ++ []).map key).Perm (mrg s (prs (TL s 0)))
  rw [List.append_nil]
  refine hs.trans ?_
  have := mrg_perm s (prs (TL s 0)) hr List.Pairwise.nil
  simp [TL, prs] at this
  exact this.symm
theorem lev_step {N i : Nat} {ps qs : List Pk} {s : List Nat} {W w3 : World} {A b cap : Nat} {l : List Nat} (hs : (ps.map key).Perm s) (hr : Rising s) (hl : ps.length = N) (hq : qs.map key = prs (TL s (i + 1)))
    (q : Qp w3 A (.slice (some ⟨b, 0, none⟩) (N + qs.length) cap) N (2 ^ (i + 1)) (ps ++ qs) l) (h1 : l.length = N + qs.length) (h2 : PopInv (klt (ps ++ qs)) (List.range (ps ++ qs).length) [] l) (hA : W.heap.size ≤ A) (hb : W.heap.size ≤ b) (B : Below W.heap.size W w3) :
    Lev s N W (.pointer (some ⟨A, 0, none⟩)) (i + 1) w3 := by
  refine ⟨A, b, cap, N + qs.length, l, ps ++ qs, rfl, q, h1, by simp [hl], h2, ?_, hA, hb, B⟩
  show ((ps ++ qs).map key).Perm (mrg s (prs (TL s (i + 1))))
  rw [List.map_append, hq]
  exact (hs.append_right _).trans (mrg_perm s _ hr (prs_rising _ (TL_rising s hr _))).symm
/-- One more package taken. -/
theorem take_step {L : List Nat} {A b cap n m N D B j : Nat} {tbl : List Pk} {out l1 : List Nat} {pk r : Pk} {W wr w1 w2 : World} {x : Nat}
    (hL : (tbl.map key).Perm L) (hr : Rising L) (hnL : L.length = n) (e1 : out.length = j + 1) (e2 : out.length + (m + 1) = n) (e3 : PkOk N ((j + 1) * D) pk) (e4 : key pk = pre L (j + 1)) (b0 : Below W.heap.size W wr) (hB : Blk wr B #[.int .i64 (pk.c : Int), pcv N pk] 63)
    (hBf : ¬ foot A (.slice (some ⟨b, 0, none⟩) n cap) B) (hBt : ∀ p ∈ tbl, p.b ≠ B) (hWB : W.heap.size ≤ B) (hA : W.heap.size ≤ A) (hb : W.heap.size ≤ b) (hx : x < tbl.length) (hj : j + 4 ≤ 2 * N)
    (k1 : Qp w1 A (.slice (some ⟨b, 0, none⟩) m cap) N D tbl l1) (k2 : l1.length = m) (k3 : PopInv (klt tbl) (List.range tbl.length) (out ++ [x]) l1) (k4 : Chg (foot A (.slice (some ⟨b, 0, none⟩) n cap)) wr w1)
    (r1 : r.c = pk.c + (T tbl x).c) (r2 : r.ts = List.zipWith (· + ·) pk.ts (T tbl x).ts) (r3 : Tm w2 N r) (r4 : w1.heap.size ≤ r.b) (r5 : Below w1.heap.size w1 w2) :
    ChRel2 L A b cap n N D B tbl W (.int .i64 ((j + 1 : Nat) : Int)) ((w2.setCell ⟨B, 0, none⟩ (.int .i64 (r.c : Int))).setCell ⟨B, 1, none⟩ (pcv N r)) := by
  have tx := k1.2.2.2.1 _ (T_mem tbl x hx)
  obtain ⟨kr, okr⟩ := key_with e3 tx.1 r1 r2
  have kx := pop_key k3 hL hr
  have hB1 := blk_kept hB k4 hBf
  have hB2 : Blk w2 B #[.int .i64 (pk.c : Int), pcv N pk] 63 := blk_below hB1 r5 (blk_lt hB1)
  have cc : Chg (· = B) w2 ((w2.setCell ⟨B, 0, none⟩ (.int .i64 (r.c : Int))).setCell ⟨B, 1, none⟩ (pcv N r)) := chg_in (chg_in (chg_refl _ _) _ _) _ _
  have c12 : Chg (· = B) w1 ((w2.setCell ⟨B, 0, none⟩ (.int .i64 (r.c : Int))).setCell ⟨B, 1, none⟩ (pcv N r)) := chg_trans (chg_of r5) cc (fun k _ h => h)
  have rB : r.b ≠ B := fun e => by have := blk_lt hB1; omega
  have qlt := qp_lt k1
  refine ⟨j + 1, m, out ++ [x], l1, r, by omega, rfl, ?_, k2, k3, by simp [e1], by simp; omega, ?_, ?_, ?_, ?_, ?_, rB, .inr ?_, ?_⟩
  · exact qp_kept k1 c12 (fun k hk e => hBf (by rw [← e]; exact hk.elim (fun e => .inl e) (fun e => .inr e))) (fun p hp e => hBt p hp e)
  · have := blk_set (blk_set hB2 0 (.int .i64 (r.c : Int))) 1 (pcv N r)
    simpa using this
  · rw [show (j + 1 + 1) * D = (j + 1) * D + D by rw [Nat.add_mul (j + 1) 1 D]; omega]; exact okr
  · exact tm_kept r3 cc rB
  · rw [kr, e4, pre_succ L (j + 1) (by omega)]
    have : key (T tbl x) = at0 L out.length := kx
    rw [this, e1]
  · intro hf
    have := qlt _ (hf.elim (fun e => .inl e) (fun e => .inr e)); omega
  · have := chg_size k4; have := b0.size; omega
  · have b1 : Below W.heap.size W w1 := b0.trans (chg_below k4 b0.size (fun k hk => hk.elim (fun e => by omega) (fun e => by simp [Value.ownBlock] at e; omega)))
    exact b1.trans (chg_below c12 b1.size (fun k hk => by omega))
set_option maxRecDepth 100000 in
set_option maxHeartbeats 4000000 in
theorem cheapest_any (a1 : Option Addr) (c1 N limit : Nat) (ps : List Pk) (s : List Nat) (W : World) (r1 : RK W a1 N c1 N ps) (hT : Tbl W N 1 ps (fun _ => False)) (h2 : 2 ≤ N) (hN : N ≤ 65) (hl1 : 1 ≤ limit) (hl : limit ≤ 15)
    (hs : (ps.map key).Perm s) (hr : Rising s) (hroom : 2 * N - 2 ≤ (TL s limit).length) :
    Calls Try.prog 29 #[.slice a1 N c1, .int .i64 (limit : Int)] W fun e W' => ∃ pk : Pk, e = .returned (pcv N pk) ∧ PkOk N 16777215 pk ∧ Tm W' N pk ∧ key pk = pre (TL s limit) (2 * N - 2) ∧ W.heap.size ≤ pk.b ∧ Below W.heap.size W W' := by
  have Q1 := queueOf_any a1 none N 0 c1 0 N 1 ps [] W r1 ⟨rfl, fun _ => ⟨rfl, rfl⟩, fun x hx => by cases hx⟩ (by rw [List.append_nil]; exact hT) (by omega) (by omega) (by omega) (by omega)
  have hln := r1.1
  have HR := Hid.intro r1
  have HT := Hid.intro hT
  have HS := Hid.intro (And.intro hs (And.intro hr (And.intro hroom hln)))
  clear r1 hT hs hr hroom hln
  go_enter Try.func29, Try.ntmps29
  go_wp2_with fail
  with_reducible refine Q1.mono ?_
  rintro e w1 ⟨A, b, cap, l, rfl, k1, k2, k3, k4, k5, k6⟩
  have ST := Hid.intro (lev_start HS.out.1 HS.out.2.1 HS.out.2.2.2 k1 k2 k3 k4 k5 k6)
  clear Q1 k1 k2 k3 k4 k5 k6
  have hl1i : (limit : Int) - 1 = ((limit - 1 : Nat) : Int) := by omega
  obtain ⟨q, hq⟩ : ∃ q, limit - 1 = q := ⟨_, rfl⟩
  rw [hq] at hl1i
  have hq15 : q ≤ 14 := by omega
  have HQL : Hid (q + 1 = limit) := by show q + 1 = limit; omega
  clear hq
  go_wp2_with fail
  try simp only [hl1i]
  clear hl1i
  go_loopw [5, 11] (fun pv sv wr => ChRel1 s N limit W pv sv wr) (fun _ sv _ => limit - 1 - (intOf sv).toNat)
  case atStart => exact ⟨0, by omega, rfl, ST.out⟩
  case round =>
    clear ST
    obtain ⟨i, hi, rfl, A, b, cap, n, l, tbl, rfl, d1, d2, d3, d4, d5, d6, d7, d8⟩ := hrel
    have hnL : n = (TL s (i + 1)).length := by rw [← d3, ← d5.length_eq, List.length_map]
    have hn2 : n ≤ 130 := by have := TL_two s (i + 1); have := HS.out.1.length_eq; rw [List.length_map, HS.out.2.2.2] at this; omega
    have hpow : 2 ^ i ≤ 16384 := Nat.le_trans (Nat.pow_le_pow_right (by omega) (by omega : i ≤ 14)) (by decide)
    by_cases hlt : i < q
    · have PR := pairs_any A b cap n N (2 ^ i) tbl (TL s (i + 1)) l wr d1 d2 (by omega) (by omega) (by omega) (by omega) d4 d5 (TL_rising s HS.out.2.1 _)
      have hql : i + 2 ≤ limit := by have := HQL.out; omega
      have HD := Hid.intro (And.intro d6 (And.intro d7 d8))
      clear d1 d2 d3 d4 d5 d6 d7 d8 hnL
      go_wp2_with fail
      with_reducible refine PR.mono ?_
      rintro e w2 ⟨rv, qs, rfl, m1, m2, m3, m4⟩
      obtain ⟨d6, d7, d8⟩ := HD.out
      have b2 : Below W.heap.size W w2 := d8.trans (chg_below m4 d8.size (fun k hk => hk.elim (fun e => by omega) (fun e => by simp [Value.ownBlock] at e; omega)))
      have hql2 : qs.length ≤ 130 := by have e := congrArg List.length m2; rw [List.length_map, prs_len] at e; have := TL_two s (i + 1); have := HS.out.1.length_eq; rw [List.length_map, HS.out.2.2.2] at this; omega
      obtain ⟨a2, c2, hrv, rk2⟩ : ∃ a2 c2, rv = .slice a2 qs.length c2 ∧ RK w2 a2 qs.length c2 N qs := by
        rcases m1.2 with ⟨hv, hn⟩ | ⟨g9, c9, cur, hv, _⟩
        · exact ⟨none, 0, by rw [hv, hn], rfl, fun _ => ⟨rfl, hn⟩, fun x hx => by cases hx⟩
        · exact ⟨_, c9, hv, rfl, fun h => by (have h' : some _ = none := h; cases h'), fun x hx j u hu => by
            injection hx with hx
            subst hx
            exact m1.cells (g := g9) (by rw [hv]; rfl) j u hu⟩
      subst hrv
      have pw : 2 ^ (i + 1) = 2 ^ i + 2 ^ i := by rw [Nat.pow_succ]; omega
      have TT : Tbl w2 N (2 ^ (i + 1)) (ps ++ qs) (fun _ => False) := fun p hp => by
        rcases List.mem_append.1 hp with h | h
        · have t := HT.out p h
          exact ⟨pk_mono t.1 Nat.one_le_two_pow, own_later t.2.1 b2, fun h => h⟩
        · have t := m3 p h
          rw [pw]; exact t
      have Q2 := queueOf_any a1 a2 N qs.length c1 c2 N (2 ^ (i + 1)) ps qs w2 (rk_below HR.out b2) rk2 TT (by omega) (by omega) (by omega) (by omega)
      have M2 := Hid.intro m2
      have B2 := Hid.intro b2
      clear PR m1 m2 m3 m4 b2 rk2 TT d6 d7 d8 HD pw hpow
      go_wp2_with fail
      with_reducible refine Q2.mono ?_
      rintro e w3 ⟨A3, b3, cap3, l3, rfl, y1, y2, y3, y4, y5, y6⟩
      have sz2 := B2.out.size
      have R := Hid.intro (lev_step (W := W) HS.out.1 HS.out.2.1 HS.out.2.2.2 M2.out y1 y2 y3 (by omega) (by omega) (B2.out.trans (y6.mono sz2)))
      clear Q2 y1 y2 y3 y4 y5 y6 sz2
      go_wp2_with fail
      go_roundw
      case rel => exact ⟨i + 1, hql, by go_num, R.out⟩
      case measure => simp [intOf]; omega
    · obtain rfl : i = q := by have := HQL.out; omega
      have hroom : 2 * N - 2 ≤ n := by rw [hnL]; have := HS.out.2.2.1; rw [← HQL.out] at this; exact this
      obtain ⟨n1, hn1⟩ : ∃ n1, n = n1 + 1 := ⟨n - 1, by omega⟩
      have d1' := d1
      rw [hn1] at d1
      have NX := nextP_any A b cap n1 N (2 ^ i) tbl _ [] l wr d1 (by omega) (by omega) (by omega) (by omega) d4
      have hx : g l 0 < tbl.length := d1.2.2.2.2 _ (g_mem l 0 (by omega))
      have qlt := Hid.intro (qp_lt d1)
      have HT2 := Hid.intro d1.2.2.2.1
      have HD := Hid.intro (And.intro d3 (And.intro d5 (And.intro d6 (And.intro d7 (And.intro d8 hnL)))))
      have hNi : (2 : Int) * (N : Int) - 3 = ((2 * N - 3 : Nat) : Int) := by omega
      obtain ⟨z, hz⟩ : ∃ z, 2 * N - 3 = z := ⟨_, rfl⟩
      rw [hz] at hNi
      have HZ : Hid (z + 3 = 2 * N) := by show z + 3 = 2 * N; omega
      have hz200 : z ≤ 200 := by omega
      have HPW := Hid.intro hpow
      have HN1 := Hid.intro hn1
      clear d1 d1' d2 d3 d4 d5 d6 d7 d8 hnL hlt hz hpow hn1
      go_wp2_with fail
      with_reducible refine NX.mono ?_
      rintro e w2 ⟨rfl, l2, m1, m2, m3, m4⟩
      have c0 : ∀ u v, (w2.alloc (.cells #[u, v] 63)).cell? ⟨w2.heap.size, 0, none⟩ = some u := fun u v => by rw [blk_cell (blk_new _ _ _)]; rfl
      have ST : Hid (ChRel2 (TL s (i + 1)) A b cap n N (2 ^ i) w2.heap.size tbl W (.int .i64 0) (w2.alloc (.cells #[.int .i64 ((T tbl (g l 0)).c : Int), pcv N (T tbl (g l 0))] 63))) := by
        obtain ⟨d3, d5, d6, d7, d8, hnL⟩ := HD.out
        have tx := m1.2.2.2.1 _ (T_mem tbl _ hx)
        have kx : K tbl (g l 0) = at0 (TL s (i + 1)) 0 := pop_key m3 d5 (TL_rising s HS.out.2.1 _)
        have b2 : Below W.heap.size W w2 := d8.trans (chg_below m4 d8.size (fun k hk => hk.elim (fun e => by omega) (fun e => by simp [Value.ownBlock] at e; omega)))
        refine ⟨0, n1, [] ++ [g l 0], l2, T tbl (g l 0), by omega, rfl, qp_no m1 (chg_alloc (chg_refl _ _) _), m2, m3, rfl, by simp; have := HN1.out; omega, blk_new _ _ _, by simpa using tx.1, World.ownsRow.alloc tx.2.1 _, ?_, fun hf => tx.2.2 (hf.elim (fun e => .inl e) (fun e => .inr e)), fun e => by have := tm_lt tx.2.1; omega, .inl rfl, b2.alloc b2.size _⟩
        rw [Nat.zero_add, pre_succ _ 0 (by rw [← hnL]; omega), pre_zero, Nat.zero_add]; exact kx
      have BF : Hid (¬ foot A (.slice (some ⟨b, 0, none⟩) n cap) w2.heap.size) := fun hf => by
        have := qlt.out _ (hf.elim (fun e => .inl e) (fun e => .inr e)); have := chg_size m4; omega
      have BT : Hid (∀ p ∈ tbl, p.b ≠ w2.heap.size) := fun p hp e => by have := tm_lt (m1.2.2.2.1 p hp).2.1; omega
      have BW : Hid (W.heap.size ≤ w2.heap.size) := Nat.le_trans HD.out.2.2.2.2.1.size (chg_size m4)
      clear NX m1 m2 m3 m4 c0
      unfold pav pcv
      go_wp2_with fail
      try simp only [hNi]
      clear hNi
      generalize hBB : w2.heap.size = B at *
      clear hBB
      go_loopw [24] (fun sv wr => ChRel2 (TL s (i + 1)) A b cap n N (2 ^ i) B tbl W sv wr) (fun sv _ => z - (intOf sv).toNat)
      case atStart => exact ST.out
      case round =>
        clear ST
        obtain ⟨j, m, out, l4, pk, hj, rfl, e1, e2, e3, e4, e5, e6, e7, e8, e9, f1, f2, f4, f3⟩ := hrel
        obtain ⟨d3, d5, d6, d7, d8, hnL⟩ := HD.out
        by_cases hlt : j < z
        · have hj4 : j + 4 ≤ 2 * N := by have := HZ.out; omega
          obtain ⟨m', hm'⟩ : ∃ m', m = m' + 1 := ⟨m - 1, by have := HZ.out; omega⟩
          subst hm'
          have hxx : g l4 0 < tbl.length := e1.2.2.2.2 _ (g_mem l4 0 (by omega))
          have NX := nextP_any A b cap m' N (2 ^ i) tbl _ out l4 wr.drew (qp_no e1 (drew_chg wr)) e2 (by omega) (by omega) (by have := HPW.out; omega) e3
          have jd : (j + 1) * 2 ^ i + 2 ^ i < 16777216 := by
            have := HPW.out
            have : (j + 1) * 2 ^ i ≤ 201 * 16384 := Nat.mul_le_mul (by omega) this
            omega
          have WI : Hid (∀ w1 l1, Qp w1 A (.slice (some ⟨b, 0, none⟩) m' cap) N (2 ^ i) tbl l1 → Chg (foot A (.slice (some ⟨b, 0, none⟩) (m' + 1) cap)) wr.drew w1 → Calls Try.prog 38 #[pav N pk, pav N (T tbl (g l4 0))] w1 fun e W' => ∃ r : Pk, e = .returned (pav N r) ∧ r.c = pk.c + (T tbl (g l4 0)).c ∧ r.ts = List.zipWith (· + ·) pk.ts (T tbl (g l4 0)).ts ∧ Tm W' N r ∧ w1.heap.size ≤ r.b ∧ Below w1.heap.size w1 W') := fun w1 l1 q1 ch => by
            have tx := q1.2.2.2.1 _ (T_mem tbl _ hxx)
            exact with_any pk (T tbl (g l4 0)) N _ _ w1 e7 tx.1 (tm_kept e8 (chg_trans (chg_drew (chg_refl _ _)) ch (fun _ _ h => h)) (fun hf => f1 (hf.elim (fun e => .inl e) (fun e => .inr e)))) tx.2.1 (by omega) (by omega) jd
          have c0 : wr.cell? ⟨B, 0, none⟩ = some (.int .i64 (pk.c : Int)) := by rw [blk_cell e6]; rfl
          have c1 : wr.cell? ⟨B, 1, none⟩ = some (pcv N pk) := by rw [blk_cell e6]; rfl
          have KB : Hid (∀ w1, Chg (foot A (.slice (some ⟨b, 0, none⟩) (m' + 1) cap)) wr.drew w1 → Blk w1 B #[.int .i64 (pk.c : Int), pcv N pk] 63) := fun w1 ch =>
            blk_kept (blk_drew e6) ch (fun hf => BF.out (hf.elim (fun e => .inl e) (fun e => .inr e)))
          have KC : Hid (∀ w1 w2, Chg (foot A (.slice (some ⟨b, 0, none⟩) (m' + 1) cap)) wr.drew w1 → Below w1.heap.size w1 w2 → (w2.cell? ⟨B, 0, none⟩ = some (.int .i64 (pk.c : Int)) ∧ w2.cell? ⟨B, 1, none⟩ = some (pcv N pk) ∧ w2.frozen? ⟨B, 0, none⟩ = false ∧ w2.frozen? ⟨B, 1, none⟩ = false)) := fun w1 w2 ch bl => by
            have hb := KB.out w1 ch
            have hb2 := blk_below hb bl (blk_lt hb)
            exact ⟨by rw [blk_cell hb2]; rfl, by rw [blk_cell hb2]; rfl, blk_free hb2 0, blk_free hb2 1⟩
          have FIN : Hid (∀ w1 w2 l1 r, Qp w1 A (.slice (some ⟨b, 0, none⟩) m' cap) N (2 ^ i) tbl l1 → l1.length = m' → PopInv (klt tbl) (List.range tbl.length) (out ++ [g l4 0]) l1 → Chg (foot A (.slice (some ⟨b, 0, none⟩) (m' + 1) cap)) wr.drew w1 → r.c = pk.c + (T tbl (g l4 0)).c → r.ts = List.zipWith (· + ·) pk.ts (T tbl (g l4 0)).ts → Tm w2 N r → w1.heap.size ≤ r.b → Below w1.heap.size w1 w2 →
              ChRel2 (TL s (i + 1)) A b cap n N (2 ^ i) B tbl W (.int .i64 ((j + 1 : Nat) : Int)) ((w2.setCell ⟨B, 0, none⟩ (.int .i64 (r.c : Int))).setCell ⟨B, 1, none⟩ (pcv N r))) := fun w1 w2 l1 r q1 q2 q3 ch r1 r2 r3 r4 r5 =>
            take_step d5 (TL_rising s HS.out.2.1 _) hnL.symm e4 e5 e7 e9 f3 e6 BF.out BT.out BW.out d6 d7 hxx hj4 q1 q2 q3 (chg_trans (chg_drew (chg_refl _ _)) (chg_mono ch (fun k _ hf => hf.elim (fun e => .inl e) (fun e => .inr e))) (fun _ _ h => h)) r1 r2 r3 r4 r5
          unfold pav at NX WI
          unfold pcv at c1 NX WI KC FIN
          have hz' : (j : Int) < (z : Int) := by omega
          have hjz := Hid.intro hlt
          clear e1 e2 e3 e4 e5 e6 e7 e8 e9 f1 f2 f3 f4 d3 d5 d6 d7 d8 hnL KB jd
          generalize g l4 0 = y at *
          generalize (T tbl y).c = yc at *
          generalize (T tbl y).b = yb at *
          generalize (T tbl y).cap = yp at *
          generalize (T tbl y).ts = yt at *
          go_wp2_with fail
          go_region_with (first
            | (go_at_call 37
               with_reducible refine NX.mono ?_
               rintro e w5 ⟨rfl, l5, k1, k2, k3, k4⟩
               obtain ⟨z0, z1, _, _⟩ := KC.out w5 w5 k4 (Below.refl _ _))
            | (go_at_call 38
               with_reducible refine (WI.out w5 l5 k1 k4).mono ?_
               rintro e w6 ⟨r, rfl, r1, r2, r3, r4, r5⟩
               obtain ⟨v0, v1, v2, v3⟩ := KC.out w5 w6 k4 r5
               have R := Hid.intro (FIN.out w5 w6 l5 r k1 k2 k3 k4 r1 r2 r3 r4 r5)
               clear r1 r2 r3 r4 r5))
          all_goals
            clear NX WI KC FIN
            go_wp2_with fail
            go_roundw
            case rel => exact R.out
            case measure => have := hjz.out; simp [intOf]; omega
        · obtain rfl : j = z := by have := HZ.out; omega
          have c0 : wr.cell? ⟨B, 1, none⟩ = some (pcv N pk) := by rw [blk_cell e6]; rfl
          have R : Hid (PkOk N 16777215 pk ∧ Tm wr N pk ∧ key pk = pre (TL s limit) (2 * N - 2) ∧ W.heap.size ≤ pk.b ∧ Below W.heap.size W wr) := by
            refine ⟨pk_mono e7 ?_, e8, ?_, f4.elim (fun e => by have := HZ.out; omega) id, f3⟩
            · have := HPW.out
              have : (j + 1) * 2 ^ i ≤ 201 * 16384 := Nat.mul_le_mul (by omega) this
              omega
            · rw [← HQL.out, show 2 * N - 2 = j + 1 by have := HZ.out; omega]; exact e9
          clear e1 e2 e3 e4 e5 e6 e7 e8 e9 f1 f2 f3 f4 d3 d5 d6 d7 d8 hnL
          unfold pcv at c0
          go_wp2_with fail
          go_ret
          exact ⟨pk, rfl, R.out.1, R.out.2.1, R.out.2.2.1, R.out.2.2.2.1, R.out.2.2.2.2⟩
end Go.Proofs.Ytabnafjndljimaa
