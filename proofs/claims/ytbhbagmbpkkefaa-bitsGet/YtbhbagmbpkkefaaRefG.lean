/-
  The reference's Get, for every reader and every length.
-/
import Derived.Test.YtbhbagmbpkkefaaRefR
import Derived.Deep.RegionWith
namespace Go.Proofs.Ytbhbagmbpkkefaa
open Go.ChangeShapes Go.WideShapes Go.ChangeAt Go.RowKit
open Go.ChangeMaps (open_string shut_string)

def agg3 (n e : Nat) : Value := .agg #[.int .u64 n, .int .i64 0, .int .i64 e]

set_option maxRecDepth 100000 in
theorem rget_arg (A : Nat) (n : Int) (W : World) (h : n < 0 ∨ 64 < n) :
    Calls Try.prog 19 #[ptr A, .int .i64 n] W fun e W' => e = .returned (agg3 0 1) ∧ Chg (fun _ => False) W W' := by
  unfold ptr
  rcases h with h | h
  · go_enter Try.func19, Try.ntmps19
    go_wp2
    exact bodyPost_ret (v := agg3 0 1) (by simp [results, Try.results19, go_sem, agg3]) rfl ⟨rfl, chg_alloc (chg_refl _ _) _⟩
  · have h0 : ¬ n < 0 := by omega
    go_enter Try.func19, Try.ntmps19
    go_wp2
    exact bodyPost_ret (v := agg3 0 1) (by simp [results, Try.results19, go_sem, agg3]) rfl ⟨rfl, chg_alloc (chg_refl _ _) _⟩

set_option maxRecDepth 100000 in
theorem rget_more (A : Nat) (v : Value) (X L a n : Nat) (W : World) (h : Wk W A v X L a) (ha : a ≤ L) (_hL : L ≤ 100000) (hn : n ≤ 64) (hm : L < a + n) :
    Calls Try.prog 19 #[ptr A, .int .i64 n] W fun e W' => e = .returned (agg3 0 2) ∧ Chg (fun _ => False) W W' := by
  obtain ⟨h1, h2, h3⟩ := h
  obtain ⟨av, cap, rfl⟩ := own_val h2
  have c0 : W.cell? ⟨A, 0, none⟩ = some (.slice av L cap) := by rw [blk_cell h1]; rfl
  have c1 : W.cell? ⟨A, 1, none⟩ = some (.int .i64 a) := by rw [blk_cell h1]; rfl
  have hlt := blk_lt h1
  have w1 : IntKind.i64.wrap ((L : Int) - a) = (L : Int) - a := by rw [IntKind.wrap_i64]; omega
  have hd : decide ((L : Int) - a < n) = true := decide_eq_true (by omega)
  unfold ptr
  go_enter Try.func19, Try.ntmps19
  go_wp2
  go_region
  go_wp2
  exact bodyPost_ret (v := agg3 0 2) (by simp [results, Try.results19, go_sem, agg3]) rfl ⟨rfl, chg_drew (chg_alloc (chg_refl _ _) _)⟩


theorem bts_row {W : World} {g L cap : Nat} {cur : Array Value} {X : Nat} (hg : Blk W g cur 5) (ht : cur.toList.take L = (bit X L).map byteV) (a n : Nat) (hm : a + n ≤ L) : Bts W (.slice (some ⟨g, a, none⟩) n cap) X a n := by
  refine ⟨_, _, rfl, fun j hj => ⟨_, rfl, ?_⟩⟩
  rw [Addr.add_lit]
  show W.cell? ⟨g, a + j, none⟩ = _
  rw [own_cell hg ht (a + j) (by rw [bit_len]; omega) (bit_len _ _), bit_get, byteV, u8_of _ (by omega)]
  unfold got
  rw [Nat.pow_one]
theorem bts_kept {W W' : World} {v : Value} {X a n : Nat} (h : Bts W v X a n) (c : Chg (fun _ => False) W W') : Bts W' v X a n := by
  obtain ⟨s, cap, rfl, hc⟩ := h
  refine ⟨s, cap, rfl, fun j hj => ?_⟩
  obtain ⟨ad, hs, hcell⟩ := hc j hj
  exact ⟨ad, hs, by rw [World.cell?_of_block (c.2.2.2.2 _ (World.block_lt_of_cell? _ _ hcell) (fun h => h))]; exact hcell⟩

/-- What stands at the call of number: the slice of the bits that are asked for. -/
theorem cut_bits {W : World} {v : Value} {X L : Nat} (h : W.ownsRow 0 5 1 v L ((bit X L).map byteV)) : ∃ av cap, v = .slice av L cap ∧ L ≤ cap ∧ cap ≤ 9223372036854775807 ∧
    ∀ a n, a + n ≤ L → Bts W (.slice (if cap = a then av else av.map (·.add a)) n (cap - a)) X a n := by
  rcases h.2 with ⟨rfl, rfl⟩ | ⟨g, cap, cur, rfl, _, hgb, hcap, hcm, hcs, ht⟩
  · refine ⟨none, 0, rfl, Nat.le_refl _, by omega, fun a n hm => ⟨_, _, rfl, fun j hj => by omega⟩⟩
  · unfold maxLen at hcm
    refine ⟨_, cap, rfl, hcap, by omega, fun a n hm => ?_⟩
    by_cases hca : cap = a
    · exact ⟨_, _, rfl, fun j hj => by omega⟩
    · rw [if_neg hca]
      have := bts_row (cap := cap - a) hgb (by simpa using ht) a n hm
      simpa [Addr.add_lit] using this

theorem chg_get (W : World) (A : Nat) (x : Value) (o : Obj) : Chg (fun k => k = A) W ((W.setCell ⟨A, 1, none⟩ x).alloc o).drew.drew :=
  chg_drew (chg_drew (chg_alloc (chg_set (S := fun k => k = A) (chg_refl _ _) _ _ (fun _ => rfl)) _))

set_option maxRecDepth 100000 in
set_option maxHeartbeats 1000000 in
theorem rget_ok (A : Nat) (v : Value) (X L a n : Nat) (W : World) (h : Wk W A v X L a) (hL : L ≤ 100000) (hn : n ≤ 64) (hm : a + n ≤ L) :
    Calls Try.prog 19 #[ptr A, .int .i64 n] W fun e W' => e = .returned (agg3 (got X a n) 0) ∧ Wk W' A v X L (a + n) ∧ Chg (· = A) W W' := by
  obtain ⟨h1, h2, h3⟩ := h
  obtain ⟨av, cap, rfl, hcap, hcm, hbts⟩ := cut_bits h2
  have hbt := hbts a n hm
  have c0 : W.cell? ⟨A, 0, none⟩ = some (.slice av L cap) := by rw [blk_cell h1]; rfl
  have c1 : W.cell? ⟨A, 1, none⟩ = some (.int .i64 a) := by rw [blk_cell h1]; rfl
  have hlt := blk_lt h1
  have f1 := blk_free h1 1
  have w1 : IntKind.i64.wrap ((L : Int) - a) = (L : Int) - a := by rw [IntKind.wrap_i64]; omega
  have w2 : IntKind.i64.wrap ((a : Int) + n) = (a : Int) + n := by rw [IntKind.wrap_i64]; omega
  have hd : decide ((L : Int) - a < n) = false := decide_eq_false (by omega)
  have s0 : (0 : Int) ≤ a := by omega
  have s1 : (a : Int) ≤ (a : Int) + n := by omega
  have s2 : (a : Int) + n ≤ cap := by omega
  have s3 : ((a : Int) + n).toNat = a + n := by omega
  clear hbts
  by_cases hca : cap = a
  · have hca' := hca.symm
    subst hca'
    simp only [if_true, Nat.sub_self] at hbt
    have NM := fun (W' : World) (c : Chg (fun _ => False) W W') => number_any _ X a n W' hn (bts_kept hbt c)
    have HH := Hid.intro (And.intro h1 (And.intro h2 h3))
    clear hbt h1 h2 h3
    generalize got X a n = z at *
    unfold ptr
    go_enter Try.func19, Try.ntmps19
    go_wp2
    go_region
    go_wp2
    go_region_with (go_at_call 31; refine (NM _ (chg_drew (chg_drew (chg_alloc (chg_refl _ _) _)))).mono ?_; rintro e w5 ⟨rfl, rfl⟩)
    all_goals
      go_wp2
      have hch : Chg (· = A) W ((W.setCell ⟨A, 1, none⟩ (.int .i64 ((a : Int) + n))).alloc (.cells #[.int .u64 (z : Int), .int .i64 0, .int .i64 0] 44)).drew.drew := chg_get W A _ _
      refine bodyPost_ret (v := agg3 z 0) (by simp [results, Try.results19, go_sem, agg3]) rfl ⟨rfl, ⟨?_, own_kept HH.out.2.1 hch (fun k hk e => HH.out.2.2 (by rw [hk, e])), HH.out.2.2⟩, hch⟩
      exact blk_drew (blk_drew (blk_alloc (by simpa using blk_set HH.out.1 1 (.int .i64 ((a : Int) + n))) _))
  · simp only [hca, if_false] at hbt
    have NM := fun (W' : World) (c : Chg (fun _ => False) W W') => number_any _ X a n W' hn (bts_kept hbt c)
    have HH := Hid.intro (And.intro h1 (And.intro h2 h3))
    clear hbt h1 h2 h3
    generalize got X a n = z at *
    unfold ptr
    go_enter Try.func19, Try.ntmps19
    go_wp2
    go_region
    go_wp2
    go_region_with (go_at_call 31; refine (NM _ (chg_drew (chg_drew (chg_alloc (chg_refl _ _) _)))).mono ?_; rintro e w5 ⟨rfl, rfl⟩)
    all_goals
      go_wp2
      have hch : Chg (· = A) W ((W.setCell ⟨A, 1, none⟩ (.int .i64 ((a : Int) + n))).alloc (.cells #[.int .u64 (z : Int), .int .i64 0, .int .i64 0] 44)).drew.drew := chg_get W A _ _
      refine bodyPost_ret (v := agg3 z 0) (by simp [results, Try.results19, go_sem, agg3]) rfl ⟨rfl, ⟨?_, own_kept HH.out.2.1 hch (fun k hk e => HH.out.2.2 (by rw [hk, e])), HH.out.2.2⟩, hch⟩
      exact blk_drew (blk_drew (blk_alloc (by simpa using blk_set HH.out.1 1 (.int .i64 ((a : Int) + n))) _))


theorem rget_any (A : Nat) (v : Value) (X L a : Nat) (n : Int) (W : World) (h : Wk W A v X L a) (ha : a ≤ L) (hL : L ≤ 100000) :
    Calls Try.prog 19 #[ptr A, .int .i64 n] W fun e W' => e = .returned (agg3 (got X a (gk L a n)) (ge L a n)) ∧ Wk W' A v X L (a + gk L a n) ∧ Chg (· = A) W W' := by
  by_cases h1 : n < 0 ∨ 64 < n
  · have e1 : ge L a n = 1 := by unfold ge; rw [if_pos h1]
    have e2 : gk L a n = 0 := by unfold gk; rw [e1]; rfl
    rw [e1, e2, got_zero]
    refine (rget_arg A n W h1).mono ?_
    rintro e w1 ⟨rfl, k⟩
    exact ⟨rfl, ⟨blk_kept h.1 k (fun h => h), own_kept h.2.1 k (fun _ _ h => h), h.2.2⟩, chg_mono k (fun _ _ h => h.elim)⟩
  · obtain ⟨m, rfl⟩ := Int.eq_ofNat_of_zero_le (show 0 ≤ n by omega)
    by_cases h2 : L < a + m
    · have e1 : ge L a m = 2 := by unfold ge; rw [if_neg h1, if_pos (by omega)]
      have e2 : gk L a m = 0 := by unfold gk; rw [e1]; rfl
      rw [e1, e2, got_zero]
      refine (rget_more A v X L a m W h ha hL (by omega) h2).mono ?_
      rintro e w1 ⟨rfl, k⟩
      exact ⟨rfl, ⟨blk_kept h.1 k (fun h => h), own_kept h.2.1 k (fun _ _ h => h), h.2.2⟩, chg_mono k (fun _ _ h => h.elim)⟩
    · have e1 : ge L a m = 0 := by unfold ge; rw [if_neg h1, if_neg (by omega)]
      have e2 : gk L a m = m := by unfold gk; rw [e1]; rfl
      rw [e1, e2]
      exact rget_ok A v X L a m W h hL (by omega) (by omega)
end Go.Proofs.Ytbhbagmbpkkefaa
