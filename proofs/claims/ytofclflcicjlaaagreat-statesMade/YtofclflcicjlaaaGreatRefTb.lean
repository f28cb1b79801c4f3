/-
  The reference's FromEnd where there is a mark; its Get, for every tail and every length.
-/
import Derived.Test.YtofclflcicjlaaaGreatRefSb
import Derived.Test.YtofclflcicjlaaaGreatLy
import Derived.Test.YtofclflcicjlaaaGreatSc
import Derived.Test.YtofclflcicjlaaaGreatSg
import Derived.Test.YtofclflcicjlaaaGreatBuh
import Derived.Test.YtofclflcicjlaaaGreatRefHxh
import Derived.Test.YtofclflcicjlaaaGreatPuh
import Derived.Test.YtofclflcicjlaaaGreatRpyh
import Derived.Test.YtofclflcicjlaaaGreatTyh
import Derived.Deep.RegionWith
import Derived.Deep.QuietTactic
import Derived.BigQuiet
namespace Go.Proofs.YtofclflcicjlaaaGreat
set_option maxRecDepth 100000
open Go.ChangeShapes Go.WideShapes Go.ChangeAt Go.RowKit
open Go.ChangeMaps (open_string shut_string)
/-- What FromEnd leaves where there is a mark. -/
def FePost (X M : Nat) (w : World) (e : Ending) (w' : World) : Prop := ∃ A g cap, e = .returned (ptr A) ∧ w.heap.size ≤ A ∧ w.heap.size ≤ g ∧ Tl w' A g cap X M ∧ Chg (fun _ => False) w w'

set_option maxRecDepth 100000 in
set_option maxHeartbeats 1000000 in
theorem fromEnd_at (s : ByteArray) (i c M : Nat) (w : World) (hc0 : c ≠ 0) (hs : s.size ≤ 10000) (hlt : i < s.size) (hi : i + 1 = s.size) (hg : s[i].toNat = c)
    (hM : M < 8 * s.size) (h1 : got (le s.data.toList) M 1 = 1) (h2 : ∀ j, M < j → got (le s.data.toList) j 1 = 0) :
    Calls Tryz.prog 34 #[.string s] w (FePost (le s.data.toList) M w) := by
  have e1 : (s.size : Int) - 1 = (i : Int) := by omega
  have e2 : ¬ (s.size : Int) = 0 := by omega
  have e3 : ((s.size : Int) == 0) = false := by simpa using e2
  have e4 : ¬ (c : Int) = 0 := by omega
  have e5 : ((c : Int) == 0) = false := by simpa using e4
  have hi1 : i ≤ 10000 := by omega
  have B := bits_any s w hs
  have H1 := Hid.intro h1
  have H2 := Hid.intro h2
  clear h1 h2
  generalize hX : le s.data.toList = X at *
  clear hX
  go_enter Tryz.func34, Tryz.ntmps34
  go_wp2_with fail
  refine B.mono ?_
  rintro e w1 ⟨v, rfl, d1, d2, d3⟩
  clear B
  obtain ⟨g, cap, cur, rfl, hcap, hgb, hcs, ht, hl⟩ := own_at d1 (by omega)
  have hgw : w.heap.size ≤ g := (d3 g rfl).elim (fun e => by simp [Value.ownBlock] at e) id
  have HGW := Hid.intro hgw
  have HD := Hid.intro (And.intro d1 d2)
  have HT := Hid.intro ht
  have hcm : cap ≤ 9223372036854775807 := by
    rcases d1.2 with ⟨h0, _⟩ | ⟨g', cap', cur', hv, _, _, _, hm, _⟩
    · cases h0
    · injection hv with _ _ e3
      subst e3
      unfold maxLen at hm; omega
  clear d1 d2 d3 hgw ht hl
  generalize hn : 8 * s.size = n at *
  have hn1 : n ≤ 80000 := by omega
  have hn2 : Hid (n = 8 * s.size) := hn.symm
  clear hn
  go_wp2_with fail
  go_loop [4] (fun nv => FeRel M n nv) (fun nv => (intOf nv).toNat)
  case atStart => exact ⟨n - 1, by omega, by omega, by congr 1; omega⟩
  case round =>
    obtain ⟨j, hj1, hj2, rfl⟩ := hrel
    have cj := own_cell hgb HT.out j (by rw [bit_len]; exact hj2) (bit_len _ _)
    rw [bit_get, byteV, u8_of _ (by omega)] at cj
    have hgot : X / 2 ^ j % 2 = got X j 1 := by unfold got; rw [Nat.pow_one]
    rw [hgot] at cj
    by_cases hjM : M < j
    · rw [H2.out j hjM] at cj
      go_wp2
      go_round
      case rel => exact ⟨j - 1, by omega, by omega, by congr 1; omega⟩
      case measure => simp [intOf]; omega
    · obtain rfl : j = M := by omega
      rw [H1.out] at cj
      have q1 : j ≤ cap := by omega
      go_wp2
      go_ret
      refine ⟨_, g, cap, rfl, chg_size HD.out.2, HGW.out, ⟨blk_new _ _ _, own_less (World.ownsRow.alloc HD.out.1 _) (by omega), ?_, by omega⟩, chg_alloc HD.out.2 _⟩
      have := blk_lt hgb
      omega

theorem fromEnd_ok (s : ByteArray) (w : World) (h : last s ≠ 0) (hs : s.size ≤ 10000) : Calls Tryz.prog 34 #[.string s] w (FePost (le s.data.toList) (Nat.log2 (le s.data.toList)) w) := by
  obtain ⟨h0, h1⟩ := log_lt s h
  have hx : le s.data.toList ≠ 0 := fun e => h (by rw [last, e, Nat.zero_div])
  exact fromEnd_at s (s.size - 1) (last s) _ w h hs (by omega) (by omega) (last_get s _ _ (by omega)) h1 (got_mark _ hx) (fun j hj => got_above _ j hj)

set_option maxRecDepth 100000 in
theorem tget_arg (A : Nat) (n : Int) (W : World) (h : n < 0 ∨ 64 < n) :
    Calls Tryz.prog 36 #[ptr A, .int .i64 n] W fun e W' => e = .returned (agg3 0 1) ∧ Chg (fun _ => False) W W' := by
  unfold ptr
  rcases h with h | h
  · go_enter Tryz.func36, Tryz.ntmps36
    go_wp2
    exact bodyPost_ret (v := agg3 0 1) (by simp [results, Tryz.results36, go_sem, agg3]) rfl ⟨rfl, chg_alloc (chg_refl _ _) _⟩
  · have h0 : ¬ n < 0 := by omega
    go_enter Tryz.func36, Tryz.ntmps36
    go_wp2
    exact bodyPost_ret (v := agg3 0 1) (by simp [results, Tryz.results36, go_sem, agg3]) rfl ⟨rfl, chg_alloc (chg_refl _ _) _⟩

set_option maxRecDepth 100000 in
theorem tget_more (A g cap X L n : Nat) (W : World) (h : Tl W A g cap X L) (hn : n ≤ 64) (hm : L < n) :
    Calls Tryz.prog 36 #[ptr A, .int .i64 n] W fun e W' => e = .returned (agg3 0 2) ∧ Chg (fun _ => False) W W' := by
  obtain ⟨h1, h2, h3, h4⟩ := h
  have c0 : W.cell? ⟨A, 0, none⟩ = some (.slice (some ⟨g, 0, none⟩) L cap) := by rw [blk_cell h1]; rfl
  have hlt := blk_lt h1
  unfold ptr
  go_enter Tryz.func36, Tryz.ntmps36
  go_wp2
  exact bodyPost_ret (v := agg3 0 2) (by simp [results, Tryz.results36, go_sem, agg3]) rfl ⟨rfl, chg_alloc (chg_refl _ _) _⟩

/-- A callee that leaves the world as it was, inside a region that only reads. -/
theorem quietS {P : Program} {f : FuncId} {args : Array Value} {w : World} {n : Nat} {v : Value} (h : Calls P f args (w.drewN n) fun e w' => e = .returned v ∧ w.drewN n = w') :
    Calls P f args (w.drewN n) fun e w'' => e = .returned v ∧ ∃ m, w'' = w.drewN m :=
  h.mono fun _ _ ⟨he, hm⟩ => ⟨he, n, hm.symm⟩
theorem tl_quiet {W : World} {A : Nat} {cs : Array Value} {t : TypeId} (h : Blk W A cs t) (o : Obj) (q : Nat) : Blk ((W.alloc o).drewN q) A cs t := (blk_alloc h o : Blk (W.alloc o) A cs t)
theorem chg_quiet (W : World) (o : Obj) (q : Nat) : Chg (fun _ => False) W ((W.alloc o).drewN q) := (chg_alloc (chg_refl _ _) o : Chg (fun _ => False) W (W.alloc o))
/-- What stands behind the tail's step: its row is shorter, the result is set. -/
theorem tl_step {W W0 : World} {A H g cap X L b : Nat} {y0 y1 y2 : Value} (h : Blk W0 A #[.slice (some ⟨g, 0, none⟩) L cap] 94) (c : Chg (fun _ => False) W W0)
    (h2 : W.ownsRow 0 5 1 (.slice (some ⟨g, 0, none⟩) L cap) L ((bit X L).map byteV)) (h3 : g ≠ A) (h4 : 0 < cap) (hb : b ≤ L) (hA : A < W.heap.size) (hH : W.heap.size ≤ H) :
    Tl ((((W0.setCell ⟨A, 0, none⟩ (.slice (some ⟨g, 0, none⟩) b cap)).setCell ⟨H, 0, none⟩ y0).setCell ⟨H, 1, none⟩ y1).setCell ⟨H, 2, none⟩ y2) A g cap X b ∧
    Chg (· = A) W ((((W0.setCell ⟨A, 0, none⟩ (.slice (some ⟨g, 0, none⟩) b cap)).setCell ⟨H, 0, none⟩ y0).setCell ⟨H, 1, none⟩ y1).setCell ⟨H, 2, none⟩ y2) := by
  have hAH : A ≠ H := by omega
  have hch : Chg (· = A) W ((((W0.setCell ⟨A, 0, none⟩ (.slice (some ⟨g, 0, none⟩) b cap)).setCell ⟨H, 0, none⟩ y0).setCell ⟨H, 1, none⟩ y1).setCell ⟨H, 2, none⟩ y2) := by
    have c0 : Chg (· = A) W W0 := chg_mono c (fun _ _ h => h.elim)
    have c1 := chg_set c0 ⟨A, 0, none⟩ (.slice (some ⟨g, 0, none⟩) b cap) (fun _ => rfl)
    have c2 := chg_set c1 ⟨H, 0, none⟩ y0 (fun (h : H < _) => absurd h (by omega))
    have c3 := chg_set c2 ⟨H, 1, none⟩ y1 (fun (h : H < _) => absurd h (by omega))
    exact chg_set c3 ⟨H, 2, none⟩ y2 (fun (h : H < _) => absurd h (by omega))
  refine ⟨⟨?_, own_keptb (own_less h2 hb) hch (fun k hk e => by simp [Value.ownBlock] at hk; exact h3 (by omega)), h3, h4⟩, hch⟩
  exact blk_set_other (blk_set_other (blk_set_other (by simpa using blk_set h 0 (.slice (some ⟨g, 0, none⟩) b cap)) _ _ hAH) _ _ hAH) _ _ hAH

set_option maxRecDepth 100000 in
set_option maxHeartbeats 1000000 in
theorem tget_ok (A g cap X L b n : Nat) (W : World) (h : Tl W A g cap X L) (hbn : b + n = L) (hL : L ≤ 100000) (hn : n ≤ 64) :
    Calls Tryz.prog 36 #[ptr A, .int .i64 n] W fun e W' => e = .returned (agg3 (got X b n) 0) ∧ Tl W' A g cap X b ∧ Chg (· = A) W W' := by
  obtain ⟨h1, h2, h3, h4⟩ := h
  obtain ⟨av, cap', hv, hcap, hcm, hbts⟩ := cut_bits h2
  injection hv with e1 _ e3
  subst e1 e3
  have hbt := hbts b n (by omega)
  have c0 : W.cell? ⟨A, 0, none⟩ = some (.slice (some ⟨g, 0, none⟩) L cap) := by rw [blk_cell h1]; rfl
  have hlt := blk_lt h1
  have f0 := blk_free h1 0
  have w1 : IntKind.i64.wrap ((L : Int) - n) = (b : Int) := by rw [IntKind.wrap_i64]; omega
  have s0 : (0 : Int) ≤ b := by omega
  have s1 : (b : Int) ≤ L := by omega
  have s2 : (b : Int) ≤ cap := by omega
  have s3 : (L : Int) ≤ cap := by omega
  have s4 : L - b = n := by omega
  have s5 : b ≤ L := by omega
  have s6 : L ≤ cap := by omega
  have s7 : n ≤ L := by omega
  have HBN := Hid.intro hbn
  clear hbts hbn
  by_cases hca : cap = b
  · have hca' := hca.symm
    subst hca'
    simp only [if_true, Nat.sub_self] at hbt
    have NM := fun (W' : World) (c : Chg (fun _ => False) W W') => number_any _ X b n W' hn (bts_kept hbt c)
    have HH := Hid.intro (And.intro h1 (And.intro h2 h3))
    clear hbt h1 h2 h3
    generalize got X b n = z at *
    unfold ptr
    go_enter Tryz.func36, Tryz.ntmps36
    go_wp2
    have NQ := fun (k : Nat) => NM ((W.alloc (.cells #[.int .u64 0, .int .i64 0, .int .i64 0] 87)).drewN k) (show Chg (fun _ => False) W (W.alloc (.cells #[.int .u64 0, .int .i64 0, .int .i64 0] 87)) from chg_alloc (chg_refl _ _) _)
    clear NM
    go_quiet ((go_at_call 66; refine quietS (NQ _)))
    go_wp2
    go_region
    all_goals
      go_wp2
      refine bodyPost_ret (v := agg3 z 0) (by simp [results, Tryz.results36, go_sem, agg3]) rfl ⟨rfl, tl_step (tl_quiet HH.out.1 _ _) (chg_quiet W _ _) HH.out.2.1 HH.out.2.2 h4 (by have := HBN.out; omega) (by omega) (Nat.le_refl _)⟩
  · simp only [hca, if_false, Option.map_some, Addr.add_lit, Nat.zero_add] at hbt
    have NM := fun (W' : World) (c : Chg (fun _ => False) W W') => number_any _ X b n W' hn (bts_kept hbt c)
    have HH := Hid.intro (And.intro h1 (And.intro h2 h3))
    clear hbt h1 h2 h3
    generalize got X b n = z at *
    unfold ptr
    go_enter Tryz.func36, Tryz.ntmps36
    go_wp2
    have NQ := fun (k : Nat) => NM ((W.alloc (.cells #[.int .u64 0, .int .i64 0, .int .i64 0] 87)).drewN k) (show Chg (fun _ => False) W (W.alloc (.cells #[.int .u64 0, .int .i64 0, .int .i64 0] 87)) from chg_alloc (chg_refl _ _) _)
    clear NM
    go_quiet ((go_at_call 66; refine quietS (NQ _)))
    go_wp2
    go_region
    all_goals
      go_wp2
      refine bodyPost_ret (v := agg3 z 0) (by simp [results, Tryz.results36, go_sem, agg3]) rfl ⟨rfl, tl_step (tl_quiet HH.out.1 _ _) (chg_quiet W _ _) HH.out.2.1 HH.out.2.2 h4 (by have := HBN.out; omega) (by omega) (Nat.le_refl _)⟩

theorem tl_kept {W W' : World} {S : Nat → Prop} {A g cap X L : Nat} (h : Tl W A g cap X L) (c : Chg S W W') (hA : ¬ S A) (hg : ¬ S g) : Tl W' A g cap X L :=
  ⟨blk_kept h.1 c hA, own_keptb h.2.1 c (fun k hk => by simp [Value.ownBlock] at hk; subst hk; exact hg), h.2.2.1, h.2.2.2⟩

theorem tget_any (A g cap X L : Nat) (n : Int) (W : World) (h : Tl W A g cap X L) (hL : L ≤ 100000) :
    Calls Tryz.prog 36 #[ptr A, .int .i64 n] W fun e W' => e = .returned (agg3 (got X (L - gkb L n) (gkb L n)) (geb L n)) ∧ Tl W' A g cap X (L - gkb L n) ∧ Chg (· = A) W W' := by
  by_cases h1 : n < 0 ∨ 64 < n
  · have e1 : geb L n = 1 := by unfold geb; rw [if_pos h1]
    have e2 : gkb L n = 0 := by unfold gkb; rw [e1]; rfl
    rw [e1, e2, got_zero]
    refine (tget_arg A n W h1).mono ?_
    rintro e w1 ⟨rfl, k⟩
    exact ⟨rfl, tl_kept h k (fun h => h) (fun h => h), chg_mono k (fun _ _ h => h.elim)⟩
  · obtain ⟨m, rfl⟩ := Int.eq_ofNat_of_zero_le (show 0 ≤ n by omega)
    by_cases h2 : L < m
    · have e1 : geb L m = 2 := by unfold geb; rw [if_neg h1, if_pos (by omega)]
      have e2 : gkb L m = 0 := by unfold gkb; rw [e1]; rfl
      rw [e1, e2, got_zero]
      refine (tget_more A g cap X L m W h (by omega) h2).mono ?_
      rintro e w1 ⟨rfl, k⟩
      exact ⟨rfl, tl_kept h k (fun h => h) (fun h => h), chg_mono k (fun _ _ h => h.elim)⟩
    · have e1 : geb L m = 0 := by unfold geb; rw [if_neg h1, if_neg (by omega)]
      have e2 : gkb L m = m := by unfold gkb; rw [e1]; rfl
      rw [e1, e2]
      exact tget_ok A g cap X L (L - m) m W h (by omega) hL (by omega)
end Go.Proofs.YtofclflcicjlaaaGreat
