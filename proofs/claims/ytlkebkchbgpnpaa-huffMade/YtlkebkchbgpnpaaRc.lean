/-
  The reference's cost, with all that it keeps.
-/
import Derived.Test.YtlkebkchbgpnpaaAl
namespace Go.Proofs.Ytlkebkchbgpnpaa
open Go.ChangeShapes Go.WideShapes Go.ChangeAt Go.RowKit
open Go.ChangeMaps (open_string shut_string)

def cvR : Option Nat → Int
  | none => -1
  | some c => (c : Int)
/-- Each cell is 0, or the cost and 2. -/
def Kn (s : List Nat) (limit N : Nat) (kl : List Int) : Prop :=
  kl.length = 166600 ∧ ∀ l f op, 1 ≤ l → l ≤ limit → f < N → op ≤ N - f → fr kl ((l * 70 + f) * 140 + op) = 0 ∨ fr kl ((l * 70 + f) * 140 + op) = cvR (cst s (limit + 1 - l) (N - f) op) + 2
theorem kn_set {s : List Nat} {limit N : Nat} {kl : List Int} (h : Kn s limit N kl) (hN : N ≤ 65) (l f op : Nat) (h1 : l ≤ 15) (h2 : f < N) (h3 : op ≤ N - f) : Kn s limit N (kl.set ((l * 70 + f) * 140 + op) (cvR (cst s (limit + 1 - l) (N - f) op) + 2)) := by
  refine ⟨by rw [List.length_set]; exact h.1, fun l' f' op' g1 g2 g3 g4 => ?_⟩
  rw [fr_set _ _ _ _ (by rw [h.1]; omega)]
  by_cases e : (l' * 70 + f') * 140 + op' = (l * 70 + f) * 140 + op
  · have a1 : ∀ x y a b : Nat, a < 140 → b < 140 → x * 140 + a = y * 140 + b → x = y ∧ a = b := fun x y a b _ _ _ => by omega
    have a2 : ∀ x y a b : Nat, a < 70 → b < 70 → x * 70 + a = y * 70 + b → x = y ∧ a = b := fun x y a b _ _ _ => by omega
    obtain ⟨e1, rfl⟩ := a1 _ _ _ _ (by omega) (by omega) e
    obtain ⟨rfl, rfl⟩ := a2 _ _ _ _ (by omega) (by omega) e1
    rw [if_pos rfl]; exact .inr rfl
  · rw [if_neg e]; exact h.2 l' f' op' g1 g2 g3 g4
def Bst (W : World) (A : Nat) (af : Option Addr) (cf limit N KB SB : Nat) (s : List Nat) (sm : List Int) : Prop :=
  Blk W A #[.slice af N cf, .int .i64 (limit : Int), .slice (some ⟨KB, 0, none⟩) 166600 166600, .slice (some ⟨SB, 0, none⟩) (N + 1) (N + 1)] 98 ∧ (∃ kl, W.ownsRow 0 3 1 (.slice (some ⟨KB, 0, none⟩) 166600 166600) 166600 (ivs kl) ∧ Kn s limit N kl) ∧
    W.ownsRow 0 3 1 (.slice (some ⟨SB, 0, none⟩) (N + 1) (N + 1)) (N + 1) (ivs sm) ∧ A ≠ KB ∧ SB ≠ KB
theorem key_any (p : Value) (l f op : Nat) (w : World) (hl : l ≤ 100) (hf : f ≤ 100) (ho : op ≤ 1000) : Calls Try.prog 62 #[p, .int .i64 (l : Int), .int .i64 (f : Int), .int .i64 (op : Int)] w fun e w' => e = .returned (.int .i64 (((l * 70 + f) * 140 + op : Nat) : Int)) ∧ w' = w := by
  have e : Hid ((((l * 70 + f) * 140 + op : Nat) : Int) = ((l : Int) * 70 + (f : Int)) * 140 + (op : Int)) := by show _ = _; omega
  go_enter Try.func62, Try.ntmps62
  go_wp2
  go_ret
  exact ⟨ret_int e.out.symm, rfl⟩
theorem pre_le (s : List Nat) (k : Nat) : pre s k ≤ s.sum := by
  have : s.sum = (s.take k).sum + (s.drop k).sum := by rw [← List.sum_append, List.take_append_drop]
  unfold pre; omega
theorem cst_bd (s : List Nat) : ∀ d left op c, cst s d left op = some c → c ≤ d * s.sum
  | 0, left, op, c, h => by
    rw [cst] at h
    split at h
    · injection h with h; omega
    · cases h
  | d + 1, left, op, c, h => by
    by_cases hl : left = 0
    · subst hl
      have := (cst_open s _ _ _ _ h).2.1 rfl
      omega
    · obtain ⟨t, c', _, e1, e2⟩ := cst_step s d left op c (by omega) h
      have := cst_bd s d _ _ _ e1
      have := pre_le s (left - t)
      rw [e2, Nat.add_mul]; omega
def Ft (s : List Nat) (d left op t : Nat) : Option Nat := (cst s d (left - t) (2 * (op - t))).map (· + pre s (left - t))
theorem Ft_bd (s : List Nat) (d left op t c : Nat) (h : Ft s d left op t = some c) : c ≤ (d + 1) * s.sum := by
  obtain ⟨c', e1, e2⟩ := Option.map_eq_some_iff.1 h
  have := cst_bd s d _ _ _ e1
  have := pre_le s (left - t)
  rw [Nat.add_mul]; omega
theorem lst_bd (s : List Nat) (d left op t c : Nat) (h : lst (Ft s d left op) t = some c) : c ≤ (d + 1) * s.sum := by
  obtain ⟨t', _, e⟩ := lst_mem _ _ _ h
  exact Ft_bd s d left op t' c e
/-- What the loop's round does to the least so far. -/
theorem lst_round (F : Nat → Option Nat) (t : Nat) : lst F (t + 1) = match lst F t, F t with
    | none, y => y
    | some x, none => some x
    | some x, some y => some (min x y) := rfl
def RcRel (s : List Nat) (A : Nat) (af : Option Addr) (cf limit N KB SB : Nat) (sm : List Int) (d left op : Nat) (W : World) (ov tv : Value) (wr : World) : Prop :=
  ∃ t : Nat, t ≤ op + 1 ∧ tv = .int .i64 t ∧ ov = .int .i64 (cvR (lst (Ft s d left op) t)) ∧ Bst wr A af cf limit N KB SB s sm ∧ Chg (· = KB) W wr
def CostC (s : List Nat) (A : Nat) (af : Option Addr) (cf limit N KB SB : Nat) (sm : List Int) (d : Nat) : Prop :=
  ∀ (l f op : Nat) (W : World), 1 ≤ l → l + d = limit + 1 → f ≤ N → op ≤ 200 → Bst W A af cf limit N KB SB s sm →
    Calls Try.prog 43 #[.pointer (some ⟨A, 0, none⟩), .int .i64 (l : Int), .int .i64 (f : Int), .int .i64 (op : Int)] W fun e W' => e = .returned (.int .i64 (cvR (cst s d (N - f) op))) ∧ Bst W' A af cf limit N KB SB s sm ∧ Chg (· = KB) W W'
set_option maxRecDepth 100000 in
set_option maxHeartbeats 4000000 in
theorem rcost_zero (s : List Nat) (A : Nat) (af : Option Addr) (cf limit N KB SB : Nat) (sm : List Int) (hN : N ≤ 65) (_hlim : limit ≤ 15) : CostC s A af cf limit N KB SB sm 0 := by
  intro l f op W hl hd hf ho h
  obtain ⟨h1, h2, h3, h4, h5⟩ := h
  have c0 : W.cell? ⟨A, 0, none⟩ = some (.slice af N cf) := by rw [blk_cell h1]; rfl
  have c1 : W.cell? ⟨A, 1, none⟩ = some (.int .i64 (limit : Int)) := by rw [blk_cell h1]; rfl
  have HB : Hid (Bst W A af cf limit N KB SB s sm) := ⟨h1, h2, h3, h4, h5⟩
  obtain ⟨left, hlf⟩ : ∃ left : Nat, N - f = left := ⟨_, rfl⟩
  have hli : (N : Int) - (f : Int) = (left : Int) := by omega
  have hll : limit < l := by omega
  rw [hlf]
  clear h1 h2 h3 h4 h5 hlf
  by_cases z : left = 0
  · subst z
    by_cases z2 : op = 0
    · subst z2
      have E : Hid (cvR (cst s 0 0 0) = 0) := rfl
      go_enter Try.func43, Try.ntmps43
      go_wp2_with fail
      go_ret
      exact ⟨ret_int E.out.symm, HB.out, chg_refl _ _⟩
    · have E : Hid (cvR (cst s 0 0 op) = -1) := by show _ = _; rw [cst, if_neg (by omega)]; rfl
      have t0 : ((op : Int) == 0) = false := by simp; omega
      go_enter Try.func43, Try.ntmps43
      go_wp2_with fail
      go_ret
      exact ⟨ret_int E.out.symm, HB.out, chg_refl _ _⟩
  · have E : Hid (cvR (cst s 0 left op) = -1) := by show _ = _; rw [cst, if_neg (by omega)]; rfl
    have t0 : ((left : Int) == 0) = false := by simp; omega
    by_cases z2 : op = 0
    · subst z2
      go_enter Try.func43, Try.ntmps43
      go_wp2_with fail
      go_ret
      exact ⟨ret_int E.out.symm, HB.out, chg_refl _ _⟩
    · have t1 : ((op : Int) == 0) = false := by simp; omega
      by_cases z3 : left < op
      · go_enter Try.func43, Try.ntmps43
        go_wp2_with fail
        go_ret
        exact ⟨ret_int E.out.symm, HB.out, chg_refl _ _⟩
      · go_enter Try.func43, Try.ntmps43
        go_wp2_with fail
        go_ret
        exact ⟨ret_int E.out.symm, HB.out, chg_refl _ _⟩

theorem rc_leave {s : List Nat} {A : Nat} {af : Option Addr} {cf limit N KB SB : Nat} {sm : List Int} {W wr : World} (hN : N ≤ 65) (_hlim : limit ≤ 15) (h : Bst wr A af cf limit N KB SB s sm) (c : Chg (· = KB) W wr) (l f op : Nat) (h1 : l ≤ 15) (h2 : f < N) (h3 : op ≤ N - f) :
    Bst (wr.setCell ⟨KB, (l * 70 + f) * 140 + op, none⟩ (.int .i64 (cvR (cst s (limit + 1 - l) (N - f) op) + 2))) A af cf limit N KB SB s sm ∧ Chg (· = KB) W (wr.setCell ⟨KB, (l * 70 + f) * 140 + op, none⟩ (.int .i64 (cvR (cst s (limit + 1 - l) (N - f) op) + 2))) := by
  obtain ⟨b1, ⟨kl, b2, b3⟩, b4, b5, b6⟩ := h
  have o := own_set b2 ((l * 70 + f) * 140 + op) (.int .i64 (cvR (cst s (limit + 1 - l) (N - f) op) + 2))
  rw [ivs_set] at o
  have cc : Chg (· = KB) wr (wr.setCell ⟨KB, (l * 70 + f) * 140 + op, none⟩ (.int .i64 (cvR (cst s (limit + 1 - l) (N - f) op) + 2))) := chg_in (chg_refl _ _) _ _
  exact ⟨⟨blk_kept b1 cc b5, ⟨_, o, kn_set b3 hN l f op h1 h2 h3⟩, own_kept b4 cc (fun k hk e => by simp [Value.ownBlock] at hk; omega), b5, b6⟩, chg_same c cc⟩
theorem known_cell {s : List Nat} {A : Nat} {af : Option Addr} {cf limit N KB SB : Nat} {sm : List Int} {W : World} (hN : N ≤ 65) (h : Bst W A af cf limit N KB SB s sm) (l f op : Nat) (h0 : 1 ≤ l) (h1 : l ≤ limit) (hlim : limit ≤ 15) (h2 : f < N) (h3 : op ≤ N - f) :
    ∃ z, W.cell? ⟨KB, (l * 70 + f) * 140 + op, none⟩ = some (.int .i64 z) ∧ (z = 0 ∨ z = cvR (cst s (limit + 1 - l) (N - f) op) + 2) ∧ W.frozen? ⟨KB, (l * 70 + f) * 140 + op, none⟩ = false := by
  obtain ⟨b1, ⟨kl, b2, b3⟩, b4, b5, b6⟩ := h
  have hk : (l * 70 + f) * 140 + op < 166600 := by omega
  exact ⟨_, iv_at b2 _ hk, b3.2 l f op h0 h1 h2 h3, (own_there b2 _ (by omega)).2.2⟩
theorem cv_bd (s : List Nat) (d left op : Nat) (hs : s.sum ≤ 1090519040) (hd : d ≤ 16) : -1 ≤ cvR (cst s d left op) ∧ cvR (cst s d left op) ≤ 17448304640 := by
  cases h : cst s d left op with
  | none => simp [cvR]
  | some c =>
    have := cst_bd s d left op c h
    have h2 : d * s.sum ≤ 16 * 1090519040 := Nat.mul_le_mul hd hs
    simp only [cvR]; omega
theorem lst_cv_bd (s : List Nat) (d left op t : Nat) (hs : s.sum ≤ 1090519040) (hd : d ≤ 15) : -1 ≤ cvR (lst (Ft s d left op) t) ∧ cvR (lst (Ft s d left op) t) ≤ 17448304640 := by
  cases h : lst (Ft s d left op) t with
  | none => simp [cvR]
  | some c =>
    have := lst_bd s d left op t c h
    have h2 : (d + 1) * s.sum ≤ 16 * 1090519040 := Nat.mul_le_mul (by omega) hs
    simp only [cvR]; omega
set_option maxRecDepth 100000 in
set_option maxHeartbeats 4000000 in
theorem rcost_succ (s : List Nat) (A : Nat) (af : Option Addr) (cf limit N KB SB : Nat) (sm : List Int) (hN : N ≤ 65) (hlim : limit ≤ 15) (hs : s.sum ≤ 1090519040) (hsm : ∀ i, i ≤ N → fr sm i = (pre s (N - i) : Nat)) (d : Nat) (ih : CostC s A af cf limit N KB SB sm d) : CostC s A af cf limit N KB SB sm (d + 1) := by
  intro l f op W hl hd hf ho h
  obtain ⟨h1, h2, h3, h4, h5⟩ := h
  have c0 : W.cell? ⟨A, 0, none⟩ = some (.slice af N cf) := by rw [blk_cell h1]; rfl
  have c1 : W.cell? ⟨A, 1, none⟩ = some (.int .i64 (limit : Int)) := by rw [blk_cell h1]; rfl
  have c2 : W.cell? ⟨A, 2, none⟩ = some (.slice (some ⟨KB, 0, none⟩) 166600 166600) := by rw [blk_cell h1]; rfl
  have HB : Hid (Bst W A af cf limit N KB SB s sm) := ⟨h1, h2, h3, h4, h5⟩
  obtain ⟨left, hlf⟩ : ∃ left : Nat, N - f = left := ⟨_, rfl⟩
  have hli : (N : Int) - (f : Int) = (left : Int) := by omega
  have hll : l ≤ limit := by omega
  have HLF := Hid.intro hlf
  rw [hlf]
  clear h1 h2 h3 h4 h5
  by_cases z : left = 0
  · subst z
    clear c1 c2 ih
    by_cases z2 : op = 0
    · subst z2
      have E : Hid (cvR (cst s (d + 1) 0 0) = 0) := by show _ = _; rw [cst_left0]; rfl
      clear hlf
      go_enter Try.func43, Try.ntmps43
      go_wp2_with fail
      go_ret
      exact ⟨ret_int E.out.symm, HB.out, chg_refl _ _⟩
    · have E : Hid (cvR (cst s (d + 1) 0 op) = -1) := by show _ = _; rw [cst_left0, if_neg z2]; rfl
      have t0 : ((op : Int) == 0) = false := by simp; omega
      clear hlf
      go_enter Try.func43, Try.ntmps43
      go_wp2_with fail
      go_ret
      exact ⟨ret_int E.out.symm, HB.out, chg_refl _ _⟩
  · have t0 : ((left : Int) == 0) = false := by simp; omega
    by_cases z2 : op = 0 ∨ left < op
    · have E : Hid (cvR (cst s (d + 1) left op) = -1) := by show _ = _; rw [cst, if_neg z, if_pos z2]; rfl
      clear hlf ih c2
      rcases z2 with z2 | z2
      · subst z2
        go_enter Try.func43, Try.ntmps43
        go_wp2_with fail
        go_ret
        exact ⟨ret_int E.out.symm, HB.out, chg_refl _ _⟩
      · have t1 : ((op : Int) == 0) = false := by simp; omega
        go_enter Try.func43, Try.ntmps43
        go_wp2_with fail
        go_ret
        exact ⟨ret_int E.out.symm, HB.out, chg_refl _ _⟩
    · have t1 : ((op : Int) == 0) = false := by simp; omega
      have hop : op ≤ left := by omega
      have hop0 : 0 < op := by omega
      have hdl : limit + 1 - l = d + 1 := by omega
      have KE := key_any (.pointer (some ⟨A, 0, none⟩)) l f op W (by omega) (by omega) (by omega)
      obtain ⟨zz, kc, kz, kf⟩ := known_cell hN HB.out l f op hl hll hlim (by omega) (by omega)
      rw [hdl, hlf] at kz
      obtain ⟨q, hq⟩ : ∃ q : Nat, (l * 70 + f) * 140 + op = q := ⟨_, rfl⟩
      have hq6 : q < 166600 := by omega
      rw [hq] at KE kc kf
      have CB := cv_bd s (d + 1) left op hs (by omega)
      by_cases zk : 0 < zz
      · have E : Hid (cvR (cst s (d + 1) left op) = zz - 2) := by show _ = _; omega
        have zb : zz ≤ 17448304642 := by omega
        clear hlf ih kz hq CB
        go_enter Try.func43, Try.ntmps43
        go_wp2_with fail
        with_reducible refine KE.mono ?_
        rintro e w1 ⟨rfl, rfl⟩
        clear KE
        go_wp2_with fail
        go_ret
        exact ⟨ret_int E.out.symm, HB.out, chg_refl _ _⟩
      · have HQ := Hid.intro (And.intro hq hdl)
        have hz0 : zz ≤ 0 := by omega
        have HIH := Hid.intro ih
        clear hlf ih kz hq CB zk hdl
        go_enter Try.func43, Try.ntmps43
        go_wp2_with fail
        with_reducible refine KE.mono ?_
        rintro e w1 ⟨rfl, rfl⟩
        clear KE
        go_wp2_with fail
        clear c0 c1 c2 kc kf hz0
        go_loopw [11, 12] (fun ov tv wr => RcRel s A af cf limit N KB SB sm d left op w1 ov tv wr) (fun _ tv _ => op + 1 - (intOf tv).toNat)
        case atStart => exact ⟨0, by omega, rfl, rfl, HB.out, chg_refl _ _⟩
        case round =>
          obtain ⟨t, ht, rfl, rfl, d1, d2⟩ := hrel
          by_cases hlt : t ≤ op
          · have hlf := HLF.out
            obtain ⟨l1, e1⟩ : ∃ l1 : Nat, (l : Int) + 1 = (l1 : Int) := ⟨l + 1, by omega⟩
            obtain ⟨f1, e2⟩ : ∃ f1 : Nat, (f : Int) + (t : Int) = (f1 : Int) := ⟨f + t, by omega⟩
            obtain ⟨o1, e3⟩ : ∃ o1 : Nat, (op : Int) - (t : Int) = (o1 : Int) := ⟨op - t, by omega⟩
            obtain ⟨o2, e4⟩ : ∃ o2 : Nat, (2 : Int) * (o1 : Int) = (o2 : Int) := ⟨2 * o1, by omega⟩
            have CC := HIH.out l1 f1 o2 wr (by omega) (by omega) (by omega) (by omega) d1
            have hF : Ft s d left op t = (cst s d (N - f1) o2).map (· + pre s (N - f1)) := by
              unfold Ft
              rw [show left - t = N - f1 by omega, show 2 * (op - t) = o2 by omega]
            have LR := lst_round (Ft s d left op) t
            have LB := lst_cv_bd s d left op t hs (by omega)
            rw [hF] at LR
            have hf1 : f1 ≤ N := by omega
            have pb := pre_le s (N - f1)
            have sg := hsm f1 hf1
            have D2 := Hid.intro d2
            clear d1 d2 hF hlf
            cases hc : cst s d (N - f1) o2 with
            | none =>
              rw [hc] at CC LR
              have E : Hid (lst (Ft s d left op) (t + 1) = lst (Ft s d left op) t) := by
                show _ = _
                rw [LR]
                cases lst (Ft s d left op) t <;> rfl
              have CC' : Calls Try.prog 43 #[.pointer (some ⟨A, 0, none⟩), .int .i64 (l1 : Int), .int .i64 (f1 : Int), .int .i64 (o2 : Int)] wr fun e W' => e = .returned (.int .i64 (-1)) ∧ Bst W' A af cf limit N KB SB s sm ∧ Chg (· = KB) wr W' := CC
              obtain ⟨out, hout⟩ : ∃ out, cvR (lst (Ft s d left op) t) = out := ⟨_, rfl⟩
              rw [hout] at LB ⊢
              have HOUT := Hid.intro hout
              clear LR CC hc sg pb hout
              go_wp2_with fail
              with_reducible refine CC'.mono ?_
              rintro e w2 ⟨rfl, k1, k2⟩
              clear CC' e1 e2 e3 e4
              go_wp2_with fail
              go_roundw
              case rel => exact ⟨t + 1, by omega, by go_num, by rw [E.out, HOUT.out], k1, chg_same D2.out k2⟩
              case measure => simp [intOf]; omega
            | some c =>
              rw [hc] at CC LR
              have cb := cst_bd s d _ _ c hc
              have cb2 : d * s.sum ≤ 15 * 1090519040 := Nat.mul_le_mul (by omega) hs
              have CC' : Calls Try.prog 43 #[.pointer (some ⟨A, 0, none⟩), .int .i64 (l1 : Int), .int .i64 (f1 : Int), .int .i64 (o2 : Int)] wr fun e W' => e = .returned (.int .i64 (c : Int)) ∧ Bst W' A af cf limit N KB SB s sm ∧ Chg (· = KB) wr W' := CC
              generalize pre s (N - f1) = p at *
              have hcb : c ≤ 16357785600 := by omega
              have hpb : p ≤ 1090519040 := by omega
              obtain ⟨y, hy⟩ : ∃ y : Nat, c + p = y := ⟨_, rfl⟩
              have hyi : (c : Int) + (p : Int) = (y : Int) := by omega
              have LR' : lst (Ft s d left op) (t + 1) = match lst (Ft s d left op) t with
                  | none => some y
                  | some x => some (min x y) := by
                rw [LR, ← hy]
                cases lst (Ft s d left op) t <;> rfl
              clear LR CC hc cb cb2 pb hy
              cases hx : lst (Ft s d left op) t with
              | none =>
                rw [hx] at LR'
                have E : Hid (cvR (lst (Ft s d left op) (t + 1)) = (y : Int)) := by show _ = _; rw [LR']; rfl
                have ho : cvR (none : Option Nat) = -1 := rfl
                simp only [ho]
                clear LR' LB hx ho
                go_wp2_with fail
                with_reducible refine CC'.mono ?_
                rintro e w2 ⟨rfl, k1, k2⟩
                have c3 : w2.cell? ⟨A, 3, none⟩ = some (.slice (some ⟨SB, 0, none⟩) (N + 1) (N + 1)) := by rw [blk_cell k1.1]; rfl
                have cs := iv_at k1.2.2.1 f1 (by omega)
                rw [sg] at cs
                clear CC' e1 e3 e4 sg
                go_wp2_with fail
                go_roundw
                case rel => exact ⟨t + 1, by omega, by go_num, by rw [E.out], k1, chg_same D2.out k2⟩
                case measure => simp [intOf]; omega
              | some x =>
                rw [hx] at LR' LB
                have ho : cvR (some x : Option Nat) = (x : Int) := rfl
                rw [ho] at LB
                simp only [ho]
                clear ho
                by_cases hyx : y < x
                · have E : Hid (cvR (lst (Ft s d left op) (t + 1)) = (y : Int)) := by
                    show _ = _
                    rw [LR']
                    show cvR (some (min x y)) = _
                    rw [Nat.min_eq_right (by omega)]; rfl
                  clear LR' hx
                  go_wp2_with fail
                  with_reducible refine CC'.mono ?_
                  rintro e w2 ⟨rfl, k1, k2⟩
                  have c3 : w2.cell? ⟨A, 3, none⟩ = some (.slice (some ⟨SB, 0, none⟩) (N + 1) (N + 1)) := by rw [blk_cell k1.1]; rfl
                  have cs := iv_at k1.2.2.1 f1 (by omega)
                  rw [sg] at cs
                  clear CC' e1 e3 e4 sg
                  go_wp2_with fail
                  go_roundw
                  case rel => exact ⟨t + 1, by omega, by go_num, by rw [E.out], k1, chg_same D2.out k2⟩
                  case measure => simp [intOf]; omega
                · have E : Hid (cvR (lst (Ft s d left op) (t + 1)) = (x : Int)) := by
                    show _ = _
                    rw [LR']
                    show cvR (some (min x y)) = _
                    rw [Nat.min_eq_left (by omega)]; rfl
                  clear LR' hx
                  go_wp2_with fail
                  with_reducible refine CC'.mono ?_
                  rintro e w2 ⟨rfl, k1, k2⟩
                  have c3 : w2.cell? ⟨A, 3, none⟩ = some (.slice (some ⟨SB, 0, none⟩) (N + 1) (N + 1)) := by rw [blk_cell k1.1]; rfl
                  have cs := iv_at k1.2.2.1 f1 (by omega)
                  rw [sg] at cs
                  clear CC' e1 e3 e4 sg
                  go_wp2_with fail
                  go_roundw
                  case rel => exact ⟨t + 1, by omega, by go_num, by rw [E.out], k1, chg_same D2.out k2⟩
                  case measure => simp [intOf]; omega
          · obtain rfl : t = op + 1 := by omega
            have E : cst s (d + 1) left op = lst (Ft s d left op) (op + 1) := by rw [cst, if_neg z, if_neg z2]; rfl
            have hlf := HLF.out
            obtain ⟨hq, hdl⟩ := HQ.out
            have R := rc_leave hN hlim d1 d2 l f op (by omega) (by omega) (by omega)
            obtain ⟨zz', kc', _, kf'⟩ := known_cell hN d1 l f op hl hll hlim (by omega) (by omega)
            rw [hdl, hlf, hq, E] at R
            rw [hq] at kc' kf'
            have c2 : wr.cell? ⟨A, 2, none⟩ = some (.slice (some ⟨KB, 0, none⟩) 166600 166600) := by rw [blk_cell d1.1]; rfl
            have LB := lst_cv_bd s d left op (op + 1) hs (by omega)
            have HE := Hid.intro (congrArg cvR E)
            have HR := Hid.intro R
            clear d1 d2 E R hlf hq hdl
            generalize cvR (lst (Ft s d left op) (op + 1)) = out at *
            go_wp2_with fail
            go_ret
            exact ⟨ret_int HE.out.symm, HR.out.1, HR.out.2⟩
theorem rcost_all (s : List Nat) (A : Nat) (af : Option Addr) (cf limit N KB SB : Nat) (sm : List Int) (hN : N ≤ 65) (hlim : limit ≤ 15) (hs : s.sum ≤ 1090519040) (hsm : ∀ i, i ≤ N → fr sm i = (pre s (N - i) : Nat)) : ∀ d, CostC s A af cf limit N KB SB sm d
  | 0 => rcost_zero s A af cf limit N KB SB sm hN hlim
  | d + 1 => rcost_succ s A af cf limit N KB SB sm hN hlim hs hsm d (rcost_all s A af cf limit N KB SB sm hN hlim hs hsm d)
end Go.Proofs.Ytlkebkchbgpnpaa
