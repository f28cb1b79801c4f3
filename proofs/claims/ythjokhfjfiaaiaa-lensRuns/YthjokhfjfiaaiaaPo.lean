/-
  More singles than packages, fewer from level to level; the least cost level by level, and what it is not below: laid ahead for package merge.
-/
import Derived.Test.YthjokhfjfiaaiaaPn
namespace Go.Proofs.Ythjokhfjfiaaiaa
open Go.ChangeShapes Go.WideShapes Go.ChangeAt Go.RowKit
open Go.ChangeMaps (open_string shut_string)

/-! ### more singles than packages; fewer from level to level -/
def Half (s : List Nat) (d : Nat) : Prop := ∀ i, 2 * i + 1 < (TL s d).length → i + 1 < s.length ∧ at0 s (i + 1) ≤ at0 (TL s d) (2 * i + 1)
theorem half_split {s : List Nat} (hp : ∀ x ∈ s, 0 < x) {d k a : Nat} (hh : Half s d) (h : Spl s (prs (TL s d)) k a) (hk : 0 < k) : k - a < a := by
  obtain ⟨h1, h2, h3, h4, h5⟩ := h
  rw [prs_len] at h3
  by_cases e : k - a = 0
  · omega
  · have hj : k - a - 1 < (TL s d).length / 2 := by omega
    obtain ⟨q1, q2⟩ := hh (k - a - 1) (by omega)
    have q3 := TL_pos s hp d (2 * (k - a - 1)) (by omega)
    have q4 := prs_at (TL s d) (k - a - 1) hj
    by_cases g : k - a < a
    · exact g
    · have := h5 (k - a - 1 + 1) (k - a - 1) (by omega) q1 (by omega)
      omega
theorem half_all (s : List Nat) (hr : Rising s) (hp : ∀ x ∈ s, 0 < x) : ∀ d, Half s d
  | 0 => fun i h => absurd h (by simp [TL])
  | d + 1 => fun i h => by
    have hh := half_all s hr hp d
    have hl : (TL s (d + 1)).length = s.length + (prs (TL s d)).length := by rw [TL, mrg_len]
    obtain ⟨a, hs, _⟩ := mrg_split s (prs (TL s d)) hr (prs_rising _ (TL_rising s hr d)) (2 * i + 2) (by omega)
    have hm := half_split hp hh hs (by omega)
    have ha := hs.1
    refine ⟨by omega, ?_⟩
    obtain ⟨t, ht, e⟩ := spl_place hr (prs_rising _ (TL_rising s hr d)) hs (by omega) (i + 1) (by omega)
    rw [← e]
    exact rising_at (TL_rising s hr (d + 1)) t (2 * i + 1) (by omega) h
theorem fewer {s : List Nat} (hr : Rising s) (hp : ∀ x ∈ s, 0 < x) {d k a a' : Nat} (h : Spl s (prs (TL s (d + 1))) k a) (h' : Spl s (prs (TL s d)) (2 * (k - a)) a') : a' ≤ a := by
  by_cases g : a' ≤ a
  · exact g
  · exfalso
    obtain ⟨h1, h2, h3, h4, h5⟩ := h
    have h3' := h3
    rw [prs_len] at h3'
    have hl : (TL s (d + 1)).length = s.length + (prs (TL s d)).length := by rw [TL, mrg_len]
    obtain ⟨t, ht, e⟩ := spl_place hr (prs_rising _ (TL_rising s hr d)) h' (by omega) a (by omega)
    have q := h5 a (t / 2) (Nat.le_refl _) (by have := h'.1; omega) (by omega)
    rw [prs_at _ (t / 2) (by omega)] at q
    have q1 := TL_pos s hp (d + 1) (2 * (t / 2)) (by omega)
    have q2 := TL_pos s hp (d + 1) (2 * (t / 2) + 1) (by omega)
    have e' : at0 (TL s (d + 1)) t = at0 s a := e
    rcases Nat.mod_two_eq_zero_or_one t with hm | hm
    · rw [show 2 * (t / 2) = t by omega] at q q2; rw [e'] at q; omega
    · rw [show 2 * (t / 2) + 1 = t by omega, e'] at q; omega

/-! ### the least cost, level by level -/
def lst (f : Nat → Option Nat) : Nat → Option Nat
  | 0 => none
  | n + 1 => match lst f n, f n with
    | none, y => y
    | some x, none => some x
    | some x, some y => some (min x y)
theorem lst_mem (f : Nat → Option Nat) : ∀ n c, lst f n = some c → ∃ t, t < n ∧ f t = some c
  | 0, c, h => by simp [lst] at h
  | n + 1, c, h => by
    cases hx : lst f n with
    | none =>
      rw [lst, hx] at h
      exact ⟨n, by omega, h⟩
    | some x =>
      obtain ⟨t, ht, e⟩ := lst_mem f n x hx
      cases hy : f n with
      | none =>
        rw [lst, hx, hy] at h
        injection h with h
        subst h
        exact ⟨t, by omega, e⟩
      | some y =>
        rw [lst, hx, hy] at h
        injection h with h
        by_cases g : x ≤ y
        · rw [Nat.min_eq_left g] at h; subst h; exact ⟨t, by omega, e⟩
        · rw [Nat.min_eq_right (by omega)] at h; subst h; exact ⟨n, by omega, hy⟩
theorem lst_le (f : Nat → Option Nat) : ∀ n t c, t < n → f t = some c → ∃ x, lst f n = some x ∧ x ≤ c
  | 0, t, c, h, _ => absurd h (by omega)
  | n + 1, t, c, h, e => by
    by_cases g : t < n
    · obtain ⟨x, hx, hc⟩ := lst_le f n t c g e
      cases hy : f n with
      | none => exact ⟨x, by rw [lst, hx, hy], hc⟩
      | some y => exact ⟨min x y, by rw [lst, hx, hy], Nat.le_trans (Nat.min_le_left _ _) hc⟩
    · obtain rfl : t = n := by omega
      cases hx : lst f t with
      | none => exact ⟨c, by rw [lst, hx]; exact e, Nat.le_refl _⟩
      | some x => exact ⟨min x c, by rw [lst, hx, e], Nat.min_le_right _ _⟩
/-- What the classes that are left cost at least behind this level, with d levels from it on and so many places open; none: it can not be. -/
def cst (s : List Nat) : Nat → Nat → Nat → Option Nat
  | 0, left, op => if left = 0 ∧ op = 0 then some 0 else none
  | d + 1, left, op =>
    if left = 0 then (if op = 0 then some 0 else none)
    else if op = 0 ∨ left < op then none
    else lst (fun take => (cst s d (left - take) (2 * (op - take))).map (· + pre s (left - take))) (op + 1)
theorem cst_left0 (s : List Nat) (d op : Nat) : cst s d 0 op = if op = 0 then some 0 else none := by
  cases d with
  | zero => simp [cst]
  | succ d => simp [cst]
theorem cst_open (s : List Nat) (d left op c : Nat) (h : cst s d left op = some c) : op ≤ left ∧ (left = 0 → op = 0 ∧ c = 0) ∧ (0 < left → 0 < d ∧ 0 < op) := by
  by_cases hl : left = 0
  · subst hl
    rw [cst_left0] at h
    split at h
    · rename_i h0; injection h with h; exact ⟨by omega, fun _ => ⟨h0, h.symm⟩, fun g => absurd g (by omega)⟩
    · cases h
  · cases d with
    | zero => rw [cst, if_neg (by omega)] at h; cases h
    | succ d =>
      rw [cst, if_neg hl] at h
      split at h
      · cases h
      · exact ⟨by omega, fun g => absurd g hl, fun _ => ⟨by omega, by omega⟩⟩
theorem cst_step (s : List Nat) (d left op c : Nat) (hl : 0 < left) (h : cst s (d + 1) left op = some c) : ∃ take c', take ≤ op ∧ cst s d (left - take) (2 * (op - take)) = some c' ∧ c = c' + pre s (left - take) := by
  rw [cst, if_neg (by omega)] at h
  split at h
  · cases h
  · obtain ⟨t, ht, e⟩ := lst_mem _ _ _ h
    obtain ⟨c', e1, e2⟩ := Option.map_eq_some_iff.1 e
    exact ⟨t, c', by omega, e1, e2.symm⟩
/-- One choice costs no less than the first of the next level's list together; less singles than the split takes cost more. -/
theorem cst_low {s : List Nat} (hr : Rising s) : ∀ (d left op c : Nat), left ≤ s.length → cst s d left op = some c →
    2 * (left - op) ≤ (TL s (d - 1)).length ∧ pre (TL s (d - 1)) (2 * (left - op)) ≤ c
  | 0, left, op, c, hN, h => by
    obtain ⟨h1, h2, h3⟩ := cst_open s _ _ _ _ h
    have : left = 0 := (Nat.eq_zero_or_pos left).elim id (fun g => absurd (h3 g).1 (by omega))
    subst this
    simp [pre]
  | d + 1, left, op, c, hN, h => by
    obtain ⟨h1, h2, h3⟩ := cst_open s _ _ _ _ h
    by_cases hl : left = 0
    · subst hl; simp [pre]
    · obtain ⟨t, c', ht, e1, e2⟩ := cst_step s d left op c (by omega) h
      obtain ⟨g1, g2, g3⟩ := cst_open s _ _ _ _ e1
      obtain ⟨i1, i2⟩ := cst_low hr d (left - t) (2 * (op - t)) c' (by omega) e1
      rw [show d + 1 - 1 = d by omega]
      by_cases hd : d = 0
      · subst hd
        have hlt : left - t = 0 := (Nat.eq_zero_or_pos (left - t)).elim id (fun g => absurd (g3 g).1 (by omega))
        have := (g2 hlt).1
        rw [show 2 * (left - op) = 0 by omega]
        simp [pre]
      · obtain ⟨d', rfl⟩ : ∃ d', d = d' + 1 := ⟨d - 1, by omega⟩
        rw [show d' + 1 - 1 = d' by omega] at i1 i2
        have e : 2 * (left - op) - (left - t) = left - t - 2 * (op - t) := by omega
        have hB : 2 * (left - op) - (left - t) ≤ (prs (TL s d')).length := by rw [prs_len, e]; omega
        have hl' : (TL s (d' + 1)).length = s.length + (prs (TL s d')).length := by rw [TL, mrg_len]
        have hkk : 2 * (left - op) ≤ s.length + (prs (TL s d')).length := by omega
        obtain ⟨a, hs, hpre⟩ := mrg_split s (prs (TL s d')) hr (prs_rising _ (TL_rising s hr d')) (2 * (left - op)) hkk
        have hlow := (spl_least hs (left - t) (by omega) (by omega) hB).1
        refine ⟨by omega, ?_⟩
        show pre (mrg s (prs (TL s d'))) (2 * (left - op)) ≤ c
        rw [hpre]
        refine Nat.le_trans hlow ?_
        unfold spc
        rw [prs_pre _ _ (by rw [prs_len] at hB; exact hB), e, e2]
        omega
end Go.Proofs.Ythjokhfjfiaaiaa
