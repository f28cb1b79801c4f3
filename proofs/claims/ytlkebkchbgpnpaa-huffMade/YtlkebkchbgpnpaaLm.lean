/-
  What the reference chooses, level by level, are the splits.
-/
import Derived.Test.YtlkebkchbgpnpaaRc
namespace Go.Proofs.Ytlkebkchbgpnpaa
open Go.ChangeShapes Go.WideShapes Go.ChangeAt Go.RowKit
open Go.ChangeMaps (open_string shut_string)

/-! ### what the reference chooses, level by level -/
def hd (l : List Nat) : Nat := l.headD 0
theorem chosen {s : List Nat} (hr : Rising s) (hp : ∀ x ∈ s, 0 < x) {d k a : Nat} {r : List Nat} (h1 : Spl s (prs (TL s d)) k a) (h2 : Chain s d (2 * (k - a)) r) :
    cst s (d + 1) a (2 * a - k) = some (pre (TL s d) (2 * (k - a))) ∧ hd r ≤ a ∧ a - hd r ≤ 2 * a - k ∧ Ft s d a (2 * a - k) (a - hd r) = some (pre (TL s d) (2 * (k - a))) ∧ (∀ t, a - hd r < t → t ≤ 2 * a - k → Ft s d a (2 * a - k) t ≠ some (pre (TL s d) (2 * (k - a)))) ∧ 2 * (2 * a - k - (a - hd r)) = 2 * hd r - 2 * (k - a) := by
  refine ⟨cst_chain hr hp d k a h1, ?_⟩
  have q2 := h1.2.1
  have easy : k = a → hd r = 0 → hd r ≤ a ∧ a - hd r ≤ 2 * a - k ∧ Ft s d a (2 * a - k) (a - hd r) = some (pre (TL s d) (2 * (k - a))) ∧ (∀ t, a - hd r < t → t ≤ 2 * a - k → Ft s d a (2 * a - k) t ≠ some (pre (TL s d) (2 * (k - a)))) ∧ 2 * (2 * a - k - (a - hd r)) = 2 * hd r - 2 * (k - a) := fun e1 e2 => by
    subst e1
    rw [e2]
    refine ⟨by omega, by omega, ?_, fun t h3 h4 => by omega, by omega⟩
    unfold Ft
    rw [Nat.sub_zero, Nat.sub_self, show 2 * (2 * k - k - k) = 0 by omega, cst_left0]
    rfl
  cases d with
  | zero =>
    obtain ⟨e1, e2⟩ := h2
    exact easy (by omega) (by rw [e2]; rfl)
  | succ d =>
    obtain ⟨a', r', e, g1, g2⟩ := h2
    have he : hd r = a' := by rw [e]; rfl
    by_cases hk : k - a = 0
    · exact easy (by omega) (by have := g1.2.1; omega)
    · have few := fewer hr hp h1 g1
      have half := half_split hp (half_all s hr hp d) g1 (by omega)
      have hl : (TL s (d + 1)).length = s.length + (prs (TL s d)).length := by rw [TL, mrg_len]
      have h3 := h1.2.2.1
      rw [prs_len] at h3
      obtain ⟨b, hs', hpre⟩ := mrg_split s (prs (TL s d)) hr (prs_rising _ (TL_rising s hr d)) (2 * (k - a)) (by omega)
      obtain rfl := spl_one hs' g1
      have hsp : pre (TL s (d + 1)) (2 * (k - a)) = pre (TL s d) (2 * (2 * (k - a) - b)) + pre s b := by
        show pre (mrg s (prs (TL s d))) (2 * (k - a)) = _
        rw [hpre]
        unfold spc
        rw [prs_pre _ _ (by have := hs'.2.2.1; rwa [prs_len] at this)]
        omega
      rw [he]
      have ha := h1.1
      refine ⟨few, by omega, ?_, fun t h4 h5 h6 => ?_, by omega⟩
      · unfold Ft
        rw [show a - (a - b) = b by omega, show 2 * (2 * a - k - (a - b)) = 2 * b - 2 * (k - a) by omega, cst_chain hr hp d _ b g1, hsp]
        rfl
      · unfold Ft at h6
        obtain ⟨c', e1, e2⟩ := Option.map_eq_some_iff.1 h6
        have := cst_more (left := a) (op := 2 * a - k) hr ha (by rw [show 2 * (a - (2 * a - k)) = 2 * (k - a) by omega]; exact g1) h5 (by omega) (by omega) e1
        rw [show 2 * (a - (2 * a - k)) = 2 * (k - a) by omega] at this
        omega
theorem ln_level (p r : List Nat) (a x : Nat) (hf : (p ++ a :: r).Pairwise (fun a b => b ≤ a)) (h1 : hd r ≤ x) (h2 : x < a) : ln (p ++ a :: r) x = p.length + 1 := by
  rw [List.pairwise_append, List.pairwise_cons] at hf
  obtain ⟨f1, ⟨f2, f3⟩, f4⟩ := hf
  rw [ln_append, ln_cons, if_pos h2]
  have e1 : ln p x = p.length := by
    unfold ln
    rw [List.countP_eq_length]
    intro y hy
    have := f4 y hy a List.mem_cons_self
    simp; omega
  have e2 : ln r x = 0 := by
    refine ln_none r x (fun y hy => ?_)
    cases r with
    | nil => simp at hy
    | cons b r =>
      have hb : b ≤ x := h1
      rcases List.mem_cons.1 hy with h | h
      · rw [h]; exact hb
      · have := (List.pairwise_cons.1 f3).1 y h; omega
  rw [e1, e2, Nat.zero_add]
/-- What is still to be told: the levels that are left, from length l on. -/
def Lvl (s full : List Nat) (limit N l f op : Nat) : Prop :=
  ∃ p rr k, full = p ++ rr ∧ p.length + 1 = l ∧ l ≤ limit + 1 ∧ Chain s (limit + 1 - l) k rr ∧ f + hd rr = N ∧ op = 2 * hd rr - k
theorem lvl_start {s full : List Nat} {limit N : Nat} (hr : Rising s) (hp : ∀ x ∈ s, 0 < x) (hN : s.length = N) (h2 : 2 ≤ N) (hlim : 1 ≤ limit) (h : Chain s limit (2 * N - 2) full) : Lvl s full limit N 1 0 2 := by
  obtain ⟨d, rfl⟩ : ∃ d, limit = d + 1 := ⟨limit - 1, by omega⟩
  rw [← hN] at h
  obtain ⟨q, e⟩ := chain_first hr hp (by omega) h
  refine ⟨[], full, 2 * N - 2, rfl, rfl, by omega, by rw [show d + 1 + 1 - 1 = d + 1 by omega, ← hN]; exact h, by rw [e]; show 0 + s.length = N; omega, by rw [e]; show 2 = 2 * s.length - (2 * N - 2); omega⟩
/-- One level on. -/
theorem lvl_next {s full : List Nat} {limit N l f op : Nat} (hr : Rising s) (hp : ∀ x ∈ s, 0 < x) (hfl : full.Pairwise (fun a b => b ≤ a)) (h : Lvl s full limit N l f op) (hf : f < N) :
    l ≤ limit ∧ op ≤ N - f ∧ ∃ W t0, cst s (limit + 1 - l) (N - f) op = some W ∧ t0 ≤ op ∧ Ft s (limit - l) (N - f) op t0 = some W ∧ (∀ t, t0 < t → t ≤ op → Ft s (limit - l) (N - f) op t ≠ some W) ∧ Lvl s full limit N (l + 1) (f + t0) (2 * (op - t0)) ∧ (∀ q, f ≤ q → q < f + t0 → ln full (N - 1 - q) = l) := by
  obtain ⟨p, rr, k, e1, e2, e3, hc, e4, e5⟩ := h
  by_cases hd0 : limit + 1 - l = 0
  · rw [hd0] at hc
    have : hd rr = 0 := by rw [hc.2]; rfl
    omega
  · obtain ⟨d, hd1⟩ : ∃ d, limit + 1 - l = d + 1 := ⟨limit - l, by omega⟩
    rw [hd1] at hc
    obtain ⟨a, r, e, h1, h2⟩ := hc
    have ha : hd rr = a := by rw [e]; rfl
    rw [ha] at e4 e5
    obtain ⟨c1, c2, c3, c4, c5, c6⟩ := chosen hr hp h1 h2
    have hNf : N - f = a := by omega
    have hdl : limit - l = d := by omega
    have q2 := h1.2.1
    rw [hd1, hNf, hdl, e5]
    refine ⟨by omega, by omega, _, a - hd r, c1, c3, c4, c5, ?_, fun q g1 g2 => ?_⟩
    · exact ⟨p ++ [a], r, 2 * (k - a), by rw [e1, e]; simp, by simp; omega, by omega, by rw [show limit + 1 - (l + 1) = d by omega]; exact h2, by omega, c6⟩
    · rw [e1, e]
      rw [e1, e] at hfl
      rw [ln_level p r a _ hfl (by omega) (by omega)]; omega
end Go.Proofs.Ytlkebkchbgpnpaa
