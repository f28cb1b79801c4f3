/-
  Along the splits the cost is the least one; fewer singles cost more; how many classes are longer, level by level, and that none cost less: laid ahead for package merge.
-/
import Derived.Test.YthjokhfjfiaaiaaPo
namespace Go.Proofs.Ythjokhfjfiaaiaa
open Go.ChangeShapes Go.WideShapes Go.ChangeAt Go.RowKit
open Go.ChangeMaps (open_string shut_string)

/-! ### along the splits the cost is the least one, and the least split is the one that is chosen -/
theorem cst_chain {s : List Nat} (hr : Rising s) (hp : ∀ x ∈ s, 0 < x) : ∀ (d k a : Nat), Spl s (prs (TL s d)) k a → cst s (d + 1) a (2 * a - k) = some (pre (TL s d) (2 * (k - a))) := by
  intro d
  induction d with
  | zero =>
    intro k a h
    obtain ⟨h1, h2, h3, _, _⟩ := h
    have hk : k = a := by simp [TL, prs] at h3; omega
    subst hk
    by_cases h0 : k = 0
    · subst h0; rw [cst_left0]; rfl
    · have e0 : cst s 0 (k - k) (2 * (k - k)) = some 0 := by rw [Nat.sub_self]; rfl
      obtain ⟨x, hx, hle⟩ := lst_le (fun take => (cst s 0 (k - take) (2 * (k - take))).map (· + pre s (k - take))) (k + 1) k 0 (by omega) (by simp only [e0]; rw [Nat.sub_self]; rfl)
      rw [show 2 * k - k = k by omega, cst, if_neg h0, if_neg (by omega), hx, Nat.sub_self]
      have : x = 0 := by omega
      rw [this]; rfl
  | succ d ih =>
    intro k a h
    have hs := half_split hp (half_all s hr hp (d + 1)) h
    obtain ⟨h1, h2, h3, h4, h5⟩ := h
    by_cases h0 : k = 0
    · have : a = 0 := by omega
      subst this h0
      rw [cst_left0]; rfl
    · have hs := hs (by omega)
      have h3' := h3
      rw [prs_len] at h3'
      have hl : (TL s (d + 1)).length = s.length + (prs (TL s d)).length := by rw [TL, mrg_len]
      obtain ⟨a', hs', hpre⟩ := mrg_split s (prs (TL s d)) hr (prs_rising _ (TL_rising s hr d)) (2 * (k - a)) (by omega)
      have hfew := fewer hr hp ⟨h1, h2, h3, h4, h5⟩ hs'
      have hmaj : k - a ≤ a' := by
        by_cases g : k - a = 0
        · omega
        · have := half_split hp (half_all s hr hp d) hs' (by omega); omega
      have i := ih (2 * (k - a)) a' hs'
      have hsp : pre (TL s (d + 1)) (2 * (k - a)) = pre (TL s d) (2 * (2 * (k - a) - a')) + pre s a' := by
        show pre (mrg s (prs (TL s d))) (2 * (k - a)) = _
        rw [hpre]
        unfold spc
        rw [prs_pre _ _ (by have := hs'.2.2.1; rwa [prs_len] at this)]
        omega
      have e0 : cst s (d + 1) (a - (a - a')) (2 * (2 * a - k - (a - a'))) = some (pre (TL s d) (2 * (2 * (k - a) - a'))) := by
        rw [show a - (a - a') = a' by omega, show 2 * (2 * a - k - (a - a')) = 2 * a' - 2 * (k - a) by omega]; exact i
      obtain ⟨x, hx, hle⟩ := lst_le (fun take => (cst s (d + 1) (a - take) (2 * (2 * a - k - take))).map (· + pre s (a - take))) (2 * a - k + 1) (a - a') (pre (TL s (d + 1)) (2 * (k - a))) (by omega)
        (by simp only [e0]; rw [hsp, show a - (a - a') = a' by omega]; rfl)
      have hc : cst s (d + 1 + 1) a (2 * a - k) = some x := by
        rw [cst, if_neg (by omega), if_neg (by omega)]; exact hx
      have hlow := (cst_low hr (d + 1 + 1) a (2 * a - k) x h1 hc).2
      rw [show d + 1 + 1 - 1 = d + 1 by omega, show a - (2 * a - k) = k - a by omega] at hlow
      rw [hc]
      congr 1
      omega
/-- Fewer singles than the next split takes cost more. -/
theorem cst_more {s : List Nat} (hr : Rising s) {d left op t c' a' : Nat} (hN : left ≤ s.length) (hs' : Spl s (prs (TL s d)) (2 * (left - op)) a') (ht : t ≤ op) (hol : op ≤ left) (hlt : left - t < a')
    (e1 : cst s (d + 1) (left - t) (2 * (op - t)) = some c') : pre (TL s (d + 1)) (2 * (left - op)) < c' + pre s (left - t) := by
  obtain ⟨g1, g2, g3⟩ := cst_open s _ _ _ _ e1
  obtain ⟨i1, i2⟩ := cst_low hr (d + 1) (left - t) (2 * (op - t)) c' (by omega) e1
  rw [show d + 1 - 1 = d by omega] at i1 i2
  have e : 2 * (left - op) - (left - t) = left - t - 2 * (op - t) := by omega
  have hB : 2 * (left - op) - (left - t) ≤ (prs (TL s d)).length := by rw [prs_len, e]; omega
  obtain ⟨a, hs, hpre⟩ := mrg_split s (prs (TL s d)) hr (prs_rising _ (TL_rising s hr d)) (2 * (left - op)) (by omega)
  obtain rfl := spl_one hs hs'
  have hlow := (spl_least hs (left - t) (by omega) (by omega) hB).2 hlt
  show pre (mrg s (prs (TL s d))) (2 * (left - op)) < _
  rw [hpre]
  refine Nat.lt_of_lt_of_le hlow ?_
  unfold spc
  rw [prs_pre _ _ (by rw [prs_len] at hB; exact hB), e]
  omega

/-! ### how many classes are longer, level by level -/
def Chain (s : List Nat) : Nat → Nat → List Nat → Prop
  | 0, k, ls => k = 0 ∧ ls = []
  | d + 1, k, ls => ∃ a r, ls = a :: r ∧ Spl s (prs (TL s d)) k a ∧ Chain s d (2 * (k - a)) r
theorem chain_is {s : List Nat} (hr : Rising s) : ∀ d k, k ≤ (TL s d).length → ∃ ls, Chain s d k ls
  | 0, k, h => ⟨[], by simp [TL] at h; exact ⟨h, rfl⟩⟩
  | d + 1, k, h => by
    have hl : (TL s (d + 1)).length = s.length + (prs (TL s d)).length := by rw [TL, mrg_len]
    obtain ⟨a, hs, _⟩ := mrg_split s (prs (TL s d)) hr (prs_rising _ (TL_rising s hr d)) k (by omega)
    have := hs.2.2.1
    rw [prs_len] at this
    obtain ⟨r, hc⟩ := chain_is hr d (2 * (k - a)) (by omega)
    exact ⟨a :: r, a, r, rfl, hs, hc⟩
/-- Any numbers of classes that are longer, level by level, that fill all places. -/
def Wd : Nat → List Nat → Prop
  | k, [] => k = 0
  | k, a :: r => a ≤ k ∧ Wd (2 * (k - a)) r
theorem chain_wd {s : List Nat} : ∀ d k ls, Chain s d k ls → Wd k ls ∧ ls.length = d ∧ ∀ a ∈ ls, a ≤ s.length
  | 0, k, ls, h => by rw [h.2]; exact ⟨h.1, rfl, fun a ha => by simp at ha⟩
  | d + 1, k, ls, ⟨a, r, e, h1, h2⟩ => by
    obtain ⟨i1, i2, i3⟩ := chain_wd d _ r h2
    subst e
    refine ⟨⟨h1.2.1, i1⟩, by simp [i2], fun x hx => ?_⟩
    rcases List.mem_cons.1 hx with h | h
    · rw [h]; exact h1.1
    · exact i3 x h
theorem chain_falls {s : List Nat} (hr : Rising s) (hp : ∀ x ∈ s, 0 < x) : ∀ d k ls, Chain s d k ls → ls.Pairwise (fun a b => b ≤ a)
  | 0, k, ls, h => by rw [h.2]; exact List.Pairwise.nil
  | d + 1, k, ls, ⟨a, r, e, h1, h2⟩ => by
    subst e
    have i := chain_falls hr hp d _ r h2
    refine List.pairwise_cons.2 ⟨fun x hx => ?_, i⟩
    cases d with
    | zero => rw [h2.2] at hx; simp at hx
    | succ d =>
      obtain ⟨b, q, e, g1, g2⟩ := h2
      subst e
      have hf := fewer hr hp h1 g1
      rcases List.mem_cons.1 hx with h | h
      · rw [h]; exact hf
      · exact Nat.le_trans ((List.pairwise_cons.1 i).1 x h) hf
/-- Of all places the first level takes all classes. -/
theorem chain_first {s : List Nat} (hr : Rising s) (hp : ∀ x ∈ s, 0 < x) {d : Nat} {ls : List Nat} (hN : 2 ≤ s.length) (h : Chain s (d + 1) (2 * s.length - 2) ls) : ∃ r, ls = s.length :: r := by
  obtain ⟨a, r, e, h1, h2⟩ := h
  have := half_split hp (half_all s hr hp d) h1 (by omega)
  have ha := h1.1
  exact ⟨r, by rw [e, show a = s.length by omega]⟩
end Go.Proofs.Ythjokhfjfiaaiaa
