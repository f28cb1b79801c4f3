/-
  Two rising lists merged, and the least split: laid ahead for package merge; no Go in sight.
-/
import Derived.Test.YthjokhfjfiaaiaaOb
namespace Go.Proofs.Ythjokhfjfiaaiaa
open Go.ChangeShapes Go.WideShapes Go.ChangeAt Go.RowKit
open Go.ChangeMaps (open_string shut_string)

/-! ### two rising lists merged: which split is least -/
def at0 (l : List Nat) (i : Nat) : Nat := l.getD i 0
def pre (l : List Nat) (k : Nat) : Nat := (l.take k).sum
theorem pre_succ (l : List Nat) (k : Nat) (h : k < l.length) : pre l (k + 1) = pre l k + at0 l k := by
  unfold pre at0
  rw [List.take_succ_eq_append_getElem h, List.sum_append, List.getD_eq_getElem?_getD, List.getElem?_eq_getElem h]
  simp
/-- The first k of A and B merged, B ahead where they weigh alike, are a of A and k - a of B. -/
def Spl (A B : List Nat) (k a : Nat) : Prop :=
  a ≤ A.length ∧ a ≤ k ∧ k - a ≤ B.length ∧ (∀ i j, i < a → k - a ≤ j → j < B.length → at0 A i < at0 B j) ∧ (∀ i j, a ≤ i → i < A.length → j < k - a → at0 B j ≤ at0 A i)
def spc (A B : List Nat) (k x : Nat) : Nat := pre A x + pre B (k - x)
theorem spc_up {A B : List Nat} {k a x : Nat} (h : Spl A B k a) (hx : a ≤ x) (hA : x < A.length) (hk : x < k) : spc A B k x ≤ spc A B k (x + 1) := by
  obtain ⟨h1, h2, h3, h4, h5⟩ := h
  unfold spc
  have e : k - x = (k - (x + 1)) + 1 := by omega
  rw [pre_succ A x hA, e, pre_succ B _ (by omega)]
  have := h5 x (k - (x + 1)) hx hA (by omega)
  omega
theorem spc_down {A B : List Nat} {k a x : Nat} (h : Spl A B k a) (hx : x < a) (hB : k - x ≤ B.length) : spc A B k (x + 1) < spc A B k x := by
  obtain ⟨h1, h2, h3, h4, h5⟩ := h
  unfold spc
  have e : k - x = (k - (x + 1)) + 1 := by omega
  rw [pre_succ A x (by omega), e, pre_succ B _ (by omega)]
  have := h4 x (k - (x + 1)) hx (by omega) (by omega)
  omega
theorem spl_up {A B : List Nat} {k a : Nat} (h : Spl A B k a) : ∀ d, a + d ≤ A.length → a + d ≤ k → spc A B k a ≤ spc A B k (a + d)
  | 0, _, _ => Nat.le_refl _
  | d + 1, h1, h2 => Nat.le_trans (spl_up h d (by omega) (by omega)) (spc_up h (by omega) (by omega) (by omega))
theorem spl_down {A B : List Nat} {k a : Nat} (h : Spl A B k a) : ∀ d, d < a → k - (a - (d + 1)) ≤ B.length → spc A B k a < spc A B k (a - (d + 1))
  | 0, h1, h2 => by
    have := spc_down (x := a - 1) h (by omega) h2
    rwa [show a - 1 + 1 = a by omega] at this
  | d + 1, h1, h2 => by
    have i := spl_down h d (by omega) (by omega)
    have := spc_down (x := a - (d + 1 + 1)) h (by omega) h2
    rw [show a - (d + 1 + 1) + 1 = a - (d + 1) by omega] at this
    omega
theorem spl_least {A B : List Nat} {k a : Nat} (h : Spl A B k a) (x : Nat) (hA : x ≤ A.length) (hk : x ≤ k) (hB : k - x ≤ B.length) : spc A B k a ≤ spc A B k x ∧ (x < a → spc A B k a < spc A B k x) := by
  by_cases hx : x < a
  · have := spl_down h (a - x - 1) (by omega) (by rw [show a - (a - x - 1 + 1) = x by omega]; exact hB)
    rw [show a - (a - x - 1 + 1) = x by omega] at this
    exact ⟨Nat.le_of_lt this, fun _ => this⟩
  · have := spl_up h (x - a) (by omega) (by omega)
    rw [show a + (x - a) = x by omega] at this
    exact ⟨this, fun h => absurd h hx⟩
theorem spl_one {A B : List Nat} {k a b : Nat} (h : Spl A B k a) (g : Spl A B k b) : a = b := by
  have h1 := spl_least h b g.1 g.2.1 g.2.2.1
  have h2 := spl_least g a h.1 h.2.1 h.2.2.1
  by_cases e : a < b
  · have := h2.2 e; omega
  · by_cases e' : b < a
    · have := h1.2 e'; omega
    · omega

/-! ### the merged list -/
def Rising (l : List Nat) : Prop := l.Pairwise (· ≤ ·)
def mrgF : Nat → List Nat → List Nat → List Nat
  | 0, _, _ => []
  | _ + 1, [], [] => []
  | n + 1, [], b :: B => b :: mrgF n [] B
  | n + 1, a :: A, [] => a :: mrgF n A []
  | n + 1, a :: A, b :: B => if b ≤ a then b :: mrgF n (a :: A) B else a :: mrgF n A (b :: B)
def mrg (A B : List Nat) : List Nat := mrgF (A.length + B.length) A B
theorem at0_cons_zero (b : Nat) (B : List Nat) : at0 (b :: B) 0 = b := rfl
theorem at0_cons_succ (b : Nat) (B : List Nat) (j : Nat) : at0 (b :: B) (j + 1) = at0 B j := by unfold at0; simp
theorem at0_mem (l : List Nat) (i : Nat) (h : i < l.length) : at0 l i ∈ l := by
  unfold at0; rw [List.getD_eq_getElem?_getD, List.getElem?_eq_getElem h]; exact List.getElem_mem h
theorem rising_head {b : Nat} {B : List Nat} (h : Rising (b :: B)) (j : Nat) (hj : j < (b :: B).length) : b ≤ at0 (b :: B) j := by
  cases j with
  | zero => exact Nat.le_refl _
  | succ j =>
    rw [at0_cons_succ]
    exact (List.pairwise_cons.1 h).1 _ (at0_mem B j (by simpa using hj))
theorem pre_cons (b : Nat) (B : List Nat) (k : Nat) : pre (b :: B) (k + 1) = b + pre B k := by unfold pre; simp
theorem mrgF_split : ∀ (n : Nat) (A B : List Nat), Rising A → Rising B → A.length + B.length ≤ n → ∀ k, k ≤ A.length + B.length → ∃ a, Spl A B k a ∧ pre (mrgF n A B) k = spc A B k a
  | n, A, B, hA, hB, hn, 0, _ => ⟨0, ⟨Nat.zero_le _, Nat.zero_le _, by simp, fun i j hi => absurd hi (by omega), fun i j _ _ hj => absurd hj (by omega)⟩, by simp [pre, spc]⟩
  | 0, A, B, hA, hB, hn, k + 1, hk => absurd hk (by omega)
  | n + 1, [], [], hA, hB, hn, k + 1, hk => absurd hk (by simp)
  | n + 1, [], b :: B, hA, hB, hn, k + 1, hk => by
    obtain ⟨a, h, e⟩ := mrgF_split n [] B hA (List.pairwise_cons.1 hB).2 (by simp at hn ⊢; omega) k (by simp at hk ⊢; omega)
    have ha : a = 0 := by have := h.1; simpa using this
    subst ha
    refine ⟨0, ⟨Nat.zero_le _, Nat.zero_le _, by simp at hk ⊢; omega, fun i j hi => absurd hi (by omega), fun i j _ hi => absurd hi (by simp)⟩, ?_⟩
    rw [mrgF, pre_cons, e]
    unfold spc
    rw [show k + 1 - 0 = (k - 0) + 1 by omega, pre_cons]
    omega
  | n + 1, a :: A, [], hA, hB, hn, k + 1, hk => by
    obtain ⟨x, h, e⟩ := mrgF_split n A [] (List.pairwise_cons.1 hA).2 hB (by simp at hn ⊢; omega) k (by simp at hk ⊢; omega)
    have hx : x = k := by have := h.2.1; have := h.2.2.1; simp at this; omega
    subst hx
    refine ⟨x + 1, ⟨by simp at hk ⊢; omega, Nat.le_refl _, by simp, fun i j _ _ hj => absurd hj (by simp), fun i j _ _ hj => absurd hj (by omega)⟩, ?_⟩
    rw [mrgF, pre_cons, e]
    unfold spc
    rw [pre_cons]
    simp [pre]
  | n + 1, a :: A, b :: B, hA, hB, hn, k + 1, hk => by
    by_cases hab : b ≤ a
    · obtain ⟨x, h, e⟩ := mrgF_split n (a :: A) B hA (List.pairwise_cons.1 hB).2 (by simp at hn ⊢; omega) k (by simp at hk ⊢; omega)
      obtain ⟨h1, h2, h3, h4, h5⟩ := h
      refine ⟨x, ⟨h1, by omega, by simp; omega, fun i j hi hj hjl => ?_, fun i j hi hil hj => ?_⟩, ?_⟩
      · obtain ⟨j', rfl⟩ : ∃ j', j = j' + 1 := ⟨j - 1, by omega⟩
        rw [at0_cons_succ]
        exact h4 i j' hi (by omega) (by simpa using hjl)
      · cases j with
        | zero => rw [at0_cons_zero]; exact Nat.le_trans hab (rising_head hA i hil)
        | succ j => rw [at0_cons_succ]; exact h5 i j hi hil (by omega)
      · rw [mrgF, if_pos hab, pre_cons, e]
        unfold spc
        rw [show k + 1 - x = (k - x) + 1 by omega, pre_cons]
        omega
    · obtain ⟨x, h, e⟩ := mrgF_split n A (b :: B) (List.pairwise_cons.1 hA).2 hB (by simp at hn ⊢; omega) k (by simp at hk ⊢; omega)
      obtain ⟨h1, h2, h3, h4, h5⟩ := h
      refine ⟨x + 1, ⟨by simp; omega, by omega, by omega, fun i j hi hj hjl => ?_, fun i j hi hil hj => ?_⟩, ?_⟩
      · cases i with
        | zero => rw [at0_cons_zero]; have := rising_head hB j hjl; omega
        | succ i => rw [at0_cons_succ]; exact h4 i j (by omega) (by omega) hjl
      · obtain ⟨i', rfl⟩ : ∃ i', i = i' + 1 := ⟨i - 1, by omega⟩
        rw [at0_cons_succ]
        exact h5 i' j (by omega) (by simpa using hil) (by omega)
      · rw [mrgF, if_neg hab, pre_cons, e]
        unfold spc
        rw [pre_cons, show k + 1 - (x + 1) = k - x by omega]
        omega
theorem mrg_split (A B : List Nat) (hA : Rising A) (hB : Rising B) (k : Nat) (hk : k ≤ A.length + B.length) : ∃ a, Spl A B k a ∧ pre (mrg A B) k = spc A B k a :=
  mrgF_split _ A B hA hB (Nat.le_refl _) k hk
end Go.Proofs.Ythjokhfjfiaaiaa
