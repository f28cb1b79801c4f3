/-
  Two rising lists merged, and the least split: laid ahead for package merge; no Go in sight; what lies in the first of two lists merged; packages; the lists of all levels: laid ahead for package merge; more singles than packages, fewer from level to level; the least cost level by level, and what it is not below: laid ahead for package merge; along the splits the cost is the least one; fewer singles cost more; how many classes are longer, level by level, and that none cost less: laid ahead for package merge; from lengths to how many are longer, level by level; any classes weigh no less than as many of the least; no lengths that may be cost less than the splits say: laid ahead for package merge; the lengths that the splits say: they may be, and cost what the splits cost; a level more costs no more; there is room for 65 classes: laid ahead for package merge.
-/
import Derived.Test.YtlkebkchbgpnpaaOb
namespace Go.Proofs.Ytlkebkchbgpnpaa
open Go.ChangeShapes Go.WideShapes Go.ChangeAt Go.RowKit
open Go.ChangeMaps (open_string shut_string)

/-! ### two rising lists merged: which split is least -/
def at0 (l : List Nat) (i : Nat) : Nat := l.getD i 0
def pre (l : List Nat) (k : Nat) : Nat := (l.take k).sum
theorem pre_succ (l : List Nat) (k : Nat) (h : k < l.length) : pre l (k + 1) = pre l k + at0 l k := by
  unfold pre at0
  rw [List.take_succ_eq_append_getElem h, List.sum_append, List.getD_eq_getElem?_getD, List.getElem?_eq_getElem h]
  simp
/-- The first k of A and B merged, B ahead where they weigh alike, are a of A and k - a of B. -/
def Spl (A B : List Nat) (k a : Nat) : Prop :=
  a ≤ A.length ∧ a ≤ k ∧ k - a ≤ B.length ∧ (∀ i j, i < a → k - a ≤ j → j < B.length → at0 A i < at0 B j) ∧ (∀ i j, a ≤ i → i < A.length → j < k - a → at0 B j ≤ at0 A i)
def spc (A B : List Nat) (k x : Nat) : Nat := pre A x + pre B (k - x)
theorem spc_up {A B : List Nat} {k a x : Nat} (h : Spl A B k a) (hx : a ≤ x) (hA : x < A.length) (hk : x < k) : spc A B k x ≤ spc A B k (x + 1) := by
  obtain ⟨h1, h2, h3, h4, h5⟩ := h
  unfold spc
  have e : k - x = (k - (x + 1)) + 1 := by omega
  rw [pre_succ A x hA, e, pre_succ B _ (by omega)]
  have := h5 x (k - (x + 1)) hx hA (by omega)
  omega
theorem spc_down {A B : List Nat} {k a x : Nat} (h : Spl A B k a) (hx : x < a) (hB : k - x ≤ B.length) : spc A B k (x + 1) < spc A B k x := by
  obtain ⟨h1, h2, h3, h4, h5⟩ := h
  unfold spc
  have e : k - x = (k - (x + 1)) + 1 := by omega
  rw [pre_succ A x (by omega), e, pre_succ B _ (by omega)]
  have := h4 x (k - (x + 1)) hx (by omega) (by omega)
  omega
theorem spl_up {A B : List Nat} {k a : Nat} (h : Spl A B k a) : ∀ d, a + d ≤ A.length → a + d ≤ k → spc A B k a ≤ spc A B k (a + d)
  | 0, _, _ => Nat.le_refl _
  | d + 1, h1, h2 => Nat.le_trans (spl_up h d (by omega) (by omega)) (spc_up h (by omega) (by omega) (by omega))
theorem spl_down {A B : List Nat} {k a : Nat} (h : Spl A B k a) : ∀ d, d < a → k - (a - (d + 1)) ≤ B.length → spc A B k a < spc A B k (a - (d + 1))
  | 0, h1, h2 => by
    have := spc_down (x := a - 1) h (by omega) h2
    rwa [show a - 1 + 1 = a by omega] at this
  | d + 1, h1, h2 => by
    have i := spl_down h d (by omega) (by omega)
    have := spc_down (x := a - (d + 1 + 1)) h (by omega) h2
    rw [show a - (d + 1 + 1) + 1 = a - (d + 1) by omega] at this
    omega
theorem spl_least {A B : List Nat} {k a : Nat} (h : Spl A B k a) (x : Nat) (hA : x ≤ A.length) (hk : x ≤ k) (hB : k - x ≤ B.length) : spc A B k a ≤ spc A B k x ∧ (x < a → spc A B k a < spc A B k x) := by
  by_cases hx : x < a
  · have := spl_down h (a - x - 1) (by omega) (by rw [show a - (a - x - 1 + 1) = x by omega]; exact hB)
    rw [show a - (a - x - 1 + 1) = x by omega] at this
    exact ⟨Nat.le_of_lt this, fun _ => this⟩
  · have := spl_up h (x - a) (by omega) (by omega)
    rw [show a + (x - a) = x by omega] at this
    exact ⟨this, fun h => absurd h hx⟩
theorem spl_one {A B : List Nat} {k a b : Nat} (h : Spl A B k a) (g : Spl A B k b) : a = b := by
  have h1 := spl_least h b g.1 g.2.1 g.2.2.1
  have h2 := spl_least g a h.1 h.2.1 h.2.2.1
  by_cases e : a < b
  · have := h2.2 e; omega
  · by_cases e' : b < a
    · have := h1.2 e'; omega
    · omega

/-! ### the merged list -/
def Rising (l : List Nat) : Prop := l.Pairwise (· ≤ ·)
def mrgF : Nat → List Nat → List Nat → List Nat
  | 0, _, _ => []
  | _ + 1, [], [] => []
  | n + 1, [], b :: B => b :: mrgF n [] B
  | n + 1, a :: A, [] => a :: mrgF n A []
  | n + 1, a :: A, b :: B => if b ≤ a then b :: mrgF n (a :: A) B else a :: mrgF n A (b :: B)
def mrg (A B : List Nat) : List Nat := mrgF (A.length + B.length) A B
theorem at0_cons_zero (b : Nat) (B : List Nat) : at0 (b :: B) 0 = b := rfl
theorem at0_cons_succ (b : Nat) (B : List Nat) (j : Nat) : at0 (b :: B) (j + 1) = at0 B j := by unfold at0; simp
theorem at0_mem (l : List Nat) (i : Nat) (h : i < l.length) : at0 l i ∈ l := by
  unfold at0; rw [List.getD_eq_getElem?_getD, List.getElem?_eq_getElem h]; exact List.getElem_mem h
theorem rising_head {b : Nat} {B : List Nat} (h : Rising (b :: B)) (j : Nat) (hj : j < (b :: B).length) : b ≤ at0 (b :: B) j := by
  cases j with
  | zero => exact Nat.le_refl _
  | succ j =>
    rw [at0_cons_succ]
    exact (List.pairwise_cons.1 h).1 _ (at0_mem B j (by simpa using hj))
theorem pre_cons (b : Nat) (B : List Nat) (k : Nat) : pre (b :: B) (k + 1) = b + pre B k := by unfold pre; simp
theorem mrgF_split : ∀ (n : Nat) (A B : List Nat), Rising A → Rising B → A.length + B.length ≤ n → ∀ k, k ≤ A.length + B.length → ∃ a, Spl A B k a ∧ pre (mrgF n A B) k = spc A B k a
  | n, A, B, hA, hB, hn, 0, _ => ⟨0, ⟨Nat.zero_le _, Nat.zero_le _, by simp, fun i j hi => absurd hi (by omega), fun i j _ _ hj => absurd hj (by omega)⟩, by simp [pre, spc]⟩
  | 0, A, B, hA, hB, hn, k + 1, hk => absurd hk (by omega)
  | n + 1, [], [], hA, hB, hn, k + 1, hk => absurd hk (by simp)
  | n + 1, [], b :: B, hA, hB, hn, k + 1, hk => by
    obtain ⟨a, h, e⟩ := mrgF_split n [] B hA (List.pairwise_cons.1 hB).2 (by simp at hn ⊢; omega) k (by simp at hk ⊢; omega)
    have ha : a = 0 := by have := h.1; simpa using this
    subst ha
    refine ⟨0, ⟨Nat.zero_le _, Nat.zero_le _, by simp at hk ⊢; omega, fun i j hi => absurd hi (by omega), fun i j _ hi => absurd hi (by simp)⟩, ?_⟩
    rw [mrgF, pre_cons, e]
    unfold spc
    rw [show k + 1 - 0 = (k - 0) + 1 by omega, pre_cons]
    omega
  | n + 1, a :: A, [], hA, hB, hn, k + 1, hk => by
    obtain ⟨x, h, e⟩ := mrgF_split n A [] (List.pairwise_cons.1 hA).2 hB (by simp at hn ⊢; omega) k (by simp at hk ⊢; omega)
    have hx : x = k := by have := h.2.1; have := h.2.2.1; simp at this; omega
    subst hx
    refine ⟨x + 1, ⟨by simp at hk ⊢; omega, Nat.le_refl _, by simp, fun i j _ _ hj => absurd hj (by simp), fun i j _ _ hj => absurd hj (by omega)⟩, ?_⟩
    rw [mrgF, pre_cons, e]
    unfold spc
    rw [pre_cons]
    simp [pre]
  | n + 1, a :: A, b :: B, hA, hB, hn, k + 1, hk => by
    by_cases hab : b ≤ a
    · obtain ⟨x, h, e⟩ := mrgF_split n (a :: A) B hA (List.pairwise_cons.1 hB).2 (by simp at hn ⊢; omega) k (by simp at hk ⊢; omega)
      obtain ⟨h1, h2, h3, h4, h5⟩ := h
      refine ⟨x, ⟨h1, by omega, by simp; omega, fun i j hi hj hjl => ?_, fun i j hi hil hj => ?_⟩, ?_⟩
      · obtain ⟨j', rfl⟩ : ∃ j', j = j' + 1 := ⟨j - 1, by omega⟩
        rw [at0_cons_succ]
        exact h4 i j' hi (by omega) (by simpa using hjl)
      · cases j with
        | zero => rw [at0_cons_zero]; exact Nat.le_trans hab (rising_head hA i hil)
        | succ j => rw [at0_cons_succ]; exact h5 i j hi hil (by omega)
      · rw [mrgF, if_pos hab, pre_cons, e]
        unfold spc
        rw [show k + 1 - x = (k - x) + 1 by omega, pre_cons]
        omega
    · obtain ⟨x, h, e⟩ := mrgF_split n A (b :: B) (List.pairwise_cons.1 hA).2 hB (by simp at hn ⊢; omega) k (by simp at hk ⊢; omega)
      obtain ⟨h1, h2, h3, h4, h5⟩ := h
      refine ⟨x + 1, ⟨by simp; omega, by omega, by omega, fun i j hi hj hjl => ?_, fun i j hi hil hj => ?_⟩, ?_⟩
      · cases i with
        | zero => rw [at0_cons_zero]; have := rising_head hB j hjl; omega
        | succ i => rw [at0_cons_succ]; exact h4 i j (by omega) (by omega) hjl
      · obtain ⟨i', rfl⟩ : ∃ i', i = i' + 1 := ⟨i - 1, by omega⟩
        rw [at0_cons_succ]
        exact h5 i' j (by omega) (by simpa using hil) (by omega)
      · rw [mrgF, if_neg hab, pre_cons, e]
        unfold spc
        rw [pre_cons, show k + 1 - (x + 1) = k - x by omega]
        omega
theorem mrg_split (A B : List Nat) (hA : Rising A) (hB : Rising B) (k : Nat) (hk : k ≤ A.length + B.length) : ∃ a, Spl A B k a ∧ pre (mrg A B) k = spc A B k a :=
  mrgF_split _ A B hA hB (Nat.le_refl _) k hk

/-! ### what lies in the first k of two lists merged -/
theorem mrgF_perm : ∀ (n : Nat) (A B : List Nat), Rising A → Rising B → A.length + B.length ≤ n → ∀ k, k ≤ A.length + B.length → ∃ a, Spl A B k a ∧ ((mrgF n A B).take k).Perm (A.take a ++ B.take (k - a))
  | n, A, B, hA, hB, hn, 0, _ => ⟨0, ⟨Nat.zero_le _, Nat.zero_le _, by simp, fun i j hi => absurd hi (by omega), fun i j _ _ hj => absurd hj (by omega)⟩, by simp⟩
  | 0, A, B, hA, hB, hn, k + 1, hk => absurd hk (by omega)
  | n + 1, [], [], hA, hB, hn, k + 1, hk => absurd hk (by simp)
  | n + 1, [], b :: B, hA, hB, hn, k + 1, hk => by
    obtain ⟨a, h, e⟩ := mrgF_perm n [] B hA (List.pairwise_cons.1 hB).2 (by simp at hn ⊢; omega) k (by simp at hk ⊢; omega)
    have ha : a = 0 := by have := h.1; simpa using this
    subst ha
    refine ⟨0, ⟨Nat.zero_le _, Nat.zero_le _, by simp at hk ⊢; omega, fun i j hi => absurd hi (by omega), fun i j _ hi => absurd hi (by simp)⟩, ?_⟩
    rw [mrgF, List.take_succ_cons]
    simpa using e
  | n + 1, a :: A, [], hA, hB, hn, k + 1, hk => by
    obtain ⟨x, h, e⟩ := mrgF_perm n A [] (List.pairwise_cons.1 hA).2 hB (by simp at hn ⊢; omega) k (by simp at hk ⊢; omega)
    have hx : x = k := by have := h.2.1; have := h.2.2.1; simp at this; omega
    subst hx
    refine ⟨x + 1, ⟨by simp at hk ⊢; omega, Nat.le_refl _, by simp, fun i j _ _ hj => absurd hj (by simp), fun i j _ _ hj => absurd hj (by omega)⟩, ?_⟩
    rw [mrgF, List.take_succ_cons, List.take_succ_cons]
    simpa using e
  | n + 1, a :: A, b :: B, hA, hB, hn, k + 1, hk => by
    by_cases hab : b ≤ a
    · obtain ⟨x, h, e⟩ := mrgF_perm n (a :: A) B hA (List.pairwise_cons.1 hB).2 (by simp at hn ⊢; omega) k (by simp at hk ⊢; omega)
      obtain ⟨h1, h2, h3, h4, h5⟩ := h
      refine ⟨x, ⟨h1, by omega, by simp; omega, fun i j hi hj hjl => ?_, fun i j hi hil hj => ?_⟩, ?_⟩
      · obtain ⟨j', rfl⟩ : ∃ j', j = j' + 1 := ⟨j - 1, by omega⟩
        rw [at0_cons_succ]
        exact h4 i j' hi (by omega) (by simpa using hjl)
      · cases j with
        | zero => rw [at0_cons_zero]; exact Nat.le_trans hab (rising_head hA i hil)
        | succ j => rw [at0_cons_succ]; exact h5 i j hi hil (by omega)
      · rw [mrgF, if_pos hab, List.take_succ_cons, show k + 1 - x = (k - x) + 1 by omega, List.take_succ_cons]
        exact (List.Perm.cons b e).trans List.perm_middle.symm
    · obtain ⟨x, h, e⟩ := mrgF_perm n A (b :: B) (List.pairwise_cons.1 hA).2 hB (by simp at hn ⊢; omega) k (by simp at hk ⊢; omega)
      obtain ⟨h1, h2, h3, h4, h5⟩ := h
      refine ⟨x + 1, ⟨by simp; omega, by omega, by omega, fun i j hi hj hjl => ?_, fun i j hi hil hj => ?_⟩, ?_⟩
      · cases i with
        | zero => rw [at0_cons_zero]; have := rising_head hB j hjl; omega
        | succ i => rw [at0_cons_succ]; exact h4 i j (by omega) (by omega) hjl
      · obtain ⟨i', rfl⟩ : ∃ i', i = i' + 1 := ⟨i - 1, by omega⟩
        rw [at0_cons_succ]
        exact h5 i' j (by omega) (by simpa using hil) (by omega)
      · rw [mrgF, if_neg hab, List.take_succ_cons, List.take_succ_cons, show k + 1 - (x + 1) = k - x by omega]
        exact List.Perm.cons a e
theorem mrgF_len : ∀ (n : Nat) (A B : List Nat), A.length + B.length ≤ n → (mrgF n A B).length = A.length + B.length
  | 0, [], [], _ => rfl
  | 0, a :: A, B, h => absurd h (by simp)
  | 0, [], b :: B, h => absurd h (by simp)
  | n + 1, [], [], _ => rfl
  | n + 1, [], b :: B, h => by rw [mrgF, List.length_cons, mrgF_len n [] B (by simp at h ⊢; omega)]; simp
  | n + 1, a :: A, [], h => by rw [mrgF, List.length_cons, mrgF_len n A [] (by simp at h ⊢; omega)]; simp
  | n + 1, a :: A, b :: B, h => by
    rw [mrgF]
    split
    · rw [List.length_cons, mrgF_len n (a :: A) B (by simp at h ⊢; omega)]; simp; omega
    · rw [List.length_cons, mrgF_len n A (b :: B) (by simp at h ⊢; omega)]; simp; omega
theorem mrgF_mem : ∀ (n : Nat) (A B : List Nat) (x : Nat), x ∈ mrgF n A B → x ∈ A ∨ x ∈ B
  | 0, _, _, x, h => by simp [mrgF] at h
  | n + 1, [], [], x, h => by simp [mrgF] at h
  | n + 1, [], b :: B, x, h => by
    rw [mrgF] at h
    rcases List.mem_cons.1 h with h | h
    · exact .inr (by rw [h]; exact List.mem_cons_self)
    · exact (mrgF_mem n [] B x h).imp id (List.mem_cons_of_mem _)
  | n + 1, a :: A, [], x, h => by
    rw [mrgF] at h
    rcases List.mem_cons.1 h with h | h
    · exact .inl (by rw [h]; exact List.mem_cons_self)
    · exact (mrgF_mem n A [] x h).imp (List.mem_cons_of_mem _) id
  | n + 1, a :: A, b :: B, x, h => by
    rw [mrgF] at h
    split at h
    · rcases List.mem_cons.1 h with h | h
      · exact .inr (by rw [h]; exact List.mem_cons_self)
      · exact (mrgF_mem n (a :: A) B x h).imp id (List.mem_cons_of_mem _)
    · rcases List.mem_cons.1 h with h | h
      · exact .inl (by rw [h]; exact List.mem_cons_self)
      · exact (mrgF_mem n A (b :: B) x h).imp (List.mem_cons_of_mem _) id
theorem mrgF_rising : ∀ (n : Nat) (A B : List Nat), Rising A → Rising B → Rising (mrgF n A B)
  | 0, _, _, _, _ => List.Pairwise.nil
  | n + 1, [], [], _, _ => List.Pairwise.nil
  | n + 1, [], b :: B, hA, hB => by
    rw [mrgF]
    refine List.pairwise_cons.2 ⟨fun x hx => ?_, mrgF_rising n [] B hA (List.pairwise_cons.1 hB).2⟩
    rcases mrgF_mem _ _ _ _ hx with h | h
    · simp at h
    · exact (List.pairwise_cons.1 hB).1 x h
  | n + 1, a :: A, [], hA, hB => by
    rw [mrgF]
    refine List.pairwise_cons.2 ⟨fun x hx => ?_, mrgF_rising n A [] (List.pairwise_cons.1 hA).2 hB⟩
    rcases mrgF_mem _ _ _ _ hx with h | h
    · exact (List.pairwise_cons.1 hA).1 x h
    · simp at h
  | n + 1, a :: A, b :: B, hA, hB => by
    rw [mrgF]
    split
    · rename_i hab
      refine List.pairwise_cons.2 ⟨fun x hx => ?_, mrgF_rising n (a :: A) B hA (List.pairwise_cons.1 hB).2⟩
      rcases mrgF_mem _ _ _ _ hx with h | h
      · rcases List.mem_cons.1 h with h | h
        · rw [h]; exact hab
        · exact Nat.le_trans hab ((List.pairwise_cons.1 hA).1 x h)
      · exact (List.pairwise_cons.1 hB).1 x h
    · rename_i hab
      refine List.pairwise_cons.2 ⟨fun x hx => ?_, mrgF_rising n A (b :: B) (List.pairwise_cons.1 hA).2 hB⟩
      rcases mrgF_mem _ _ _ _ hx with h | h
      · exact (List.pairwise_cons.1 hA).1 x h
      · rcases List.mem_cons.1 h with h | h
        · rw [h]; omega
        · have := (List.pairwise_cons.1 hB).1 x h; omega
theorem mrg_len (A B : List Nat) : (mrg A B).length = A.length + B.length := mrgF_len _ A B (Nat.le_refl _)
theorem mrg_rising (A B : List Nat) (hA : Rising A) (hB : Rising B) : Rising (mrg A B) := mrgF_rising _ A B hA hB
theorem mrg_mem (A B : List Nat) (x : Nat) (h : x ∈ mrg A B) : x ∈ A ∨ x ∈ B := mrgF_mem _ A B x h
theorem rising_at {l : List Nat} (h : Rising l) (i j : Nat) (hij : i ≤ j) (hj : j < l.length) : at0 l i ≤ at0 l j := by
  unfold at0
  rw [List.getD_eq_getElem?_getD, List.getD_eq_getElem?_getD, List.getElem?_eq_getElem hj, List.getElem?_eq_getElem (by omega)]
  by_cases e : i = j
  · subst e; exact Nat.le_refl _
  · exact List.pairwise_iff_getElem.1 h i j (by omega) hj (by omega)
/-- A single that is among the first k stands at a place below k. -/
theorem spl_place {A B : List Nat} (hA : Rising A) (hB : Rising B) {k a : Nat} (h : Spl A B k a) (hk : k ≤ A.length + B.length) (i : Nat) (hi : i < a) : ∃ t, t < k ∧ at0 (mrg A B) t = at0 A i := by
  obtain ⟨a', h', p⟩ := mrgF_perm _ A B hA hB (Nat.le_refl _) k hk
  obtain rfl := spl_one h h'
  have hm : at0 A i ∈ A.take a ++ B.take (k - a) := by
    refine List.mem_append_left _ ?_
    have hil : i < (A.take a).length := by rw [List.length_take]; have := h.1; omega
    have := at0_mem (A.take a) i hil
    unfold at0 at this ⊢
    rwa [List.getD_eq_getElem?_getD, List.getElem?_take, if_pos hi, ← List.getD_eq_getElem?_getD] at this
  have hm' := p.mem_iff.2 hm
  obtain ⟨t, ht, e⟩ := List.getElem_of_mem hm'
  rw [List.length_take] at ht
  refine ⟨t, by omega, ?_⟩
  rw [← e]
  show at0 (mrgF _ A B) t = _
  unfold at0
  rw [List.getD_eq_getElem?_getD, List.getElem?_eq_getElem (by omega), List.getElem_take]; rfl

/-! ### packages -/
def prs : List Nat → List Nat
  | a :: b :: l => (a + b) :: prs l
  | _ => []
theorem prs_len : ∀ l : List Nat, (prs l).length = l.length / 2
  | [] => rfl
  | [_] => by simp [prs]
  | a :: b :: l => by rw [prs, List.length_cons, prs_len l]; simp; omega
theorem prs_at : ∀ (l : List Nat) (i : Nat), i < l.length / 2 → at0 (prs l) i = at0 l (2 * i) + at0 l (2 * i + 1)
  | [], i, h => absurd h (by simp)
  | [_], i, h => absurd h (by simp)
  | a :: b :: l, 0, _ => rfl
  | a :: b :: l, i + 1, h => by
    rw [prs, at0_cons_succ, prs_at l i (by simp at h; omega), show 2 * (i + 1) = 2 * i + 1 + 1 by omega, at0_cons_succ, at0_cons_succ, at0_cons_succ, at0_cons_succ]
theorem prs_pre : ∀ (l : List Nat) (j : Nat), j ≤ l.length / 2 → pre (prs l) j = pre l (2 * j)
  | _, 0, _ => rfl
  | [], j + 1, h => absurd h (by simp)
  | [_], j + 1, h => absurd h (by simp)
  | a :: b :: l, j + 1, h => by
    rw [prs, pre_cons, prs_pre l j (by simp at h; omega), show 2 * (j + 1) = 2 * j + 1 + 1 by omega, pre_cons, pre_cons]; omega
theorem rising_of {l : List Nat} (h : ∀ i j, i < j → j < l.length → at0 l i ≤ at0 l j) : Rising l := by
  refine List.pairwise_iff_getElem.2 fun i j hi hj hij => ?_
  have := h i j hij hj
  unfold at0 at this
  rwa [List.getD_eq_getElem?_getD, List.getD_eq_getElem?_getD, List.getElem?_eq_getElem hj, List.getElem?_eq_getElem hi] at this
theorem prs_rising (l : List Nat) (h : Rising l) : Rising (prs l) := by
  refine rising_of fun i j hij hj => ?_
  rw [prs_len] at hj
  rw [prs_at l i (by omega), prs_at l j hj]
  have := rising_at h (2 * i) (2 * j) (by omega) (by omega)
  have := rising_at h (2 * i + 1) (2 * j + 1) (by omega) (by omega)
  omega
/-- The list of a level with d levels from it on. -/
def TL (s : List Nat) : Nat → List Nat
  | 0 => []
  | d + 1 => mrg s (prs (TL s d))
theorem TL_rising (s : List Nat) (h : Rising s) : ∀ d, Rising (TL s d)
  | 0 => List.Pairwise.nil
  | d + 1 => mrg_rising _ _ h (prs_rising _ (TL_rising s h d))
theorem TL_len (s : List Nat) (d : Nat) : (TL s (d + 1)).length = s.length + (TL s d).length / 2 := by rw [TL, mrg_len, prs_len]
theorem TL_pos (s : List Nat) (hp : ∀ x ∈ s, 0 < x) : ∀ d, ∀ i, i < (TL s d).length → 0 < at0 (TL s d) i
  | 0, i, h => absurd h (by simp [TL])
  | d + 1, i, h => by
    rcases mrg_mem _ _ _ (at0_mem _ i h) with h' | h'
    · exact hp _ h'
    · obtain ⟨t, ht, e⟩ := List.getElem_of_mem h'
      have ht' := ht
      rw [prs_len] at ht'
      have e' : at0 (prs (TL s d)) t = at0 (mrg s (prs (TL s d))) i := by
        rw [← e]; show (prs (TL s d)).getD t 0 = _; rw [List.getD_eq_getElem?_getD, List.getElem?_eq_getElem ht]; rfl
      show 0 < at0 (mrg s (prs (TL s d))) i
      rw [← e', prs_at _ t ht']
      have := TL_pos s hp d (2 * t) (by omega)
      omega

/-! ### more singles than packages; fewer from level to level -/
def Half (s : List Nat) (d : Nat) : Prop := ∀ i, 2 * i + 1 < (TL s d).length → i + 1 < s.length ∧ at0 s (i + 1) ≤ at0 (TL s d) (2 * i + 1)
theorem half_split {s : List Nat} (hp : ∀ x ∈ s, 0 < x) {d k a : Nat} (hh : Half s d) (h : Spl s (prs (TL s d)) k a) (hk : 0 < k) : k - a < a := by
  obtain ⟨h1, h2, h3, h4, h5⟩ := h
  rw [prs_len] at h3
  by_cases e : k - a = 0
  · omega
  · have hj : k - a - 1 < (TL s d).length / 2 := by omega
    obtain ⟨q1, q2⟩ := hh (k - a - 1) (by omega)
    have q3 := TL_pos s hp d (2 * (k - a - 1)) (by omega)
    have q4 := prs_at (TL s d) (k - a - 1) hj
    by_cases g : k - a < a
    · exact g
    · have := h5 (k - a - 1 + 1) (k - a - 1) (by omega) q1 (by omega)
      omega
theorem half_all (s : List Nat) (hr : Rising s) (hp : ∀ x ∈ s, 0 < x) : ∀ d, Half s d
  | 0 => fun i h => absurd h (by simp [TL])
  | d + 1 => fun i h => by
    have hh := half_all s hr hp d
    have hl : (TL s (d + 1)).length = s.length + (prs (TL s d)).length := by rw [TL, mrg_len]
    obtain ⟨a, hs, _⟩ := mrg_split s (prs (TL s d)) hr (prs_rising _ (TL_rising s hr d)) (2 * i + 2) (by omega)
    have hm := half_split hp hh hs (by omega)
    have ha := hs.1
    refine ⟨by omega, ?_⟩
    obtain ⟨t, ht, e⟩ := spl_place hr (prs_rising _ (TL_rising s hr d)) hs (by omega) (i + 1) (by omega)
    rw [← e]
    exact rising_at (TL_rising s hr (d + 1)) t (2 * i + 1) (by omega) h
theorem fewer {s : List Nat} (hr : Rising s) (hp : ∀ x ∈ s, 0 < x) {d k a a' : Nat} (h : Spl s (prs (TL s (d + 1))) k a) (h' : Spl s (prs (TL s d)) (2 * (k - a)) a') : a' ≤ a := by
  by_cases g : a' ≤ a
  · exact g
  · exfalso
    obtain ⟨h1, h2, h3, h4, h5⟩ := h
    have h3' := h3
    rw [prs_len] at h3'
    have hl : (TL s (d + 1)).length = s.length + (prs (TL s d)).length := by rw [TL, mrg_len]
    obtain ⟨t, ht, e⟩ := spl_place hr (prs_rising _ (TL_rising s hr d)) h' (by omega) a (by omega)
    have q := h5 a (t / 2) (Nat.le_refl _) (by have := h'.1; omega) (by omega)
    rw [prs_at _ (t / 2) (by omega)] at q
    have q1 := TL_pos s hp (d + 1) (2 * (t / 2)) (by omega)
    have q2 := TL_pos s hp (d + 1) (2 * (t / 2) + 1) (by omega)
    have e' : at0 (TL s (d + 1)) t = at0 s a := e
    rcases Nat.mod_two_eq_zero_or_one t with hm | hm
    · rw [show 2 * (t / 2) = t by omega] at q q2; rw [e'] at q; omega
    · rw [show 2 * (t / 2) + 1 = t by omega, e'] at q; omega

/-! ### the least cost, level by level -/
def lst (f : Nat → Option Nat) : Nat → Option Nat
  | 0 => none
  | n + 1 => match lst f n, f n with
    | none, y => y
    | some x, none => some x
    | some x, some y => some (min x y)
theorem lst_mem (f : Nat → Option Nat) : ∀ n c, lst f n = some c → ∃ t, t < n ∧ f t = some c
  | 0, c, h => by simp [lst] at h
  | n + 1, c, h => by
    cases hx : lst f n with
    | none =>
      rw [lst, hx] at h
      exact ⟨n, by omega, h⟩
    | some x =>
      obtain ⟨t, ht, e⟩ := lst_mem f n x hx
      cases hy : f n with
      | none =>
        rw [lst, hx, hy] at h
        injection h with h
        subst h
        exact ⟨t, by omega, e⟩
      | some y =>
        rw [lst, hx, hy] at h
        injection h with h
        by_cases g : x ≤ y
        · rw [Nat.min_eq_left g] at h; subst h; exact ⟨t, by omega, e⟩
        · rw [Nat.min_eq_right (by omega)] at h; subst h; exact ⟨n, by omega, hy⟩
theorem lst_le (f : Nat → Option Nat) : ∀ n t c, t < n → f t = some c → ∃ x, lst f n = some x ∧ x ≤ c
  | 0, t, c, h, _ => absurd h (by omega)
  | n + 1, t, c, h, e => by
    by_cases g : t < n
    · obtain ⟨x, hx, hc⟩ := lst_le f n t c g e
      cases hy : f n with
      | none => exact ⟨x, by rw [lst, hx, hy], hc⟩
      | some y => exact ⟨min x y, by rw [lst, hx, hy], Nat.le_trans (Nat.min_le_left _ _) hc⟩
    · obtain rfl : t = n := by omega
      cases hx : lst f t with
      | none => exact ⟨c, by rw [lst, hx]; exact e, Nat.le_refl _⟩
      | some x => exact ⟨min x c, by rw [lst, hx, e], Nat.min_le_right _ _⟩
/-- What the classes that are left cost at least behind this level, with d levels from it on and so many places open; none: it can not be. -/
def cst (s : List Nat) : Nat → Nat → Nat → Option Nat
  | 0, left, op => if left = 0 ∧ op = 0 then some 0 else none
  | d + 1, left, op =>
    if left = 0 then (if op = 0 then some 0 else none)
    else if op = 0 ∨ left < op then none
    else lst (fun take => (cst s d (left - take) (2 * (op - take))).map (· + pre s (left - take))) (op + 1)
theorem cst_left0 (s : List Nat) (d op : Nat) : cst s d 0 op = if op = 0 then some 0 else none := by
  cases d with
  | zero => simp [cst]
  | succ d => simp [cst]
theorem cst_open (s : List Nat) (d left op c : Nat) (h : cst s d left op = some c) : op ≤ left ∧ (left = 0 → op = 0 ∧ c = 0) ∧ (0 < left → 0 < d ∧ 0 < op) := by
  by_cases hl : left = 0
  · subst hl
    rw [cst_left0] at h
    split at h
    · rename_i h0; injection h with h; exact ⟨by omega, fun _ => ⟨h0, h.symm⟩, fun g => absurd g (by omega)⟩
    · cases h
  · cases d with
    | zero => rw [cst, if_neg (by omega)] at h; cases h
    | succ d =>
      rw [cst, if_neg hl] at h
      split at h
      · cases h
      · exact ⟨by omega, fun g => absurd g hl, fun _ => ⟨by omega, by omega⟩⟩
theorem cst_step (s : List Nat) (d left op c : Nat) (hl : 0 < left) (h : cst s (d + 1) left op = some c) : ∃ take c', take ≤ op ∧ cst s d (left - take) (2 * (op - take)) = some c' ∧ c = c' + pre s (left - take) := by
  rw [cst, if_neg (by omega)] at h
  split at h
  · cases h
  · obtain ⟨t, ht, e⟩ := lst_mem _ _ _ h
    obtain ⟨c', e1, e2⟩ := Option.map_eq_some_iff.1 e
    exact ⟨t, c', by omega, e1, e2.symm⟩
/-- One choice costs no less than the first of the next level's list together; less singles than the split takes cost more. -/
theorem cst_low {s : List Nat} (hr : Rising s) : ∀ (d left op c : Nat), left ≤ s.length → cst s d left op = some c →
    2 * (left - op) ≤ (TL s (d - 1)).length ∧ pre (TL s (d - 1)) (2 * (left - op)) ≤ c
  | 0, left, op, c, hN, h => by
    obtain ⟨h1, h2, h3⟩ := cst_open s _ _ _ _ h
    have : left = 0 := (Nat.eq_zero_or_pos left).elim id (fun g => absurd (h3 g).1 (by omega))
    subst this
    simp [pre]
  | d + 1, left, op, c, hN, h => by
    obtain ⟨h1, h2, h3⟩ := cst_open s _ _ _ _ h
    by_cases hl : left = 0
    · subst hl; simp [pre]
    · obtain ⟨t, c', ht, e1, e2⟩ := cst_step s d left op c (by omega) h
      obtain ⟨g1, g2, g3⟩ := cst_open s _ _ _ _ e1
      obtain ⟨i1, i2⟩ := cst_low hr d (left - t) (2 * (op - t)) c' (by omega) e1
      rw [show d + 1 - 1 = d by omega]
      by_cases hd : d = 0
      · subst hd
        have hlt : left - t = 0 := (Nat.eq_zero_or_pos (left - t)).elim id (fun g => absurd (g3 g).1 (by omega))
        have := (g2 hlt).1
        rw [show 2 * (left - op) = 0 by omega]
        simp [pre]
      · obtain ⟨d', rfl⟩ : ∃ d', d = d' + 1 := ⟨d - 1, by omega⟩
        rw [show d' + 1 - 1 = d' by omega] at i1 i2
        have e : 2 * (left - op) - (left - t) = left - t - 2 * (op - t) := by omega
        have hB : 2 * (left - op) - (left - t) ≤ (prs (TL s d')).length := by rw [prs_len, e]; omega
        have hl' : (TL s (d' + 1)).length = s.length + (prs (TL s d')).length := by rw [TL, mrg_len]
        have hkk : 2 * (left - op) ≤ s.length + (prs (TL s d')).length := by omega
        obtain ⟨a, hs, hpre⟩ := mrg_split s (prs (TL s d')) hr (prs_rising _ (TL_rising s hr d')) (2 * (left - op)) hkk
        have hlow := (spl_least hs (left - t) (by omega) (by omega) hB).1
        refine ⟨by omega, ?_⟩
        show pre (mrg s (prs (TL s d'))) (2 * (left - op)) ≤ c
        rw [hpre]
        refine Nat.le_trans hlow ?_
        unfold spc
        rw [prs_pre _ _ (by rw [prs_len] at hB; exact hB), e, e2]
        omega

/-! ### along the splits the cost is the least one, and the least split is the one that is chosen -/
theorem cst_chain {s : List Nat} (hr : Rising s) (hp : ∀ x ∈ s, 0 < x) : ∀ (d k a : Nat), Spl s (prs (TL s d)) k a → cst s (d + 1) a (2 * a - k) = some (pre (TL s d) (2 * (k - a))) := by
  intro d
  induction d with
  | zero =>
    intro k a h
    obtain ⟨h1, h2, h3, _, _⟩ := h
    have hk : k = a := by simp [TL, prs] at h3; omega
    subst hk
    by_cases h0 : k = 0
    · subst h0; rw [cst_left0]; rfl
    · have e0 : cst s 0 (k - k) (2 * (k - k)) = some 0 := by rw [Nat.sub_self]; rfl
      obtain ⟨x, hx, hle⟩ := lst_le (fun take => (cst s 0 (k - take) (2 * (k - take))).map (· + pre s (k - take))) (k + 1) k 0 (by omega) (by simp only [e0]; rw [Nat.sub_self]; rfl)
      rw [show 2 * k - k = k by omega, cst, if_neg h0, if_neg (by omega), hx, Nat.sub_self]
      have : x = 0 := by omega
      rw [this]; rfl
  | succ d ih =>
    intro k a h
    have hs := half_split hp (half_all s hr hp (d + 1)) h
    obtain ⟨h1, h2, h3, h4, h5⟩ := h
    by_cases h0 : k = 0
    · have : a = 0 := by omega
      subst this h0
      rw [cst_left0]; rfl
    · have hs := hs (by omega)
      have h3' := h3
      rw [prs_len] at h3'
      have hl : (TL s (d + 1)).length = s.length + (prs (TL s d)).length := by rw [TL, mrg_len]
      obtain ⟨a', hs', hpre⟩ := mrg_split s (prs (TL s d)) hr (prs_rising _ (TL_rising s hr d)) (2 * (k - a)) (by omega)
      have hfew := fewer hr hp ⟨h1, h2, h3, h4, h5⟩ hs'
      have hmaj : k - a ≤ a' := by
        by_cases g : k - a = 0
        · omega
        · have := half_split hp (half_all s hr hp d) hs' (by omega); omega
      have i := ih (2 * (k - a)) a' hs'
      have hsp : pre (TL s (d + 1)) (2 * (k - a)) = pre (TL s d) (2 * (2 * (k - a) - a')) + pre s a' := by
        show pre (mrg s (prs (TL s d))) (2 * (k - a)) = _
        rw [hpre]
        unfold spc
        rw [prs_pre _ _ (by have := hs'.2.2.1; rwa [prs_len] at this)]
        omega
      have e0 : cst s (d + 1) (a - (a - a')) (2 * (2 * a - k - (a - a'))) = some (pre (TL s d) (2 * (2 * (k - a) - a'))) := by
        rw [show a - (a - a') = a' by omega, show 2 * (2 * a - k - (a - a')) = 2 * a' - 2 * (k - a) by omega]; exact i
      obtain ⟨x, hx, hle⟩ := lst_le (fun take => (cst s (d + 1) (a - take) (2 * (2 * a - k - take))).map (· + pre s (a - take))) (2 * a - k + 1) (a - a') (pre (TL s (d + 1)) (2 * (k - a))) (by omega)
        (by simp only [e0]; rw [hsp, show a - (a - a') = a' by omega]; rfl)
      have hc : cst s (d + 1 + 1) a (2 * a - k) = some x := by
        rw [cst, if_neg (by omega), if_neg (by omega)]; exact hx
      have hlow := (cst_low hr (d + 1 + 1) a (2 * a - k) x h1 hc).2
      rw [show d + 1 + 1 - 1 = d + 1 by omega, show a - (2 * a - k) = k - a by omega] at hlow
      rw [hc]
      congr 1
      omega
/-- Fewer singles than the next split takes cost more. -/
theorem cst_more {s : List Nat} (hr : Rising s) {d left op t c' a' : Nat} (hN : left ≤ s.length) (hs' : Spl s (prs (TL s d)) (2 * (left - op)) a') (ht : t ≤ op) (hol : op ≤ left) (hlt : left - t < a')
    (e1 : cst s (d + 1) (left - t) (2 * (op - t)) = some c') : pre (TL s (d + 1)) (2 * (left - op)) < c' + pre s (left - t) := by
  obtain ⟨g1, g2, g3⟩ := cst_open s _ _ _ _ e1
  obtain ⟨i1, i2⟩ := cst_low hr (d + 1) (left - t) (2 * (op - t)) c' (by omega) e1
  rw [show d + 1 - 1 = d by omega] at i1 i2
  have e : 2 * (left - op) - (left - t) = left - t - 2 * (op - t) := by omega
  have hB : 2 * (left - op) - (left - t) ≤ (prs (TL s d)).length := by rw [prs_len, e]; omega
  obtain ⟨a, hs, hpre⟩ := mrg_split s (prs (TL s d)) hr (prs_rising _ (TL_rising s hr d)) (2 * (left - op)) (by omega)
  obtain rfl := spl_one hs hs'
  have hlow := (spl_least hs (left - t) (by omega) (by omega) hB).2 hlt
  show pre (mrg s (prs (TL s d))) (2 * (left - op)) < _
  rw [hpre]
  refine Nat.lt_of_lt_of_le hlow ?_
  unfold spc
  rw [prs_pre _ _ (by rw [prs_len] at hB; exact hB), e]
  omega

/-! ### how many classes are longer, level by level -/
def Chain (s : List Nat) : Nat → Nat → List Nat → Prop
  | 0, k, ls => k = 0 ∧ ls = []
  | d + 1, k, ls => ∃ a r, ls = a :: r ∧ Spl s (prs (TL s d)) k a ∧ Chain s d (2 * (k - a)) r
theorem chain_is {s : List Nat} (hr : Rising s) : ∀ d k, k ≤ (TL s d).length → ∃ ls, Chain s d k ls
  | 0, k, h => ⟨[], by simp [TL] at h; exact ⟨h, rfl⟩⟩
  | d + 1, k, h => by
    have hl : (TL s (d + 1)).length = s.length + (prs (TL s d)).length := by rw [TL, mrg_len]
    obtain ⟨a, hs, _⟩ := mrg_split s (prs (TL s d)) hr (prs_rising _ (TL_rising s hr d)) k (by omega)
    have := hs.2.2.1
    rw [prs_len] at this
    obtain ⟨r, hc⟩ := chain_is hr d (2 * (k - a)) (by omega)
    exact ⟨a :: r, a, r, rfl, hs, hc⟩
/-- Any numbers of classes that are longer, level by level, that fill all places. -/
def Wd : Nat → List Nat → Prop
  | k, [] => k = 0
  | k, a :: r => a ≤ k ∧ Wd (2 * (k - a)) r
theorem chain_wd {s : List Nat} : ∀ d k ls, Chain s d k ls → Wd k ls ∧ ls.length = d ∧ ∀ a ∈ ls, a ≤ s.length
  | 0, k, ls, h => by rw [h.2]; exact ⟨h.1, rfl, fun a ha => by simp at ha⟩
  | d + 1, k, ls, ⟨a, r, e, h1, h2⟩ => by
    obtain ⟨i1, i2, i3⟩ := chain_wd d _ r h2
    subst e
    refine ⟨⟨h1.2.1, i1⟩, by simp [i2], fun x hx => ?_⟩
    rcases List.mem_cons.1 hx with h | h
    · rw [h]; exact h1.1
    · exact i3 x h
theorem chain_falls {s : List Nat} (hr : Rising s) (hp : ∀ x ∈ s, 0 < x) : ∀ d k ls, Chain s d k ls → ls.Pairwise (fun a b => b ≤ a)
  | 0, k, ls, h => by rw [h.2]; exact List.Pairwise.nil
  | d + 1, k, ls, ⟨a, r, e, h1, h2⟩ => by
    subst e
    have i := chain_falls hr hp d _ r h2
    refine List.pairwise_cons.2 ⟨fun x hx => ?_, i⟩
    cases d with
    | zero => rw [h2.2] at hx; simp at hx
    | succ d =>
      obtain ⟨b, q, e, g1, g2⟩ := h2
      subst e
      have hf := fewer hr hp h1 g1
      rcases List.mem_cons.1 hx with h | h
      · rw [h]; exact hf
      · exact Nat.le_trans ((List.pairwise_cons.1 i).1 x h) hf
/-- Of all places the first level takes all classes. -/
theorem chain_first {s : List Nat} (hr : Rising s) (hp : ∀ x ∈ s, 0 < x) {d : Nat} {ls : List Nat} (hN : 2 ≤ s.length) (h : Chain s (d + 1) (2 * s.length - 2) ls) : ∃ r, ls = s.length :: r := by
  obtain ⟨a, r, e, h1, h2⟩ := h
  have := half_split hp (half_all s hr hp d) h1 (by omega)
  have ha := h1.1
  exact ⟨r, by rw [e, show a = s.length by omega]⟩

/-! ### from lengths to how many are longer, level by level -/
def nxt (rs : List Nat) : List Nat := (rs.filter (fun r => decide (2 ≤ r))).map (· - 1)
def lv : Nat → List Nat → List Nat
  | 0, _ => []
  | d + 1, rs => rs.length :: lv d (nxt rs)
def kr (d : Nat) (rs : List Nat) : Nat := (rs.map (fun r => 2 ^ (d - r))).sum
def ones (rs : List Nat) : Nat := rs.countP (fun r => decide (r < 2))
theorem nxt_cons (r : Nat) (rs : List Nat) : nxt (r :: rs) = if 2 ≤ r then (r - 1) :: nxt rs else nxt rs := by
  unfold nxt; rw [List.filter_cons]
  by_cases h : 2 ≤ r
  · simp [h]
  · simp [h]
theorem ones_cons (r : Nat) (rs : List Nat) : ones (r :: rs) = ones rs + if 2 ≤ r then 0 else 1 := by
  unfold ones; rw [List.countP_cons]
  by_cases h : 2 ≤ r
  · rw [if_pos h, if_neg (by simp; omega)]
  · rw [if_neg h, if_pos (by simp; omega)]
theorem nxt_len (rs : List Nat) : ones rs + (nxt rs).length = rs.length := by
  induction rs with
  | nil => rfl
  | cons r rs ih =>
    rw [ones_cons, nxt_cons]
    by_cases h : 2 ≤ r
    · rw [if_pos h, if_pos h, List.length_cons, List.length_cons]; omega
    · rw [if_neg h, if_neg h, List.length_cons]; omega
theorem kr_next (d : Nat) (rs : List Nat) (h : ∀ r ∈ rs, 1 ≤ r ∧ r ≤ d + 1) : kr (d + 1) rs = ones rs * 2 ^ d + kr d (nxt rs) := by
  induction rs with
  | nil => simp [kr, ones, nxt]
  | cons r rs ih =>
    have i := ih (fun x hx => h x (List.mem_cons_of_mem _ hx))
    have hr := h r List.mem_cons_self
    have e : kr (d + 1) (r :: rs) = 2 ^ (d + 1 - r) + kr (d + 1) rs := by unfold kr; simp
    rw [e, i, ones_cons, nxt_cons]
    by_cases g : 2 ≤ r
    · rw [if_pos g, if_pos g]
      have e2 : kr d ((r - 1) :: nxt rs) = 2 ^ (d - (r - 1)) + kr d (nxt rs) := by unfold kr; simp
      rw [e2, show d + 1 - r = d - (r - 1) by omega, Nat.add_zero]; omega
    · have : r = 1 := by omega
      subst this
      rw [if_neg g, if_neg g, show d + 1 - 1 = d by omega, Nat.add_mul]; omega
theorem nxt_mem {d : Nat} {rs : List Nat} (h : ∀ r ∈ rs, 1 ≤ r ∧ r ≤ d + 1) : ∀ r ∈ nxt rs, 1 ≤ r ∧ r ≤ d := by
  intro r hr
  unfold nxt at hr
  obtain ⟨x, hx, e⟩ := List.mem_map.1 hr
  obtain ⟨hx1, hx2⟩ := List.mem_filter.1 hx
  have := h x hx1
  have hx3 : 2 ≤ x := by simpa using hx2
  omega
theorem lv_len : ∀ d rs, (lv d rs).length = d
  | 0, _ => rfl
  | d + 1, rs => by rw [lv, List.length_cons, lv_len d]
/-- The levels of a list of lengths, told by place. -/
theorem lv_at : ∀ (d : Nat) (rs : List Nat) (t : Nat), t < d → (∀ r ∈ rs, 1 ≤ r) → at0 (lv d rs) t = rs.countP (fun r => decide (t < r))
  | 0, _, t, h, _ => absurd h (by omega)
  | d + 1, rs, 0, _, hp => by
    rw [lv, at0_cons_zero]
    symm
    rw [List.countP_eq_length]
    intro r hr
    have := hp r hr
    simp; omega
  | d + 1, rs, t + 1, h, hp => by
    rw [lv, at0_cons_succ, lv_at d (nxt rs) t (by omega) (fun r hr => by
      unfold nxt at hr
      obtain ⟨x, hx, e⟩ := List.mem_map.1 hr
      obtain ⟨_, hx2⟩ := List.mem_filter.1 hx
      have : 2 ≤ x := by simpa using hx2
      omega)]
    clear hp
    induction rs with
    | nil => rfl
    | cons r rs ih =>
      rw [nxt_cons, List.countP_cons]
      by_cases g : 2 ≤ r
      · rw [if_pos g, List.countP_cons, ih]
        have : (t < r - 1) ↔ (t + 1 < r) := by omega
        simp only [this]
      · rw [if_neg g, ih, if_neg (by simp; omega)]; rfl
theorem lv_map (d : Nat) (rs : List Nat) (h : ∀ r ∈ rs, 1 ≤ r) : lv d rs = (List.range d).map (fun t => rs.countP (fun r => decide (t < r))) := by
  apply List.ext_getElem?
  intro i
  by_cases hi : i < d
  · have e := lv_at d rs i hi h
    rw [List.getElem?_map, List.getElem?_range hi]
    have hl : i < (lv d rs).length := by rw [lv_len]; exact hi
    rw [List.getElem?_eq_getElem hl]
    unfold at0 at e
    rw [List.getD_eq_getElem?_getD, List.getElem?_eq_getElem hl] at e
    show some _ = some (rs.countP (fun r => decide (i < r)))
    rw [← e]; rfl
  · rw [List.getElem?_eq_none (by rw [lv_len]; omega), List.getElem?_eq_none (by simp; omega)]

/-! ### the lengths that the splits say -/
def ln (ls : List Nat) (r : Nat) : Nat := ls.countP (fun a => decide (r < a))
theorem ln_cons (a : Nat) (ls : List Nat) (r : Nat) : ln (a :: ls) r = ln ls r + if r < a then 1 else 0 := by
  unfold ln; rw [List.countP_cons]; simp
theorem ln_le (ls : List Nat) (r : Nat) : ln ls r ≤ ls.length := List.countP_le_length
/-- Of numbers that fall: more than t of them are above r, if the one at place t is. -/
theorem ln_at : ∀ (ls : List Nat) (r t : Nat), ls.Pairwise (fun a b => b ≤ a) → t < ls.length → (t < ln ls r ↔ r < at0 ls t)
  | [], r, t, _, h => absurd h (by simp)
  | a :: ls, r, 0, hp, _ => by
    rw [ln_cons, at0_cons_zero]
    by_cases g : r < a
    · rw [if_pos g]; exact ⟨fun _ => g, fun _ => by omega⟩
    · rw [if_neg g]
      have : ln ls r = 0 := by
        unfold ln
        rw [List.countP_eq_zero]
        intro b hb
        have := (List.pairwise_cons.1 hp).1 b hb
        simp; omega
      rw [this]; exact ⟨fun h => absurd h (by omega), fun h => absurd h g⟩
  | a :: ls, r, t + 1, hp, ht => by
    have i := ln_at ls r t (List.pairwise_cons.1 hp).2 (by simpa using ht)
    rw [ln_cons, at0_cons_succ, ← i]
    by_cases g : r < a
    · rw [if_pos g]; omega
    · rw [if_neg g]
      have : ln ls r = 0 := by
        unfold ln
        rw [List.countP_eq_zero]
        intro b hb
        have := (List.pairwise_cons.1 hp).1 b hb
        simp; omega
      rw [this]; omega
theorem count_below (N a : Nat) (h : a ≤ N) : (List.range N).countP (fun r => decide (r < a)) = a := by
  induction N with
  | zero => have : a = 0 := by omega
            subst this; rfl
  | succ N ih =>
    rw [List.range_succ, List.countP_append, List.countP_singleton]
    by_cases g : a ≤ N
    · rw [ih g, if_neg (by simp; omega)]; rfl
    · have : a = N + 1 := by omega
      subst this
      rw [if_pos (by simp)]
      have : (List.range N).countP (fun r => decide (r < N + 1)) = N := by
        have e : (List.range N).countP (fun r => decide (r < N + 1)) = (List.range N).length := by
          rw [List.countP_eq_length]
          intro r hr
          have := List.mem_range.1 hr
          simp; omega
        rw [e, List.length_range]
      rw [this]
theorem lv_back (ls : List Nat) (N : Nat) (hf : ls.Pairwise (fun a b => b ≤ a)) (hN : ∀ a ∈ ls, a ≤ N) (h1 : ∀ r, r < N → 1 ≤ ln ls r) : lv ls.length ((List.range N).map (ln ls)) = ls := by
  rw [lv_map _ _ (fun x hx => by obtain ⟨r, hr, rfl⟩ := List.mem_map.1 hx; exact h1 r (List.mem_range.1 hr))]
  apply List.ext_getElem?
  intro t
  by_cases ht : t < ls.length
  · rw [List.getElem?_map, List.getElem?_range ht, List.getElem?_eq_getElem ht]
    show some (List.countP (fun r => decide (t < r)) ((List.range N).map (ln ls))) = _
    rw [List.countP_map]
    have e : (List.range N).countP ((fun r => decide (t < r)) ∘ ln ls) = (List.range N).countP (fun r => decide (r < at0 ls t)) := by
      apply List.countP_congr
      intro r _
      have := ln_at ls r t hf ht
      simp [this]
    rw [e, count_below N _ (hN _ (at0_mem ls t ht))]
    unfold at0
    rw [List.getD_eq_getElem?_getD, List.getElem?_eq_getElem ht]; rfl
  · rw [List.getElem?_eq_none (by simp; omega), List.getElem?_eq_none (by omega)]
theorem wd_kr : ∀ (d : Nat) (rs : List Nat) (k : Nat), (∀ r ∈ rs, 1 ≤ r ∧ r ≤ d) → Wd k (lv d rs) → (2 * (kr d rs : Int)) = (2 * (rs.length : Int) - k) * 2 ^ d
  | 0, rs, k, h, hw => by
    have : rs = [] := by
      cases rs with
      | nil => rfl
      | cons r rs => have := h r List.mem_cons_self; omega
    subst this
    have : k = 0 := hw
    subst this
    simp [kr]
  | d + 1, rs, k, h, hw => by
    obtain ⟨w1, w2⟩ := hw
    have i := wd_kr d (nxt rs) (2 * (k - rs.length)) (nxt_mem h) w2
    have hn := kr_next d rs h
    have hl := nxt_len rs
    have e : ((2 * (k - rs.length) : Nat) : Int) = 2 * ((k : Int) - rs.length) := by omega
    rw [e] at i
    have hn' : (kr (d + 1) rs : Int) = (ones rs : Int) * 2 ^ d + kr d (nxt rs) := by rw [hn]; simp
    have hl' : (rs.length : Int) = (ones rs : Int) + ((nxt rs).length : Int) := by omega
    rw [hn', Int.pow_succ, Int.mul_add, i, hl']
    generalize (2 : Int) ^ d = p
    generalize (ones rs : Int) = x
    generalize ((nxt rs).length : Int) = y
    rw [← Int.mul_assoc, ← Int.add_mul, ← Int.mul_assoc, Int.mul_comm _ (2 : Int), ← Int.mul_assoc]
    congr 1
    omega
/-- The lengths of the splits: from 1 to the levels, and they fill all places. -/
theorem chain_may {s : List Nat} (hr : Rising s) (hp : ∀ x ∈ s, 0 < x) {d : Nat} {ls : List Nat} (hN : 2 ≤ s.length) (h : Chain s (d + 1) (2 * s.length - 2) ls) :
    (∀ r, r < s.length → 1 ≤ ln ls r ∧ ln ls r ≤ d + 1) ∧ kr (d + 1) ((List.range s.length).map (ln ls)) = 2 ^ (d + 1) := by
  obtain ⟨w, hl, hb⟩ := chain_wd _ _ _ h
  obtain ⟨q, e⟩ := chain_first hr hp hN h
  have hone : ∀ r, r < s.length → 1 ≤ ln ls r := fun r hr' => by rw [e, ln_cons, if_pos hr']; omega
  have hle : ∀ r, ln ls r ≤ d + 1 := fun r => by have := ln_le ls r; omega
  refine ⟨fun r hr' => ⟨hone r hr', hle r⟩, ?_⟩
  have hb' := lv_back ls s.length (chain_falls hr hp _ _ _ h) hb hone
  rw [hl] at hb'
  have k := wd_kr (d + 1) ((List.range s.length).map (ln ls)) (2 * s.length - 2) (fun r hr' => by
    obtain ⟨x, hx, rfl⟩ := List.mem_map.1 hr'
    exact ⟨hone x (List.mem_range.1 hx), hle x⟩) (by rw [hb']; exact w)
  rw [List.length_map, List.length_range] at k
  have e2 : (2 * (s.length : Int) - ((2 * s.length - 2 : Nat) : Int)) = 2 := by omega
  rw [e2] at k
  have : (kr (d + 1) ((List.range s.length).map (ln ls)) : Int) = ((2 ^ (d + 1) : Nat) : Int) := by
    have e3 : (((2 ^ (d + 1) : Nat)) : Int) = (2 : Int) ^ (d + 1) := by simp
    rw [e3]; omega
  exact_mod_cast this
/-- There is room: of 65 classes at the most, by seven levels or more. -/
def tl (N : Nat) : Nat → Nat
  | 0 => 0
  | d + 1 => N + tl N d / 2
theorem TL_tl (s : List Nat) : ∀ d, (TL s d).length = tl s.length d
  | 0 => rfl
  | d + 1 => by rw [TL_len, TL_tl s d]; rfl
theorem tl_room : ∀ N, N ≤ 65 → ∀ d, d ≤ 15 → 7 ≤ d → 2 * N - 2 ≤ tl N d := by decide +kernel
theorem chain_there {s : List Nat} (hr : Rising s) {d : Nat} (hN : s.length ≤ 65) (h7 : 7 ≤ d) (h15 : d ≤ 15) : ∃ ls, Chain s d (2 * s.length - 2) ls :=
  chain_is hr d _ (by rw [TL_tl]; exact tl_room _ hN d h15 h7)
end Go.Proofs.Ytlkebkchbgpnpaa
