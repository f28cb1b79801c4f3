/-
  Two rising lists merged, and the least split: laid ahead for package merge; no Go in sight; what lies in the first of two lists merged; packages; the lists of all levels: laid ahead for package merge; more singles than packages, fewer from level to level; the least cost level by level, and what it is not below: laid ahead for package merge; along the splits the cost is the least one; fewer singles cost more; how many classes are longer, level by level, and that none cost less: laid ahead for package merge; from lengths to how many are longer, level by level; any classes weigh no less than as many of the least; no lengths that may be cost less than the splits say: laid ahead for package merge; the lengths that the splits say: they may be, and cost what the splits cost; a level more costs no more; there is room for 65 classes: laid ahead for package merge.
-/
import Derived.Test.YtofclflcicjlaaaGreatPushh
import Derived.Test.YtofclflcicjlaaaGreatLy
import Derived.Test.YtofclflcicjlaaaGreatSc
import Derived.Test.YtofclflcicjlaaaGreatSg
namespace Go.Proofs.YtofclflcicjlaaaGreat
set_option maxRecDepth 100000
open Go.ChangeShapes Go.WideShapes Go.ChangeAt Go.RowKit
open Go.ChangeMaps (open_string shut_string)

/-! ### two rising lists merged: which split is least -/
def at0 (l : List Nat) (i : Nat) : Nat := l.getD i 0
def pre (l : List Nat) (k : Nat) : Nat := (l.take k).sum
theorem pre_succ (l : List Nat) (k : Nat) (h : k < l.length) : pre l (k + 1) = pre l k + at0 l k := by
  unfold pre at0
  rw [List.take_succ_eq_append_getElem h, List.sum_append, List.getD_eq_getElem?_getD, List.getElem?_eq_getElem h]
  simp
/-- The first k of A and B merged, B ahead where they weigh alike, are a of A and k - a of B. -/
def Spl (A B : List Nat) (k a : Nat) : Prop :=
  a ≤ A.length ∧ a ≤ k ∧ k - a ≤ B.length ∧ (∀ i j, i < a → k - a ≤ j → j < B.length → at0 A i < at0 B j) ∧ (∀ i j, a ≤ i → i < A.length → j < k - a → at0 B j ≤ at0 A i)
def spc (A B : List Nat) (k x : Nat) : Nat := pre A x + pre B (k - x)
theorem spc_up {A B : List Nat} {k a x : Nat} (h : Spl A B k a) (hx : a ≤ x) (hA : x < A.length) (hk : x < k) : spc A B k x ≤ spc A B k (x + 1) := by
  obtain ⟨h1, h2, h3, h4, h5⟩ := h
  unfold spc
  have e : k - x = (k - (x + 1)) + 1 := by omega
  rw [pre_succ A x hA, e, pre_succ B _ (by omega)]
  have := h5 x (k - (x + 1)) hx hA (by omega)
  omega
theorem spc_down {A B : List Nat} {k a x : Nat} (h : Spl A B k a) (hx : x < a) (hB : k - x ≤ B.length) : spc A B k (x + 1) < spc A B k x := by
  obtain ⟨h1, h2, h3, h4, h5⟩ := h
  unfold spc
  have e : k - x = (k - (x + 1)) + 1 := by omega
  rw [pre_succ A x (by omega), e, pre_succ B _ (by omega)]
  have := h4 x (k - (x + 1)) hx (by omega) (by omega)
  omega
theorem spl_up {A B : List Nat} {k a : Nat} (h : Spl A B k a) : ∀ d, a + d ≤ A.length → a + d ≤ k → spc A B k a ≤ spc A B k (a + d)
  | 0, _, _ => Nat.le_refl _
  | d + 1, h1, h2 => Nat.le_trans (spl_up h d (by omega) (by omega)) (spc_up h (by omega) (by omega) (by omega))
theorem spl_down {A B : List Nat} {k a : Nat} (h : Spl A B k a) : ∀ d, d < a → k - (a - (d + 1)) ≤ B.length → spc A B k a < spc A B k (a - (d + 1))
  | 0, h1, h2 => by
    have := spc_down (x := a - 1) h (by omega) h2
    rwa [show a - 1 + 1 = a by omega] at this
  | d + 1, h1, h2 => by
    have i := spl_down h d (by omega) (by omega)
    have := spc_down (x := a - (d + 1 + 1)) h (by omega) h2
    rw [show a - (d + 1 + 1) + 1 = a - (d + 1) by omega] at this
    omega
theorem spl_least {A B : List Nat} {k a : Nat} (h : Spl A B k a) (x : Nat) (hA : x ≤ A.length) (hk : x ≤ k) (hB : k - x ≤ B.length) : spc A B k a ≤ spc A B k x ∧ (x < a → spc A B k a < spc A B k x) := by
  by_cases hx : x < a
  · have := spl_down h (a - x - 1) (by omega) (by rw [show a - (a - x - 1 + 1) = x by omega]; exact hB)
    rw [show a - (a - x - 1 + 1) = x by omega] at this
    exact ⟨Nat.le_of_lt this, fun _ => this⟩
  · have := spl_up h (x - a) (by omega) (by omega)
    rw [show a + (x - a) = x by omega] at this
    exact ⟨this, fun h => absurd h hx⟩
theorem spl_one {A B : List Nat} {k a b : Nat} (h : Spl A B k a) (g : Spl A B k b) : a = b := by
  have h1 := spl_least h b g.1 g.2.1 g.2.2.1
  have h2 := spl_least g a h.1 h.2.1 h.2.2.1
  by_cases e : a < b
  · have := h2.2 e; omega
  · by_cases e' : b < a
    · have := h1.2 e'; omega
    · omega

/-! ### the merged list -/
def Rising (l : List Nat) : Prop := l.Pairwise (· ≤ ·)
def mrgF : Nat → List Nat → List Nat → List Nat
  | 0, _, _ => []
  | _ + 1, [], [] => []
  | n + 1, [], b :: B => b :: mrgF n [] B
  | n + 1, a :: A, [] => a :: mrgF n A []
  | n + 1, a :: A, b :: B => if b ≤ a then b :: mrgF n (a :: A) B else a :: mrgF n A (b :: B)
def mrg (A B : List Nat) : List Nat := mrgF (A.length + B.length) A B
theorem at0_cons_zero (b : Nat) (B : List Nat) : at0 (b :: B) 0 = b := rfl
theorem at0_cons_succ (b : Nat) (B : List Nat) (j : Nat) : at0 (b :: B) (j + 1) = at0 B j := by unfold at0; simp
theorem at0_mem (l : List Nat) (i : Nat) (h : i < l.length) : at0 l i ∈ l := by
  unfold at0; rw [List.getD_eq_getElem?_getD, List.getElem?_eq_getElem h]; exact List.getElem_mem h
theorem rising_head {b : Nat} {B : List Nat} (h : Rising (b :: B)) (j : Nat) (hj : j < (b :: B).length) : b ≤ at0 (b :: B) j := by
  cases j with
  | zero => exact Nat.le_refl _
  | succ j =>
    rw [at0_cons_succ]
    exact (List.pairwise_cons.1 h).1 _ (at0_mem B j (by simpa using hj))
/-! ### what lies in the first k of two lists merged -/
theorem mrgF_perm : ∀ (n : Nat) (A B : List Nat), Rising A → Rising B → A.length + B.length ≤ n → ∀ k, k ≤ A.length + B.length → ∃ a, Spl A B k a ∧ ((mrgF n A B).take k).Perm (A.take a ++ B.take (k - a))
  | n, A, B, hA, hB, hn, 0, _ => ⟨0, ⟨Nat.zero_le _, Nat.zero_le _, by simp, fun i j hi => absurd hi (by omega), fun i j _ _ hj => absurd hj (by omega)⟩, by simp⟩
  | 0, A, B, hA, hB, hn, k + 1, hk => absurd hk (by omega)
  | n + 1, [], [], hA, hB, hn, k + 1, hk => absurd hk (by simp)
  | n + 1, [], b :: B, hA, hB, hn, k + 1, hk => by
    obtain ⟨a, h, e⟩ := mrgF_perm n [] B hA (List.pairwise_cons.1 hB).2 (by simp at hn ⊢; omega) k (by simp at hk ⊢; omega)
    have ha : a = 0 := by have := h.1; simpa using this
    subst ha
    refine ⟨0, ⟨Nat.zero_le _, Nat.zero_le _, by simp at hk ⊢; omega, fun i j hi => absurd hi (by omega), fun i j _ hi => absurd hi (by simp)⟩, ?_⟩
    rw [mrgF, List.take_succ_cons]
    simpa using e
  | n + 1, a :: A, [], hA, hB, hn, k + 1, hk => by
    obtain ⟨x, h, e⟩ := mrgF_perm n A [] (List.pairwise_cons.1 hA).2 hB (by simp at hn ⊢; omega) k (by simp at hk ⊢; omega)
    have hx : x = k := by have := h.2.1; have := h.2.2.1; simp at this; omega
    subst hx
    refine ⟨x + 1, ⟨by simp at hk ⊢; omega, Nat.le_refl _, by simp, fun i j _ _ hj => absurd hj (by simp), fun i j _ _ hj => absurd hj (by omega)⟩, ?_⟩
    rw [mrgF, List.take_succ_cons, List.take_succ_cons]
    simpa using e
  | n + 1, a :: A, b :: B, hA, hB, hn, k + 1, hk => by
    by_cases hab : b ≤ a
    · obtain ⟨x, h, e⟩ := mrgF_perm n (a :: A) B hA (List.pairwise_cons.1 hB).2 (by simp at hn ⊢; omega) k (by simp at hk ⊢; omega)
      obtain ⟨h1, h2, h3, h4, h5⟩ := h
      refine ⟨x, ⟨h1, by omega, by simp; omega, fun i j hi hj hjl => ?_, fun i j hi hil hj => ?_⟩, ?_⟩
      · obtain ⟨j', rfl⟩ : ∃ j', j = j' + 1 := ⟨j - 1, by omega⟩
        rw [at0_cons_succ]
        exact h4 i j' hi (by omega) (by simpa using hjl)
      · cases j with
        | zero => rw [at0_cons_zero]; exact Nat.le_trans hab (rising_head hA i hil)
        | succ j => rw [at0_cons_succ]; exact h5 i j hi hil (by omega)
      · rw [mrgF, if_pos hab, List.take_succ_cons, show k + 1 - x = (k - x) + 1 by omega, List.take_succ_cons]
        exact (List.Perm.cons b e).trans List.perm_middle.symm
    · obtain ⟨x, h, e⟩ := mrgF_perm n A (b :: B) (List.pairwise_cons.1 hA).2 hB (by simp at hn ⊢; omega) k (by simp at hk ⊢; omega)
      obtain ⟨h1, h2, h3, h4, h5⟩ := h
      refine ⟨x + 1, ⟨by simp; omega, by omega, by omega, fun i j hi hj hjl => ?_, fun i j hi hil hj => ?_⟩, ?_⟩
      · cases i with
        | zero => rw [at0_cons_zero]; have := rising_head hB j hjl; omega
        | succ i => rw [at0_cons_succ]; exact h4 i j (by omega) (by omega) hjl
      · obtain ⟨i', rfl⟩ : ∃ i', i = i' + 1 := ⟨i - 1, by omega⟩
        rw [at0_cons_succ]
        exact h5 i' j (by omega) (by simpa using hil) (by omega)
      · rw [mrgF, if_neg hab, List.take_succ_cons, List.take_succ_cons, show k + 1 - (x + 1) = k - x by omega]
        exact List.Perm.cons a e
theorem mrgF_len : ∀ (n : Nat) (A B : List Nat), A.length + B.length ≤ n → (mrgF n A B).length = A.length + B.length
  | 0, [], [], _ => rfl
  | 0, a :: A, B, h => absurd h (by simp)
  | 0, [], b :: B, h => absurd h (by simp)
  | n + 1, [], [], _ => rfl
  | n + 1, [], b :: B, h => by rw [mrgF, List.length_cons, mrgF_len n [] B (by simp at h ⊢; omega)]; simp
  | n + 1, a :: A, [], h => by rw [mrgF, List.length_cons, mrgF_len n A [] (by simp at h ⊢; omega)]; simp
  | n + 1, a :: A, b :: B, h => by
    rw [mrgF]
    split
    · rw [List.length_cons, mrgF_len n (a :: A) B (by simp at h ⊢; omega)]; simp; omega
    · rw [List.length_cons, mrgF_len n A (b :: B) (by simp at h ⊢; omega)]; simp; omega
theorem mrgF_mem : ∀ (n : Nat) (A B : List Nat) (x : Nat), x ∈ mrgF n A B → x ∈ A ∨ x ∈ B
  | 0, _, _, x, h => by simp [mrgF] at h
  | n + 1, [], [], x, h => by simp [mrgF] at h
  | n + 1, [], b :: B, x, h => by
    rw [mrgF] at h
    rcases List.mem_cons.1 h with h | h
    · exact .inr (by rw [h]; exact List.mem_cons_self)
    · exact (mrgF_mem n [] B x h).imp id (List.mem_cons_of_mem _)
  | n + 1, a :: A, [], x, h => by
    rw [mrgF] at h
    rcases List.mem_cons.1 h with h | h
    · exact .inl (by rw [h]; exact List.mem_cons_self)
    · exact (mrgF_mem n A [] x h).imp (List.mem_cons_of_mem _) id
  | n + 1, a :: A, b :: B, x, h => by
    rw [mrgF] at h
    split at h
    · rcases List.mem_cons.1 h with h | h
      · exact .inr (by rw [h]; exact List.mem_cons_self)
      · exact (mrgF_mem n (a :: A) B x h).imp id (List.mem_cons_of_mem _)
    · rcases List.mem_cons.1 h with h | h
      · exact .inl (by rw [h]; exact List.mem_cons_self)
      · exact (mrgF_mem n A (b :: B) x h).imp (List.mem_cons_of_mem _) id
theorem mrgF_rising : ∀ (n : Nat) (A B : List Nat), Rising A → Rising B → Rising (mrgF n A B)
  | 0, _, _, _, _ => List.Pairwise.nil
  | n + 1, [], [], _, _ => List.Pairwise.nil
  | n + 1, [], b :: B, hA, hB => by
    rw [mrgF]
    refine List.pairwise_cons.2 ⟨fun x hx => ?_, mrgF_rising n [] B hA (List.pairwise_cons.1 hB).2⟩
    rcases mrgF_mem _ _ _ _ hx with h | h
    · simp at h
    · exact (List.pairwise_cons.1 hB).1 x h
  | n + 1, a :: A, [], hA, hB => by
    rw [mrgF]
    refine List.pairwise_cons.2 ⟨fun x hx => ?_, mrgF_rising n A [] (List.pairwise_cons.1 hA).2 hB⟩
    rcases mrgF_mem _ _ _ _ hx with h | h
    · exact (List.pairwise_cons.1 hA).1 x h
    · simp at h
  | n + 1, a :: A, b :: B, hA, hB => by
    rw [mrgF]
    split
    · rename_i hab
      refine List.pairwise_cons.2 ⟨fun x hx => ?_, mrgF_rising n (a :: A) B hA (List.pairwise_cons.1 hB).2⟩
      rcases mrgF_mem _ _ _ _ hx with h | h
      · rcases List.mem_cons.1 h with h | h
        · rw [h]; exact hab
        · exact Nat.le_trans hab ((List.pairwise_cons.1 hA).1 x h)
      · exact (List.pairwise_cons.1 hB).1 x h
    · rename_i hab
      refine List.pairwise_cons.2 ⟨fun x hx => ?_, mrgF_rising n A (b :: B) (List.pairwise_cons.1 hA).2 hB⟩
      rcases mrgF_mem _ _ _ _ hx with h | h
      · exact (List.pairwise_cons.1 hA).1 x h
      · rcases List.mem_cons.1 h with h | h
        · rw [h]; omega
        · have := (List.pairwise_cons.1 hB).1 x h; omega
theorem mrg_len (A B : List Nat) : (mrg A B).length = A.length + B.length := mrgF_len _ A B (Nat.le_refl _)
theorem mrg_rising (A B : List Nat) (hA : Rising A) (hB : Rising B) : Rising (mrg A B) := mrgF_rising _ A B hA hB
theorem mrg_mem (A B : List Nat) (x : Nat) (h : x ∈ mrg A B) : x ∈ A ∨ x ∈ B := mrgF_mem _ A B x h
theorem rising_at {l : List Nat} (h : Rising l) (i j : Nat) (hij : i ≤ j) (hj : j < l.length) : at0 l i ≤ at0 l j := by
  unfold at0
  rw [List.getD_eq_getElem?_getD, List.getD_eq_getElem?_getD, List.getElem?_eq_getElem hj, List.getElem?_eq_getElem (by omega)]
  by_cases e : i = j
  · subst e; exact Nat.le_refl _
  · exact List.pairwise_iff_getElem.1 h i j (by omega) hj (by omega)
/-- A single that is among the first k stands at a place below k. -/
theorem spl_place {A B : List Nat} (hA : Rising A) (hB : Rising B) {k a : Nat} (h : Spl A B k a) (hk : k ≤ A.length + B.length) (i : Nat) (hi : i < a) : ∃ t, t < k ∧ at0 (mrg A B) t = at0 A i := by
  obtain ⟨a', h', p⟩ := mrgF_perm _ A B hA hB (Nat.le_refl _) k hk
  obtain rfl := spl_one h h'
  have hm : at0 A i ∈ A.take a ++ B.take (k - a) := by
    refine List.mem_append_left _ ?_
    have hil : i < (A.take a).length := by rw [List.length_take]; have := h.1; omega
    have := at0_mem (A.take a) i hil
    unfold at0 at this ⊢
    rwa [List.getD_eq_getElem?_getD, List.getElem?_take, if_pos hi, ← List.getD_eq_getElem?_getD] at this
  have hm' := p.mem_iff.2 hm
  obtain ⟨t, ht, e⟩ := List.getElem_of_mem hm'
  rw [List.length_take] at ht
  refine ⟨t, by omega, ?_⟩
  rw [← e]
  show at0 (mrgF _ A B) t = _
  unfold at0
  rw [List.getD_eq_getElem?_getD, List.getElem?_eq_getElem (by omega), List.getElem_take]; rfl

/-! ### packages -/
def prs : List Nat → List Nat
  | a :: b :: l => (a + b) :: prs l
  | _ => []
theorem prs_len : ∀ l : List Nat, (prs l).length = l.length / 2
  | [] => rfl
  | [_] => by simp [prs]
  | a :: b :: l => by rw [prs, List.length_cons, prs_len l]; simp; omega
theorem prs_at : ∀ (l : List Nat) (i : Nat), i < l.length / 2 → at0 (prs l) i = at0 l (2 * i) + at0 l (2 * i + 1)
  | [], i, h => absurd h (by simp)
  | [_], i, h => absurd h (by simp)
  | a :: b :: l, 0, _ => rfl
  | a :: b :: l, i + 1, h => by
    rw [prs, at0_cons_succ, prs_at l i (by simp at h; omega), show 2 * (i + 1) = 2 * i + 1 + 1 by omega, at0_cons_succ, at0_cons_succ, at0_cons_succ, at0_cons_succ]
theorem rising_of {l : List Nat} (h : ∀ i j, i < j → j < l.length → at0 l i ≤ at0 l j) : Rising l := by
  refine List.pairwise_iff_getElem.2 fun i j hi hj hij => ?_
  have := h i j hij hj
  unfold at0 at this
  rwa [List.getD_eq_getElem?_getD, List.getD_eq_getElem?_getD, List.getElem?_eq_getElem hj, List.getElem?_eq_getElem hi] at this
theorem prs_rising (l : List Nat) (h : Rising l) : Rising (prs l) := by
  refine rising_of fun i j hij hj => ?_
  rw [prs_len] at hj
  rw [prs_at l i (by omega), prs_at l j hj]
  have := rising_at h (2 * i) (2 * j) (by omega) (by omega)
  have := rising_at h (2 * i + 1) (2 * j + 1) (by omega) (by omega)
  omega
/-- The list of a level with d levels from it on. -/
def TL (s : List Nat) : Nat → List Nat
  | 0 => []
  | d + 1 => mrg s (prs (TL s d))
theorem TL_rising (s : List Nat) (h : Rising s) : ∀ d, Rising (TL s d)
  | 0 => List.Pairwise.nil
  | d + 1 => mrg_rising _ _ h (prs_rising _ (TL_rising s h d))
theorem TL_pos (s : List Nat) (hp : ∀ x ∈ s, 0 < x) : ∀ d, ∀ i, i < (TL s d).length → 0 < at0 (TL s d) i
  | 0, i, h => absurd h (by simp [TL])
  | d + 1, i, h => by
    rcases mrg_mem _ _ _ (at0_mem _ i h) with h' | h'
    · exact hp _ h'
    · obtain ⟨t, ht, e⟩ := List.getElem_of_mem h'
      have ht' := ht
      rw [prs_len] at ht'
      have e' : at0 (prs (TL s d)) t = at0 (mrg s (prs (TL s d))) i := by
        rw [← e]; show (prs (TL s d)).getD t 0 = _; rw [List.getD_eq_getElem?_getD, List.getElem?_eq_getElem ht]; rfl
      show 0 < at0 (mrg s (prs (TL s d))) i
      rw [← e', prs_at _ t ht']
      have := TL_pos s hp d (2 * t) (by omega)
      omega

theorem fewer {s : List Nat} (hr : Rising s) (hp : ∀ x ∈ s, 0 < x) {d k a a' : Nat} (h : Spl s (prs (TL s (d + 1))) k a) (h' : Spl s (prs (TL s d)) (2 * (k - a)) a') : a' ≤ a := by
  by_cases g : a' ≤ a
  · exact g
  · exfalso
    obtain ⟨h1, h2, h3, h4, h5⟩ := h
    have h3' := h3
    rw [prs_len] at h3'
    have hl : (TL s (d + 1)).length = s.length + (prs (TL s d)).length := by rw [TL, mrg_len]
    obtain ⟨t, ht, e⟩ := spl_place hr (prs_rising _ (TL_rising s hr d)) h' (by omega) a (by omega)
    have q := h5 a (t / 2) (Nat.le_refl _) (by have := h'.1; omega) (by omega)
    rw [prs_at _ (t / 2) (by omega)] at q
    have q1 := TL_pos s hp (d + 1) (2 * (t / 2)) (by omega)
    have q2 := TL_pos s hp (d + 1) (2 * (t / 2) + 1) (by omega)
    have e' : at0 (TL s (d + 1)) t = at0 s a := e
    rcases Nat.mod_two_eq_zero_or_one t with hm | hm
    · rw [show 2 * (t / 2) = t by omega] at q q2; rw [e'] at q; omega
    · rw [show 2 * (t / 2) + 1 = t by omega, e'] at q; omega

/-! ### from lengths to how many are longer, level by level -/
def nxth (rs : List Nat) : List Nat := (rs.filter (fun r => decide (2 ≤ r))).map (· - 1)
def lv : Nat → List Nat → List Nat
  | 0, _ => []
  | d + 1, rs => rs.length :: lv d (nxth rs)
def ones (rs : List Nat) : Nat := rs.countP (fun r => decide (r < 2))
end Go.Proofs.YtofclflcicjlaaaGreat
