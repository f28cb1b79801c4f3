/-
  Lengths by cutting, and their order: lists and numbers, no Go in sight.
-/
import Derived.Test.YtgejcdmiihmlfaaKn
import Derived.Test.YtgejcdmiihmlfaaCn
namespace Go.Proofs.Ytgejcdmiihmlfaa
open Go.ChangeShapes Go.WideShapes Go.ChangeAt Go.RowKit
open Go.ChangeMaps (open_string shut_string)

/-! ### lengths by cutting -/
def Cut (l : List Nat) : Prop := 1 ≤ l.length ∧ l.length ≤ 60 ∧ (∀ x ∈ l, x ≤ 15) ∧ acc l = 32768 ∧ (2 ≤ l.length → ∀ x ∈ l, 1 ≤ x)
theorem cut_zero : Cut [0] := ⟨by simp, by simp, by simp, rfl, fun h => by simp at h⟩
theorem acc_set : ∀ (l : List Nat) (k v : Nat), k < l.length → acc (l.set k v) + w15 (at0 l k) = acc l + w15 v
  | [], k, _, h => by simp at h
  | a :: l, 0, v, _ => by
    rw [List.set_cons_zero, acc_cons, acc_cons]
    show _ + w15 a = _
    omega
  | a :: l, k + 1, v, h => by
    have ih := acc_set l k v (by simpa using h)
    rw [List.set_cons_succ, acc_cons, acc_cons]
    show _ + w15 (at0 l k) = _
    omega
theorem cut_step {l : List Nat} (h : Cut l) (k : Nat) (hk : k < l.length) (h60 : l.length < 60) (h15 : at0 l k < 15) : Cut (l.set k (at0 l k + 1) ++ [at0 l k + 1]) := by
  obtain ⟨h1, h2, h3, h4, h5⟩ := h
  have hs := acc_set l k (at0 l k + 1) hk
  have hw : w15 (at0 l k) = w15 (at0 l k + 1) + w15 (at0 l k + 1) := by
    unfold w15
    have : 15 - at0 l k = (15 - (at0 l k + 1)) + 1 := by omega
    rw [this, Nat.pow_succ]; omega
  refine ⟨by simp, by simp; omega, ?_, ?_, fun _ => ?_⟩
  · intro x hx
    rcases List.mem_append.1 hx with h | h
    · rcases List.mem_or_eq_of_mem_set h with h | h
      · exact h3 x h
      · omega
    · rw [List.mem_singleton.1 h]; omega
  · rw [acc_append]
    have : acc [at0 l k + 1] = w15 (at0 l k + 1) := by simp [acc]
    omega
  · intro x hx
    rcases List.mem_append.1 hx with h | h
    · by_cases e : 2 ≤ l.length
      · rcases List.mem_or_eq_of_mem_set h with h | h
        · exact h5 e x h
        · omega
      · have hl : l.length = 1 := by omega
        obtain ⟨i, hi, rfl⟩ := List.getElem_of_mem h
        rw [List.length_set] at hi
        have hik : i = k := by omega
        subst hik
        simp
    · rw [List.mem_singleton.1 h]; omega
/-! ### lengths filled up with noughts -/
def fill (l : List Nat) : List Nat := l ++ List.replicate (65 - l.length) 0
theorem fill_len {l : List Nat} (h : l.length ≤ 60) : (fill l).length = 65 := by unfold fill; simp; omega
theorem fill_at (l : List Nat) (i : Nat) (h : i < l.length) : at0 (fill l) i = at0 l i := by
  unfold fill at0
  rw [List.getD_eq_getElem?_getD, List.getD_eq_getElem?_getD, List.getElem?_append_left h]
theorem fill_out (l : List Nat) (i : Nat) (h : l.length ≤ i) : at0 (fill l) i = 0 := by
  unfold fill at0
  rw [List.getD_eq_getElem?_getD, List.getElem?_append_right h, List.getElem?_replicate]
  split <;> rfl
theorem fill_bd {l : List Nat} (h : ∀ x ∈ l, x ≤ 15) (c : Nat) : at0 (fill l) c ≤ 15 := by
  by_cases hc : c < l.length
  · rw [fill_at l c hc, at0_of l c hc]; exact h _ (List.getElem_mem hc)
  · rw [fill_out l c (by omega)]; omega
theorem mS_take (L : List Nat) : ∀ i, i ≤ L.length → mS L i = ((L.take i).map wt).sum
  | 0, _ => by simp [mS]
  | i + 1, h => by
    have hi : i < L.length := by omega
    rw [mS_succ, mS_take L i (by omega), List.take_succ_eq_append_getElem hi, List.map_append, List.sum_append, at0_of L i hi]
    simp [wt]
theorem fill_sum {l : List Nat} (h : Cut l) (h2 : 2 ≤ l.length) : mS (fill l) 65 = 32768 := by
  obtain ⟨_, h60, _, h4, h5⟩ := h
  have hl := fill_len h60
  rw [mS_take _ 65 (by omega), List.take_of_length_le (by omega)]
  unfold fill
  rw [List.map_append, List.sum_append, List.map_replicate]
  have hz : (List.replicate (65 - l.length) (wt 0)).sum = 0 := by
    have : wt 0 = 0 := rfl
    rw [this]; simp
  have he : l.map wt = l.map w15 := List.map_congr_left fun x hx => by
    have := h5 h2 x hx
    unfold wt w15
    rw [if_pos (by omega)]
  rw [hz, he, Nat.add_zero]
  exact h4
theorem fill_may {l : List Nat} (h : Cut l) (h2 : 2 ≤ l.length) : mayL ((fill l).map Int.ofNat) = true := by
  rw [mayL_of _ (fill_len h.2.1) (fill_bd h.2.2.1), okL_iff]
  exact .inr (.inl (fill_sum h h2))
/-! ### the order, class by class, is the beginning of the whole order -/
theorem byLen_more (L : List Nat) (n : Nat) : ∀ k, ∃ q, byLen L (n + k) = byLen L n ++ q
  | 0 => ⟨[], by simp⟩
  | k + 1 => by
    obtain ⟨q, h⟩ := byLen_more L n k
    exact ⟨q ++ row L (n + k + 1) 65, by
      show byLen L (n + k) ++ row L (n + k + 1) 65 = _
      rw [h, List.append_assoc]⟩
theorem row_more (L : List Nat) (n i : Nat) : ∀ k, ∃ q, row L n (i + k) = row L n i ++ q
  | 0 => ⟨[], by simp⟩
  | k + 1 => by
    obtain ⟨q, h⟩ := row_more L n i k
    rw [← Nat.add_assoc, row_succ]
    by_cases e : at0 L (i + k) = n
    · rw [if_pos e, h]; exact ⟨q ++ [i + k], by rw [List.append_assoc]⟩
    · rw [if_neg e]; exact ⟨q, h⟩
theorem pre2_pre (L : List Nat) (n i : Nat) (hn : n < 15) (hi : i ≤ 65) : ∃ q, byLen L 15 = pre2 L n i ++ q := by
  obtain ⟨q1, h1⟩ := row_more L (n + 1) i (65 - i)
  obtain ⟨q2, h2⟩ := byLen_more L (n + 1) (15 - (n + 1))
  rw [show i + (65 - i) = 65 by omega] at h1
  rw [show n + 1 + (15 - (n + 1)) = 15 by omega] at h2
  exact ⟨q1 ++ q2, by rw [h2, byLen, h1]; unfold pre2; simp [List.append_assoc]⟩
/-- The class's code, filled up to fifteen bits, is what all ahead take. -/
theorem order_code (L : List Nat) (hb : ∀ c, at0 L c ≤ 15) (n i : Nat) (hn : n < 15) (hi : i < 65) (he : at0 L i = n + 1) :
    ∃ b, cat (codesOf L) i = (b, n + 1) ∧ b * 2 ^ (15 - (n + 1)) = acc ((pre2 L n i).map (at0 L)) := by
  have hs := pre2_succ L n i
  rw [if_pos he] at hs
  obtain ⟨q, hq⟩ := pre2_pre L n (i + 1) hn (by omega)
  rw [hs, List.append_assoc] at hq
  obtain ⟨b, b1, b2⟩ := code_at L hb _ q i hq
  rw [he] at b1 b2
  exact ⟨b, b1, b2⟩
theorem order_acc (L : List Nat) (n i : Nat) : acc ((pre2 L n (i + 1)).map (at0 L)) = if at0 L i = n + 1 then acc ((pre2 L n i).map (at0 L)) + 2 ^ (15 - (n + 1)) else acc ((pre2 L n i).map (at0 L)) := by
  rw [pre2_succ]
  split
  · rename_i h
    rw [List.map_append, acc_append]
    simp [acc, w15, h]
  · rfl
theorem row_end (l : List Nat) (n : Nat) : ∀ k, row (fill l) (n + 1) (l.length + k) = row (fill l) (n + 1) l.length
  | 0 => rfl
  | k + 1 => by rw [← Nat.add_assoc, row_succ, if_neg (by rw [fill_out l _ (by omega)]; omega), row_end l n k]
theorem order_end (l : List Nat) (n : Nat) (h : l.length ≤ 60) : pre2 (fill l) n l.length = byLen (fill l) (n + 1) := by
  have := row_end l n (65 - l.length)
  rw [show l.length + (65 - l.length) = 65 by omega] at this
  unfold pre2
  rw [← this]; rfl
theorem pre2_acc (L : List Nat) (n i : Nat) (hi : i ≤ 65) (hn : n ≤ 15) : acc ((pre2 L n i).map (at0 L)) ≤ 1040 * 32768 := by
  exact Nat.le_trans (acc_bd L (pre2 L n i)) (Nat.mul_le_mul_right _ (pre2_len L n i hi hn))
end Go.Proofs.Ytgejcdmiihmlfaa
