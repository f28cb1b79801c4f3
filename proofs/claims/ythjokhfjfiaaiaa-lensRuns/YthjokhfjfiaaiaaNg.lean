/-
  What Put and Get of lengths answer: lists alone; no Go in sight.
-/
import Derived.Test.YthjokhfjfiaaiaaNm
namespace Go.Proofs.Ythjokhfjfiaaiaa
open Go.ChangeShapes Go.WideShapes Go.ChangeAt Go.RowKit
open Go.ChangeMaps (open_string shut_string)

theorem mayL_yes {f : List Int} (h : mayL f = true) : f.length = 65 ∧ (∀ z ∈ f, 0 ≤ z ∧ z ≤ 15) ∧ okL (nat f) = true := by
  unfold mayL at h
  simp only [Bool.and_eq_true, decide_eq_true_eq, Bool.not_eq_true'] at h
  exact ⟨h.1.1, (any_no f).1 h.1.2, h.2⟩
/-- The bytes of lengths; nothing of those that may not be. -/
def putL (f : List Int) : List UInt8 := if mayL f = true then pk (enc (nat f)) else []
def putN (L : List Nat) : List UInt8 := putL (L.map Int.ofNat)
/-- What bytes say: the error, the lengths, how many bytes they take. -/
def getL (t : List UInt8) : Nat × List Nat × Nat :=
  match dec 65 [] (nbs t) with
  | none => (2, [], 0)
  | some (L, _) => if putN L ≠ [] ∧ t.take (putN L).length = putN L then (0, L, (putN L).length) else (3, [], 0)
theorem nat_15 {f : List Int} (h : ∀ z ∈ f, 0 ≤ z ∧ z ≤ 15) : ∀ x ∈ nat f, x ≤ 15 := by
  intro x hx
  obtain ⟨z, hz, rfl⟩ := List.mem_map.1 hx
  have := h z hz
  omega
theorem pl_no {f : List Int} (h : mayL f = false) : putL f = [] := by unfold putL; rw [if_neg (by simp [h])]
theorem pl_yes {f : List Int} (h : mayL f = true) : putL f = pk (enc (nat f)) := by unfold putL; rw [if_pos h]
theorem put_facts {f : List Int} (h : mayL f = true) : (∀ y ∈ enc (nat f), y < 16) ∧ 9 ≤ (enc (nat f)).length ∧ (enc (nat f)).length ≤ 130 ∧ (putL f).length = ((enc (nat f)).length + 1) / 2 ∧ nbs (putL f) = enc (nat f) ++ pad (enc (nat f)) := by
  obtain ⟨h1, h2, _⟩ := mayL_yes h
  obtain ⟨b1, b2, b3⟩ := enc_bd _ (nat f) (Nat.le_refl _) (nat_15 h2)
  rw [nat_len, h1] at b2 b3
  refine ⟨b1, by omega, by omega, by rw [pl_yes h, pk_len], by rw [pl_yes h, nbs_pk _ b1]⟩
theorem put_len2 {f : List Int} (h : mayL f = true) : 5 ≤ (putL f).length ∧ (putL f).length ≤ 65 := by
  obtain ⟨_, h2, h3, h4, _⟩ := put_facts h
  omega
theorem pl_le (f : List Int) : (putL f).length ≤ 65 := by
  by_cases h : mayL f = true
  · exact (put_len2 h).2
  · rw [pl_no (by simpa using h)]; simp
theorem pl_ne {f : List Int} (h : mayL f = true) : putL f ≠ [] := by
  intro e
  have := (put_len2 h).1
  rw [e] at this; simp at this
theorem may_of_put {f : List Int} (h : putL f ≠ []) : mayL f = true := by
  by_cases g : mayL f = true
  · exact g
  · exact absurd (pl_no (by simpa using g)) h
theorem dec_put {L : List Nat} (h : mayL (L.map Int.ofNat) = true) (u : List UInt8) : dec 65 [] (nbs (putN L ++ u)) = some (L, pad (enc L) ++ nbs u) := by
  obtain ⟨_, _, _, _, e⟩ := put_facts h
  rw [nat_of] at e
  have hl : L.length = 65 := by have := (mayL_yes h).1; simpa using this
  unfold putN
  rw [nbs_append, e, List.append_assoc, dec_enc _ L 65 [] _ (Nat.le_refl _) (by simpa using hl) (by simp)]
  simp
/-- Lengths are told again, whatever stands behind. -/
theorem get_put {L : List Nat} (h : mayL (L.map Int.ofNat) = true) (u : List UInt8) : getL (putN L ++ u) = (0, L, (putN L).length) := by
  unfold getL
  rw [dec_put h u]
  simp only
  rw [if_pos ⟨pl_ne h, by rw [List.take_left]⟩]
/-- Cut more is needed. -/
theorem get_cut {L : List Nat} (h : mayL (L.map Int.ofNat) = true) (j : Nat) (hj : j < (putN L).length) : getL ((putN L).take j) = (2, [], 0) := by
  obtain ⟨_, _, _, e4, e⟩ := put_facts h
  rw [nat_of] at e4 e
  have hl : L.length = 65 := by have := (mayL_yes h).1; simpa using this
  unfold putN at hj ⊢
  have e2 : dec 65 [] (nbs ((putL (L.map Int.ofNat)).take j)) = none := by
    rw [nbs_take, e, List.take_append_of_le_length (by omega)]
    exact dec_cut _ L 65 [] (2 * j) (Nat.le_refl _) (by simpa using hl) (by simp) (by omega)
  unfold getL
  rw [e2]
/-- What is told was put there. -/
theorem get_said {t : List UInt8} {L : List Nat} {k : Nat} (h : getL t = (0, L, k)) : mayL (L.map Int.ofNat) = true ∧ k = (putN L).length ∧ t.take (putN L).length = putN L := by
  unfold getL at h
  match hd : dec 65 [] (nbs t) with
  | none => rw [hd] at h; simp at h
  | some (M, r) =>
    rw [hd] at h
    simp only at h
    by_cases hc : putN M ≠ [] ∧ t.take (putN M).length = putN M
    · rw [if_pos hc] at h
      injection h with _ h
      injection h with h1 h2
      subst h1
      exact ⟨may_of_put hc.1, h2.symm, hc.2⟩
    · rw [if_neg hc] at h; simp at h
/-- As the reference asks it. -/
theorem get_ask {t : List UInt8} {L r : List Nat} (h : dec 65 [] (nbs t) = some (L, r)) (k : Nat) (hr : r = (nbs t).drop k) (hk : k ≤ (nbs t).length) :
    (putN L ≠ [] ∧ t.take (putN L).length = putN L) ↔ (mayL (L.map Int.ofNat) = true ∧ putN L = t.take ((k + 1) / 2)) := by
  constructor
  · rintro ⟨h1, h2⟩
    have hm := may_of_put h1
    refine ⟨hm, ?_⟩
    have e : putN L ++ t.drop (putN L).length = t := by
      conv => rhs; rw [← List.take_append_drop (putN L).length t, h2]
    have d := dec_put hm (t.drop (putN L).length)
    rw [e, h] at d
    injection d with d
    injection d with _ d
    obtain ⟨_, _, _, e4, e5⟩ := put_facts hm
    rw [nat_of] at e4 e5
    have n1 : (nbs t).length = (enc L).length + (pad (enc L) ++ nbs (t.drop (putN L).length)).length := by
      conv => lhs; rw [← e]
      rw [nbs_append, show nbs (putN L) = _ from e5, List.append_assoc, List.length_append]
    rw [← d, hr, List.length_drop] at n1
    have : k = (enc L).length := by omega
    rw [this, ← e4]
    exact h2.symm
  · rintro ⟨h1, h2⟩
    refine ⟨pl_ne h1, ?_⟩
    conv => rhs; rw [h2]
    have : (putN L).length = min ((k + 1) / 2) t.length := by
      conv => lhs; rw [h2]
      simp
    rw [this]
    have n := nbs_len t
    rw [Nat.min_eq_left (by omega)]
theorem get_none {t : List UInt8} (h : dec 65 [] (nbs t) = none) : getL t = (2, [], 0) := by unfold getL; rw [h]
theorem get_yes {t : List UInt8} {L r : List Nat} (h : dec 65 [] (nbs t) = some (L, r)) (h1 : putN L ≠ []) (h2 : t.take (putN L).length = putN L) : getL t = (0, L, (putN L).length) := by
  unfold getL; rw [h]; simp only; rw [if_pos ⟨h1, h2⟩]
theorem get_no {t : List UInt8} {L r : List Nat} (h : dec 65 [] (nbs t) = some (L, r)) (h1 : ¬ (putN L ≠ [] ∧ t.take (putN L).length = putN L)) : getL t = (3, [], 0) := by
  unfold getL; rw [h]; simp only; rw [if_neg h1]
/-- What Get answers of a text at a place. -/
def getA (s : List UInt8) (at' : Int) : Nat × List Nat × Nat :=
  if at' < 0 ∨ (s.length : Int) < at' then (1, [], 0) else
  let g := getL (s.drop at'.toNat)
  (g.1, g.2.1, if g.1 = 0 then at'.toNat + g.2.2 else 0)
theorem getA_arg (s : List UInt8) (at' : Int) (h : at' < 0 ∨ (s.length : Int) < at') : getA s at' = (1, [], 0) := by unfold getA; rw [if_pos h]
theorem getA_of (s : List UInt8) (i : Nat) (h : i ≤ s.length) (er k : Nat) (L : List Nat) (g : getL (s.drop i) = (er, L, k)) : getA s i = (er, L, if er = 0 then i + k else 0) := by
  unfold getA; rw [if_neg (by omega)]; simp only [Int.toNat_natCast, g]
theorem dec_len : ∀ (f : Nat) (acc ns L rest : List Nat), dec f acc ns = some (L, rest) → (∀ x ∈ ns, x < 16) → acc.length ≤ 80 → L.length ≤ 80
  | 0, acc, ns, L, rest, h, _, ha => by
    unfold dec at h; injection h with h; injection h with h _; rw [← h]; exact ha
  | f + 1, acc, ns, L, rest, h, hn, ha => by
    by_cases hc : 65 ≤ acc.length
    · rw [dec_done _ _ _ hc] at h; injection h with h; injection h with h _; rw [← h]; exact ha
    · match ns, h with
      | [], h => rw [dec_end f acc (by omega)] at h; cases h
      | x :: r, h =>
        by_cases hx : x = 0
        · subst hx
          match r, h with
          | [], h => rw [dec_half f acc (by omega)] at h; cases h
          | y :: q, h =>
            rw [dec_row f acc q y (by omega)] at h
            have hy : y < 16 := hn y (by simp)
            exact dec_len f _ q L rest h (fun z hz => hn z (by simp [hz])) (by simp; omega)
        · rw [dec_pos f acc r x (by omega) (by omega)] at h
          exact dec_len f _ r L rest h (fun z hz => hn z (by simp [hz])) (by simp; omega)
end Go.Proofs.Ythjokhfjfiaaiaa
