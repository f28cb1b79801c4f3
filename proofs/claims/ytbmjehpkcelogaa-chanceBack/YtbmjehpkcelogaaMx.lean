/-
  Bits by their chances, as plain mathematics: low and range as numbers, a text's first bytes as a number, what an encoder comes to and what a decoder tells.
-/
import Derived.WalkKit
import Derived.ProofKit
namespace Go.Proofs.Ytbmjehpkcelogaa
open Go.ChangeShapes Go.WideShapes Go.ChangeAt Go.RowKit

/-- The lowest n bytes of x, the highest first. -/
def be : Nat → Nat → List UInt8
  | 0, _ => []
  | n + 1, x => be n (x / 256) ++ [UInt8.ofNat x]
/-- The number whose bytes these are, the highest first. -/
def num (l : List UInt8) : Nat := l.foldl (fun a c => a * 256 + c.toNat) 0

theorem be_len : ∀ n x, (be n x).length = n
  | 0, _ => rfl
  | n + 1, x => by simp [be, be_len n]
theorem num_snoc (l : List UInt8) (c : UInt8) : num (l ++ [c]) = num l * 256 + c.toNat := by simp [num, List.foldl_append]
theorem num_be : ∀ n x, num (be n x) = x % 256 ^ n
  | 0, x => by simp [be, num, Nat.mod_one]
  | n + 1, x => by
    rw [be, num_snoc, num_be n, UInt8.toNat_ofNat', show (256 : Nat) ^ (n + 1) = 256 * 256 ^ n from by rw [Nat.pow_succ, Nat.mul_comm], Nat.mod_mul]
    simp only [Nat.reducePow]
    omega
theorem num_lt : ∀ (n : Nat) (l : List UInt8), l.length = n → num l < 256 ^ n
  | 0, l, h => by have : l = [] := List.eq_nil_of_length_eq_zero h; subst this; simp [num]
  | n + 1, l, h => by
    have hne : l ≠ [] := by intro e; subst e; simp at h
    obtain ⟨m, c, rfl⟩ : ∃ m c, l = m ++ [c] := ⟨l.dropLast, l.getLast hne, (List.dropLast_concat_getLast hne).symm⟩
    have hm : m.length = n := by simpa using h
    have := num_lt n m hm
    have hc := c.toNat_lt
    rw [num_snoc, Nat.pow_succ]
    omega
theorem be_num : ∀ (n : Nat) (l : List UInt8), l.length = n → be n (num l) = l
  | 0, l, h => by have : l = [] := List.eq_nil_of_length_eq_zero h; subst this; rfl
  | n + 1, l, h => by
    have hne : l ≠ [] := by intro e; subst e; simp at h
    obtain ⟨m, c, rfl⟩ : ∃ m c, l = m ++ [c] := ⟨l.dropLast, l.getLast hne, (List.dropLast_concat_getLast hne).symm⟩
    have hm : m.length = n := by simpa using h
    have hc := c.toNat_lt
    rw [num_snoc, be, show (num m * 256 + c.toNat) / 256 = num m from by omega, be_num n m hm]
    congr 2
    apply UInt8.toNat_inj.1
    rw [UInt8.toNat_ofNat']; omega
theorem num_inj (n : Nat) (l m : List UInt8) (hl : l.length = n) (hm : m.length = n) (h : num l = num m) : l = m := by
  rw [← be_num n l hl, ← be_num n m hm, h]
theorem be_mod (n x : Nat) : be n (x % 256 ^ n) = be n x := by
  rw [← num_be]; exact be_num n _ (be_len n x)
theorem num_take_succ (s : List UInt8) (n : Nat) (h : n < s.length) : num (s.take (n + 1)) = num (s.take n) * 256 + s[n].toNat := by
  rw [List.take_succ_eq_append_getElem h, num_snoc]
theorem num_take_div (s : List UInt8) (n j : Nat) (h : n + j ≤ s.length) : num (s.take (n + j)) / 256 ^ j = num (s.take n) := by
  induction j with
  | zero => simp
  | succ j ih =>
    have e := num_take_succ s (n + j) (by omega)
    have hc := (s[n + j]'(by omega)).toNat_lt
    rw [show n + (j + 1) = n + j + 1 from rfl, e, Nat.pow_succ, Nat.mul_comm (256 ^ j), ← Nat.div_div_eq_div_mul, show (num (s.take (n + j)) * 256 + s[n + j].toNat) / 256 = num (s.take (n + j)) from by omega]
    exact ih (by omega)
theorem num_append (l : List UInt8) : ∀ (n : Nat) (m : List UInt8), m.length = n → num (l ++ m) = num l * 256 ^ n + num m
  | 0, m, h => by have : m = [] := List.eq_nil_of_length_eq_zero h; subst this; simp [num]
  | n + 1, m, h => by
    have hne : m ≠ [] := by intro e; subst e; simp at h
    obtain ⟨q, c, rfl⟩ : ∃ q c, m = q ++ [c] := ⟨m.dropLast, m.getLast hne, (List.dropLast_concat_getLast hne).symm⟩
    have hq : q.length = n := by simpa using h
    rw [← List.append_assoc, num_snoc, num_append l n q hq, num_snoc, Nat.pow_succ, Nat.add_mul, Nat.mul_assoc]; omega
/-- The last four of the first n + 4 bytes. -/
theorem num_last (s : List UInt8) (n : Nat) (h : n + 4 ≤ s.length) : num ((s.drop n).take 4) = num (s.take (n + 4)) % 4294967296 := by
  have e : s.take (n + 4) = s.take n ++ (s.drop n).take 4 := by rw [List.take_add]
  have h4 : ((s.drop n).take 4).length = 4 := by simp; omega
  have := num_lt 4 _ h4
  rw [e, num_append _ 4 _ h4]
  omega
theorem num_first (s : List UInt8) (n : Nat) (h : n + 1 ≤ s.length) (h0 : s[0]? ≠ some 0) : 256 ^ n ≤ num (s.take (n + 1)) := by
  have e := num_take_div s 1 n (by omega)
  have e1 := num_take_succ s 0 (by omega)
  have hp : 0 < 256 ^ n := Nat.pow_pos (by decide)
  have hs0 : s[0]'(by omega) ≠ 0 := by
    intro e; exact h0 (by rw [List.getElem?_eq_getElem (by omega), e])
  have h1 : 1 ≤ (s[0]'(by omega)).toNat := by
    rcases Nat.eq_zero_or_pos (s[0]'(by omega)).toNat with h | h
    · exact absurd (UInt8.toNat_inj.1 (by rw [h]; rfl)) hs0
    · exact h
  rw [show num (s.take 0) = 0 from by simp [num], Nat.zero_mul, Nat.zero_add] at e1
  rw [show (1 : Nat) + n = n + 1 from by omega] at e
  have : 1 ≤ num (s.take (n + 1)) / 256 ^ n := by rw [e, e1, Nat.zero_add]; exact h1
  exact Nat.le_of_lt_succ (by rcases Nat.lt_or_ge (num (s.take (n + 1))) (256 ^ n) with h | h
                              · rw [Nat.div_eq_of_lt h] at this; omega
                              · omega)

/-- A chance as it is cut. -/
def cut (p : Int) : Nat := if p < 1 then 1 else if 4095 < p then 4095 else p.toNat
theorem cut_pos (p : Int) : 1 ≤ cut p := by unfold cut; split <;> (try split) <;> omega
theorem cut_le (p : Int) : cut p ≤ 4095 := by unfold cut; split <;> (try split) <;> omega
/-- How often a range of S is made 256 times as much. -/
def gr (S : Nat) : Nat := if S < 16777216 then (if S * 256 < 16777216 then 2 else 1) else 0
/-- What is left when low comes to L and range to S. -/
def nar (k L S : Nat) : Nat × Nat × Nat := (k + gr S, L * 256 ^ gr S, S * 256 ^ gr S)
def bel (p : Int) (R : Nat) : Nat := R / 4096 * cut p
def bitS (p : Int) (b : Bool) (st : Nat × Nat × Nat) : Nat × Nat × Nat :=
  if b then nar st.1 st.2.1 (bel p st.2.2) else nar st.1 (st.2.1 + bel p st.2.2) (st.2.2 - bel p st.2.2)
def dirS (b : Bool) (st : Nat × Nat × Nat) : Nat × Nat × Nat :=
  if b then nar st.1 (st.2.1 + st.2.2 / 2) (st.2.2 / 2) else nar st.1 st.2.1 (st.2.2 / 2)
def dirN (v : Nat) : Nat → Nat × Nat × Nat → Nat × Nat × Nat
  | 0, st => st
  | n + 1, st => dirN v n (dirS (v.testBit n) st)
def Iv (st : Nat × Nat × Nat) : Prop := 16777216 ≤ st.2.2 ∧ st.2.2 < 4294967296 ∧ st.2.1 + st.2.2 ≤ 4294967295 * 256 ^ st.1
/-- What lies within. -/
def Sub (a b : Nat × Nat × Nat) : Prop := a.1 ≤ b.1 ∧ a.2.1 * 256 ^ (b.1 - a.1) ≤ b.2.1 ∧ b.2.1 + b.2.2 ≤ (a.2.1 + a.2.2) * 256 ^ (b.1 - a.1)
def st0 : Nat × Nat × Nat := (0, 0, 4294967295)

theorem iv0 : Iv st0 := by simp [Iv, st0]
theorem sub_refl (a : Nat × Nat × Nat) : Sub a a := by simp [Sub]
theorem sub_trans {a b c : Nat × Nat × Nat} (h : Sub a b) (g : Sub b c) : Sub a c := by
  obtain ⟨h1, h2, h3⟩ := h
  obtain ⟨g1, g2, g3⟩ := g
  have e : c.1 - a.1 = (b.1 - a.1) + (c.1 - b.1) := by omega
  refine ⟨by omega, ?_, ?_⟩
  · rw [e, Nat.pow_add, ← Nat.mul_assoc]
    exact Nat.le_trans (Nat.mul_le_mul_right _ h2) g2
  · rw [e, Nat.pow_add, ← Nat.mul_assoc]
    exact Nat.le_trans g3 (Nat.mul_le_mul_right _ h3)
theorem sub_nar (k L S : Nat) : Sub (k, L, S) (nar k L S) := by
  refine ⟨by simp [nar], ?_, ?_⟩
  · simp [nar]
  · simp [nar, Nat.add_mul]
theorem sub_part (k L R f S : Nat) (h : f + S ≤ R) : Sub (k, L, R) (k, L + f, S) := by
  refine ⟨Nat.le_refl _, ?_, ?_⟩ <;> simp <;> omega
theorem gr_le (S : Nat) : gr S ≤ 2 := by unfold gr; split <;> (try split) <;> omega
theorem gr_big (S : Nat) (h : 256 ≤ S) (h1 : S < 4294967296) : 16777216 ≤ S * 256 ^ gr S ∧ S * 256 ^ gr S < 4294967296 := by
  unfold gr; split <;> (try split) <;> simp <;> omega
theorem gr_at (S g : Nat) (h : ∀ i, i < g → S * 256 ^ i < 16777216) (hn : ¬ S * 256 ^ g < 16777216) (_hS : 256 ≤ S) : g = gr S := by
  unfold gr
  have h0 := h 0
  have h1 := h 1
  have h2 := h 2
  match g, hn with
  | 0, hn => simp at hn; rw [if_neg (by omega)]
  | 1, hn => simp at hn h0; rw [if_pos (by omega), if_neg (by omega)]
  | 2, hn => simp at hn h0 h1; rw [if_pos (by omega), if_pos (by omega)]
  | g + 3, hn => have := h2 (by omega); simp at this; omega
theorem iv_nar (k L S : Nat) (h : 256 ≤ S) (h1 : S < 4294967296) (h2 : L + S ≤ 4294967295 * 256 ^ k) : Iv (nar k L S) := by
  obtain ⟨a, b⟩ := gr_big S h h1
  refine ⟨a, b, ?_⟩
  simp only [nar]
  rw [← Nat.add_mul, Nat.pow_add, ← Nat.mul_assoc]
  exact Nat.mul_le_mul_right _ h2
theorem bel_lt (p : Int) (R : Nat) (h : 16777216 ≤ R) : 4096 ≤ bel p R ∧ bel p R + 4096 ≤ R := by
  have h1 := cut_pos p
  have h2 := cut_le p
  have hd : 4096 ≤ R / 4096 := by omega
  have e : R / 4096 * 4096 ≤ R := Nat.div_mul_le_self _ _
  refine ⟨?_, ?_⟩
  · exact Nat.le_trans hd (Nat.le_mul_of_pos_right _ h1)
  · have : R / 4096 * cut p ≤ R / 4096 * 4095 := Nat.mul_le_mul_left _ h2
    unfold bel; omega
theorem bitS_ok (p : Int) (b : Bool) (st : Nat × Nat × Nat) (h : Iv st) : Iv (bitS p b st) ∧ Sub st (bitS p b st) := by
  obtain ⟨k, L, R⟩ := st
  obtain ⟨h1, h2, h3⟩ := h
  simp only at h1 h2 h3
  obtain ⟨b1, b2⟩ := bel_lt p R h1
  cases b
  · simp only [bitS, Bool.false_eq_true, if_false]
    exact ⟨iv_nar _ _ _ (by omega) (by omega) (by omega), sub_trans (sub_part k L R (bel p R) (R - bel p R) (by omega)) (sub_nar _ _ _)⟩
  · simp only [bitS, if_true]
    exact ⟨iv_nar _ _ _ (by omega) (by omega) (by omega), sub_trans (sub_part k L R 0 (bel p R) (by omega)) (sub_nar _ _ _)⟩
theorem dirS_ok (b : Bool) (st : Nat × Nat × Nat) (h : Iv st) : Iv (dirS b st) ∧ Sub st (dirS b st) := by
  obtain ⟨k, L, R⟩ := st
  obtain ⟨h1, h2, h3⟩ := h
  simp only at h1 h2 h3
  cases b
  · simp only [dirS, Bool.false_eq_true, if_false]
    exact ⟨iv_nar _ _ _ (by omega) (by omega) (by omega), sub_trans (sub_part k L R 0 (R / 2) (by omega)) (sub_nar _ _ _)⟩
  · simp only [dirS, if_true]
    exact ⟨iv_nar _ _ _ (by omega) (by omega) (by omega), sub_trans (sub_part k L R (R / 2) (R / 2) (by omega)) (sub_nar _ _ _)⟩
theorem dirN_ok (v : Nat) : ∀ (n : Nat) (st : Nat × Nat × Nat), Iv st → Iv (dirN v n st) ∧ Sub st (dirN v n st)
  | 0, st, h => ⟨h, sub_refl _⟩
  | n + 1, st, h => by
    obtain ⟨a, b⟩ := dirS_ok (v.testBit n) st h
    obtain ⟨c, d⟩ := dirN_ok v n _ a
    exact ⟨c, sub_trans b d⟩

/-- The bytes of an encoder that has come to this. -/
def byt (st : Nat × Nat × Nat) : List UInt8 := be (5 + st.1) st.2.1
theorem byt_len (st : Nat × Nat × Nat) : (byt st).length = 5 + st.1 := be_len _ _

/-- A decoder: what its coder has come to, and whether it has told an error. -/
def ah (s : List UInt8) (st : Nat × Nat × Nat) : Nat × Nat :=
  if s.length < 5 + st.1 then (2, 0)
  else if num (s.take (5 + st.1)) < st.2.1 ∨ st.2.1 + st.2.2 ≤ num (s.take (5 + st.1)) then (3, 0)
  else (0, num (s.take (5 + st.1)) - st.2.1)
/-- An error, how far above low, whether from now on there is nothing. -/
def ovr (s : List UInt8) (st : Nat × Nat × Nat) (bad : Bool) : Nat × Nat × Bool :=
  if bad then (3, 0, true) else if (ah s st).1 = 0 then (0, (ah s st).2, false) else ((ah s st).1, 0, true)
/-- A bit, an error, what it comes to. -/
def gBit (s : List UInt8) (p : Int) (st : Nat × Nat × Nat) (bad : Bool) : Nat × Nat × (Nat × Nat × Nat) × Bool :=
  if (ovr s st bad).1 = 0 then (if (ovr s st bad).2.1 < bel p st.2.2 then 1 else 0, 0, bitS p (decide ((ovr s st bad).2.1 < bel p st.2.2)) st, false)
  else (0, (ovr s st bad).1, st, true)
def gDir (s : List UInt8) : Nat → Nat → (Nat × Nat × Nat) → Bool → Nat × Nat × (Nat × Nat × Nat) × Bool
  | 0, acc, st, bad => (acc, 0, st, bad)
  | n + 1, acc, st, bad =>
    if (ovr s st bad).1 = 0 then gDir s n (acc * 2 + if st.2.2 / 2 ≤ (ovr s st bad).2.1 then 1 else 0) (dirS (decide (st.2.2 / 2 ≤ (ovr s st bad).2.1)) st) false
    else (0, (ovr s st bad).1, st, true)
def gEnd (s : List UInt8) (st : Nat × Nat × Nat) (bad : Bool) : Nat × Bool :=
  if (ovr s st bad).1 = 0 then (if 0 < (ovr s st bad).2.1 ∨ 5 + st.1 < s.length then (3, true) else (0, false)) else ((ovr s st bad).1, true)
/-- What a decoder that holds four bytes alone leans on. -/
def Jv (s : List UInt8) (st : Nat × Nat × Nat) (bad : Bool) : Prop :=
  bad = true ∨ (5 + st.1 ≤ s.length → s[0]? ≠ some 0 ∨ (st.2.1 ≤ num (s.take (5 + st.1)) ∧ num (s.take (5 + st.1)) - st.2.1 < 4294967296))
end Go.Proofs.Ytbmjehpkcelogaa
