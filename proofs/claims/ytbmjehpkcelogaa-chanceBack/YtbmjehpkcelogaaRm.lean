/-
  A decoder of the reference, as plain mathematics: low taken from the first bytes, byte by byte.
-/
import Derived.Test.YtbmjehpkcelogaaLw
namespace Go.Proofs.Ytbmjehpkcelogaa
open Go.ChangeShapes Go.WideShapes Go.ChangeAt Go.RowKit
open Go.ChangeMaps (open_string shut_string)

/-- A byte of a number's bytes, counted from the last one. -/
theorem be_at : ∀ (n X i : Nat), i < n → (be n X)[n - 1 - i]? = some (UInt8.ofNat (X / 256 ^ i))
  | 0, _, _, h => absurd h (by omega)
  | n + 1, X, 0, _ => by
    rw [be, List.getElem?_append_right (by rw [be_len]; omega), be_len]
    simp
  | n + 1, X, i + 1, h => by
    rw [be, List.getElem?_append_left (by rw [be_len]; omega), show n + 1 - 1 - (i + 1) = n - 1 - i from by omega, be_at n (X / 256) i (by omega), Nat.div_div_eq_div_mul, Nat.pow_succ, Nat.mul_comm]
theorem num_at (t : List UInt8) (n i : Nat) (hl : t.length = n) (h : i < n) : t[n - 1 - i]? = some (UInt8.ofNat (num t / 256 ^ i)) := by
  have e := be_at n (num t) i h
  rwa [be_num n t hl] at e
/-- Where a subtraction, byte by byte, stands behind i bytes: what is left, what is owed. -/
def Sb (V L i o D : Nat) : Prop := o ≤ 1 ∧ D < 256 ^ i ∧ D + L % 256 ^ i = V % 256 ^ i + o * 256 ^ i
theorem sb_start (V L : Nat) : Sb V L 0 0 0 := by refine ⟨by omega, by simp, ?_⟩; simp [Nat.mod_one]
theorem sb_step (V L i o D : Nat) (h : Sb V L i o D) (v o' : Nat) (hv : v + L / 256 ^ i % 256 + o = V / 256 ^ i % 256 + 256 * o') (ho : o' ≤ 1) (hv2 : v < 256) : Sb V L (i + 1) o' (D + v * 256 ^ i) := by
  obtain ⟨h1, h2, h3⟩ := h
  have e : (256 : Nat) ^ (i + 1) = 256 ^ i * 256 := Nat.pow_succ _ _
  refine ⟨ho, ?_, ?_⟩
  · have : v * 256 ^ i ≤ 255 * 256 ^ i := Nat.mul_le_mul_right _ (by omega)
    omega
  · rw [e, Nat.mod_mul, Nat.mod_mul]
    have k : (v + L / 256 ^ i % 256 + o) * 256 ^ i = (V / 256 ^ i % 256 + 256 * o') * 256 ^ i := by rw [hv]
    simp only [Nat.add_mul] at k
    rw [Nat.mul_comm (256 ^ i) (L / 256 ^ i % 256), Nat.mul_comm (256 ^ i) (V / 256 ^ i % 256)]
    have k2 : o' * (256 ^ i * 256) = 256 * o' * 256 ^ i := by rw [Nat.mul_comm (256 ^ i) 256, ← Nat.mul_assoc, Nat.mul_comm o' 256]
    omega
/-- The step's byte, and what is owed, as the words say. -/
theorem sb_low (V L i o D : Nat) (h : Sb V L i o D) (hi : i < 7) : D + 0 < 72057594037927936 := by
  have : 256 ^ i ≤ 256 ^ 6 := Nat.pow_le_pow_right (by decide) (by omega)
  have e : (256 : Nat) ^ 6 = 281474976710656 := rfl
  have := h.2.1
  omega
theorem or_bytes (D v i : Nat) (hD : D < 256 ^ i) : D ||| v * 256 ^ i = D + v * 256 ^ i := by
  have e : (256 : Nat) ^ i = 2 ^ (8 * i) := by rw [show (256 : Nat) = 2 ^ 8 from rfl, ← Nat.pow_mul]
  rw [e] at hD ⊢
  exact or_hi D v (8 * i) hD
theorem lo_keep (D v i : Nat) (hi : 7 ≤ i) : (D + v * 256 ^ i) % 72057594037927936 = D % 72057594037927936 := by
  obtain ⟨j, rfl⟩ : ∃ j, i = 7 + j := ⟨i - 7, by omega⟩
  rw [Nat.pow_add, show (256 : Nat) ^ 7 = 72057594037927936 from rfl, show v * (72057594037927936 * 256 ^ j) = 72057594037927936 * (v * 256 ^ j) from by rw [← Nat.mul_assoc, Nat.mul_comm v, Nat.mul_assoc], Nat.add_mul_mod_self_left]
theorem hi_keep (D v i : Nat) (hi : 7 ≤ i) : (72057594037927936 ≤ D + v * 256 ^ i) ↔ (72057594037927936 ≤ D ∨ 0 < v) := by
  obtain ⟨j, rfl⟩ : ∃ j, i = 7 + j := ⟨i - 7, by omega⟩
  have hp : 0 < 256 ^ j := Nat.pow_pos (by decide)
  rw [Nat.pow_add, show (256 : Nat) ^ 7 = 72057594037927936 from rfl]
  rcases Nat.eq_zero_or_pos v with h | h
  · subst h; simp
  · have : 1 * (72057594037927936 * 1) ≤ v * (72057594037927936 * 256 ^ j) := Nat.mul_le_mul h (Nat.mul_le_mul_left _ hp)
    constructor
    · intro _; exact .inr h
    · intro _; omega
/-- What the end of the subtraction says. -/
theorem sb_end (s : List UInt8) (st : Nat × Nat × Nat) (o D : Nat) (hi : Iv st) (hl : 5 + st.1 ≤ s.length) (h : Sb (num (s.take (5 + st.1))) st.2.1 (5 + st.1) o D) :
    ((0 < o ∨ 72057594037927936 ≤ D ∨ st.2.2 ≤ D % 72057594037927936) → ah s st = (3, 0)) ∧ (¬ 0 < o → ¬ 72057594037927936 ≤ D → ¬ st.2.2 ≤ D % 72057594037927936 → ah s st = (0, D % 72057594037927936)) := by
  obtain ⟨k, L, R⟩ := st
  have hL := iv_low hi
  obtain ⟨i1, i2, i3⟩ := hi
  obtain ⟨h1, h2, h3⟩ := h
  simp only at h1 h2 h3 hl hL i1 i2 i3 ⊢
  have hV := num_lt (5 + k) (s.take (5 + k)) (by simp; omega)
  have hL2 : L < 256 ^ (5 + k) := Nat.lt_of_lt_of_le hL (Nat.pow_le_pow_right (by decide) (by omega))
  rw [Nat.mod_eq_of_lt hV, Nat.mod_eq_of_lt hL2] at h3
  unfold ah
  simp only
  rw [if_neg (by omega)]
  generalize num (s.take (5 + k)) = V at *
  generalize 256 ^ (5 + k) = P at *
  have ho : o = 0 ∨ o = 1 := by omega
  rcases ho with rfl | rfl
  · rw [Nat.zero_mul, Nat.add_zero] at h3
    constructor
    · intro hc
      rw [if_pos (by omega)]
    · intro a b c
      rw [if_neg (by omega)]
      congr 1; omega
  · rw [Nat.one_mul] at h3
    constructor
    · intro hc
      rw [if_pos (by omega)]
    · intro a; omega
end Go.Proofs.Ytbmjehpkcelogaa
