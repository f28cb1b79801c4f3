/-
  A decoder, as plain mathematics: what it leans on stays; of the bytes that an encoder told it tells what was put; and bytes that end it so are those of the encoder.
-/
import Derived.Test.YtbmjehpkcelogaaMx
namespace Go.Proofs.Ytbmjehpkcelogaa
open Go.ChangeShapes Go.WideShapes Go.ChangeAt Go.RowKit

theorem jv0 (s : List UInt8) : Jv s st0 false := by
  refine .inr fun h => ?_
  by_cases h0 : s[0]? = some 0
  · refine .inr ⟨Nat.zero_le _, ?_⟩
    have e1 := num_take_succ s 0 (by simp only [st0] at h; omega)
    have e := num_take_div s 1 4 (by simp only [st0] at h; omega)
    have hs0 : s[0]'(by simp only [st0] at h; omega) = 0 := by
      rw [List.getElem?_eq_getElem (by simp only [st0] at h; omega)] at h0; simpa using h0
    rw [hs0, show num (s.take 0) = 0 from by simp [num], Nat.zero_mul, Nat.zero_add] at e1
    rw [Nat.zero_add] at e1
    rw [e1] at e
    simp only [st0]
    have e2 : num (s.take (1 + 4)) / 256 ^ 4 = 0 := e
    have := (Nat.div_eq_zero_iff_lt (Nat.pow_pos (by decide))).1 e2
    omega
  · exact .inl h0
theorem ah_cases (s : List UInt8) (st : Nat × Nat × Nat) : (ah s st).1 = 0 ∨ (ah s st).1 = 2 ∨ (ah s st).1 = 3 := by
  unfold ah; split
  · simp
  · split <;> simp
theorem ah_ok (s : List UInt8) (st : Nat × Nat × Nat) (h : (ah s st).1 = 0) :
    5 + st.1 ≤ s.length ∧ st.2.1 ≤ num (s.take (5 + st.1)) ∧ num (s.take (5 + st.1)) < st.2.1 + st.2.2 ∧ (ah s st).2 = num (s.take (5 + st.1)) - st.2.1 := by
  unfold ah at h ⊢
  by_cases h1 : s.length < 5 + st.1
  · rw [if_pos h1] at h; simp at h
  rw [if_neg h1] at h ⊢
  by_cases h2 : num (s.take (5 + st.1)) < st.2.1 ∨ st.2.1 + st.2.2 ≤ num (s.take (5 + st.1))
  · rw [if_pos h2] at h; simp at h
  rw [if_neg h2]
  refine ⟨by omega, by omega, by omega, rfl⟩
theorem ah_no (s : List UInt8) (st : Nat × Nat × Nat) (h : (ah s st).1 ≠ 0) : (ah s st).2 = 0 := by
  unfold ah at h ⊢
  split
  · rfl
  · split
    · rfl
    · rename_i a b; rw [if_neg a, if_neg b] at h; simp at h
/-- Behind a step that lies, or may lie at its end, within: what it leans on stays. -/
theorem jv_nar (s : List UInt8) (k L f S V : Nat) (hV : V = num (s.take (5 + k))) (_hk : 5 + k ≤ s.length) (hf : L + f ≤ V) (hS : V < L + f + S ∨ (V ≤ L + f + S ∧ 65536 ≤ S)) (h1 : 256 ≤ S) (h2 : S < 4294967296) :
    Jv s (nar k (L + f) S) false := by
  subst hV
  obtain ⟨_, b⟩ := gr_big S h1 h2
  have hg := gr_le S
  refine .inr fun hl => .inr ?_
  simp only [nar] at hl ⊢
  have e := num_take_div s (5 + k) (gr S) (by omega)
  rw [show 5 + (k + gr S) = 5 + k + gr S from by omega]
  have hp : 0 < 256 ^ gr S := Nat.pow_pos (by decide)
  have e1 := Nat.div_add_mod (num (s.take (5 + k + gr S))) (256 ^ gr S)
  have e2 := Nat.mod_lt (num (s.take (5 + k + gr S))) hp
  rw [e] at e1
  generalize num (s.take (5 + k + gr S)) = W at *
  generalize num (s.take (5 + k)) = V at *
  generalize L + f = M at *
  clear e
  obtain ⟨d, hd⟩ : ∃ d, V = M + d := ⟨V - M, by omega⟩
  subst hd
  have hm : W = M * 256 ^ gr S + (d * 256 ^ gr S + W % 256 ^ gr S) := by rw [Nat.mul_comm, Nat.add_mul] at e1; omega
  refine ⟨by rw [hm]; exact Nat.le_add_right _ _, ?_⟩
  rw [hm, Nat.add_sub_cancel_left]
  rcases hS with hS | ⟨hS, h3⟩
  · have : (d + 1) * 256 ^ gr S ≤ S * 256 ^ gr S := Nat.mul_le_mul_right _ (by omega)
    rw [Nat.add_mul, Nat.one_mul] at this
    omega
  · have h4 : d ≤ S := by omega
    have h5 : gr S ≤ 1 := by unfold gr; split <;> (try split) <;> omega
    have h6 : d * 256 ^ gr S ≤ S * 256 ^ gr S := Nat.mul_le_mul_right _ h4
    rcases (by omega : gr S = 0 ∨ gr S = 1) with h | h
    · rw [h] at e2 h6 ⊢; simp at e2 h6 ⊢; omega
    · have h7 : S < 16777216 := by unfold gr at h; split at h <;> (try split at h) <;> omega
      rw [h] at e2 h6 ⊢; simp at e2 h6 ⊢; omega
theorem below_top (k V L R : Nat) (h : L + R ≤ 4294967295 * 256 ^ k) (hV : V < L + R) : V < 256 ^ (4 + k) := by
  rw [Nat.pow_add]; have : 0 < 256 ^ k := Nat.pow_pos (by decide)
  simp only [Nat.reducePow]; omega
theorem jv_bit (s : List UInt8) (p : Int) (st : Nat × Nat × Nat) (h : Iv st) (ho : (ah s st).1 = 0) :
    Jv s (bitS p (decide ((ah s st).2 < bel p st.2.2)) st) false := by
  obtain ⟨a1, a2, a3, a4⟩ := ah_ok s st ho
  rw [a4]
  obtain ⟨k, L, R⟩ := st
  obtain ⟨i1, i2, i3⟩ := h
  simp only at a1 a2 a3 i1 i2 i3 ⊢
  obtain ⟨b1, b2⟩ := bel_lt p R i1
  by_cases hd : num (s.take (5 + k)) - L < bel p R
  · rw [decide_eq_true hd]
    simp only [bitS, if_true]
    exact jv_nar s k L 0 (bel p R) _ rfl a1 (by omega) (.inl (by omega)) (by omega) (by omega)
  · rw [decide_eq_false hd]
    simp only [bitS, Bool.false_eq_true, if_false]
    exact jv_nar s k L (bel p R) (R - bel p R) _ rfl a1 (by omega) (.inl (by omega)) (by omega) (by omega)
theorem jv_dir (s : List UInt8) (st : Nat × Nat × Nat) (h : Iv st) (ho : (ah s st).1 = 0) :
    Jv s (dirS (decide (st.2.2 / 2 ≤ (ah s st).2)) st) false := by
  obtain ⟨a1, a2, a3, a4⟩ := ah_ok s st ho
  rw [a4]
  obtain ⟨k, L, R⟩ := st
  obtain ⟨i1, i2, i3⟩ := h
  simp only at a1 a2 a3 i1 i2 i3 ⊢
  by_cases hd : R / 2 ≤ num (s.take (5 + k)) - L
  · rw [decide_eq_true hd]
    simp only [dirS, if_true]
    exact jv_nar s k L (R / 2) (R / 2) _ rfl a1 (by omega) (.inr (by omega)) (by omega) (by omega)
  · rw [decide_eq_false hd]
    simp only [dirS, Bool.false_eq_true, if_false]
    exact jv_nar s k L 0 (R / 2) _ rfl a1 (by omega) (.inl (by omega)) (by omega) (by omega)
theorem jv_bad (s : List UInt8) (st : Nat × Nat × Nat) : Jv s st true := .inl rfl

/-- What the last four bytes tell is enough. -/
theorem ah_prog (s : List UInt8) (st : Nat × Nat × Nat) (h : Iv st) (hj : Jv s st false) (hl : 5 + st.1 ≤ s.length) (o : Nat)
    (ho : o = (num ((s.drop (st.1 + 1)).take 4) + 4294967296 - st.2.1 % 4294967296) % 4294967296) :
    ((s[0]? ≠ some 0 ∨ st.2.2 ≤ o) → ah s st = (3, 0)) ∧ (s[0]? = some 0 → o < st.2.2 → ah s st = (0, o)) := by
  obtain ⟨k, L, R⟩ := st
  obtain ⟨i1, i2, i3⟩ := h
  simp only at hl ho i1 i2 i3 ⊢
  rw [num_last s (k + 1) (by omega), show k + 1 + 4 = 5 + k from by omega] at ho
  have hJ := hj.resolve_left (by simp)
  have hJ := hJ hl
  simp only at hJ
  unfold ah
  simp only
  rw [if_neg (by omega)]
  by_cases h0 : s[0]? = some 0
  · rcases hJ with h | ⟨j1, j2⟩
    · exact absurd h0 h
    · have e : o = num (s.take (5 + k)) - L := by omega
      constructor
      · rintro (h | h)
        · exact absurd h0 h
        · rw [if_pos (by omega)]
      · intro _ h
        rw [if_neg (by omega), e]
  · constructor
    · intro _
      have := num_first s (4 + k) (by omega) h0
      rw [show 4 + k + 1 = 5 + k from by omega] at this
      have hc : L + R ≤ num (s.take (5 + k)) := by
        by_cases hc : L + R ≤ num (s.take (5 + k))
        · exact hc
        · have := below_top k (num (s.take (5 + k))) L R i3 (by omega)
          omega
      rw [if_pos (.inr hc)]
    · intro h; exact absurd h h0

/-- The first bytes of s are those of what an encoder has come to. -/
def Fin (s : List UInt8) (f : Nat × Nat × Nat) : Prop := 5 + f.1 ≤ s.length ∧ num (s.take (5 + f.1)) = f.2.1 ∧ 0 < f.2.2
theorem fin_byt (f : Nat × Nat × Nat) (h : Iv f) : Fin (byt f) f := by
  obtain ⟨k, L, R⟩ := f
  obtain ⟨i1, i2, i3⟩ := h
  simp only at i1 i2 i3
  refine ⟨by rw [byt_len]; exact Nat.le_refl _, ?_, by simp only; omega⟩
  rw [List.take_of_length_le (by rw [byt_len]; exact Nat.le_refl _), byt, num_be]
  refine Nat.mod_eq_of_lt ?_
  rw [Nat.pow_add]; have : 0 < 256 ^ k := Nat.pow_pos (by decide)
  simp only [Nat.reducePow]; omega
theorem fin_at (s : List UInt8) (a f : Nat × Nat × Nat) (hf : Fin s f) (h : Sub a f) : 5 + a.1 ≤ s.length ∧ a.2.1 ≤ num (s.take (5 + a.1)) ∧ num (s.take (5 + a.1)) < a.2.1 + a.2.2 := by
  obtain ⟨f1, f2, f3⟩ := hf
  obtain ⟨h1, h2, h3⟩ := h
  have e := num_take_div s (5 + a.1) (f.1 - a.1) (by omega)
  rw [show 5 + a.1 + (f.1 - a.1) = 5 + f.1 from by omega, f2] at e
  have hp : 0 < 256 ^ (f.1 - a.1) := Nat.pow_pos (by decide)
  refine ⟨by omega, ?_, ?_⟩
  · rw [← e]; exact (Nat.le_div_iff_mul_le hp).2 h2
  · rw [← e]; exact (Nat.div_lt_iff_lt_mul hp).2 (by omega)
theorem ah_at (s : List UInt8) (a f : Nat × Nat × Nat) (hf : Fin s f) (h : Sub a f) : ah s a = (0, num (s.take (5 + a.1)) - a.2.1) := by
  obtain ⟨h1, h2, h3⟩ := fin_at s a f hf h
  unfold ah
  rw [if_neg (by omega), if_neg (by omega)]
theorem ovr_at (s : List UInt8) (a f : Nat × Nat × Nat) (hf : Fin s f) (h : Sub a f) : ovr s a false = (0, num (s.take (5 + a.1)) - a.2.1, false) := by
  unfold ovr; rw [ah_at s a f hf h]; simp
theorem tell_bit (s : List UInt8) (p : Int) (b : Bool) (st f : Nat × Nat × Nat) (hi : Iv st) (hf : Fin s f) (h : Sub (bitS p b st) f) :
    gBit s p st false = (if b then 1 else 0, 0, bitS p b st, false) := by
  have ho := ovr_at s st f hf (sub_trans (bitS_ok p b st hi).2 h)
  obtain ⟨k, L, R⟩ := st
  obtain ⟨i1, i2, i3⟩ := hi
  simp only at i1 i2 i3
  obtain ⟨b1, b2⟩ := bel_lt p R i1
  have hd : decide (num (s.take (5 + k)) - L < bel p R) = b := by
    cases b
    · simp only [bitS, Bool.false_eq_true, if_false] at h
      obtain ⟨h1, h2, h3⟩ := fin_at s _ f hf (sub_trans (sub_nar _ _ _) h)
      simp only at h1 h2 h3
      exact decide_eq_false (by omega)
    · simp only [bitS, if_true] at h
      obtain ⟨h1, h2, h3⟩ := fin_at s _ f hf (sub_trans (sub_nar _ _ _) h)
      simp only at h1 h2 h3
      exact decide_eq_true (by omega)
  unfold gBit
  rw [ho]
  simp only [if_true, hd]
  cases b
  · rw [if_neg (of_decide_eq_false hd)]; simp
  · rw [if_pos (of_decide_eq_true hd)]; simp
theorem tell_dir1 (s : List UInt8) (b : Bool) (st f : Nat × Nat × Nat) (hi : Iv st) (hf : Fin s f) (h : Sub (dirS b st) f) :
    decide (st.2.2 / 2 ≤ num (s.take (5 + st.1)) - st.2.1) = b := by
  obtain ⟨k, L, R⟩ := st
  obtain ⟨i1, i2, i3⟩ := hi
  simp only at i1 i2 i3
  cases b
  · simp only [dirS, Bool.false_eq_true, if_false] at h
    obtain ⟨h1, h2, h3⟩ := fin_at s _ f hf (sub_trans (sub_nar _ _ _) h)
    simp only at h1 h2 h3
    exact decide_eq_false (by simp only; omega)
  · simp only [dirS, if_true] at h
    obtain ⟨h1, h2, h3⟩ := fin_at s _ f hf (sub_trans (sub_nar _ _ _) h)
    simp only at h1 h2 h3
    exact decide_eq_true (by simp only; omega)
theorem bit_mod (v n : Nat) : v % 2 ^ (n + 1) = (if v.testBit n then 1 else 0) * 2 ^ n + v % 2 ^ n := by
  rw [Nat.mod_pow_succ, Nat.testBit_eq_decide_div_mod_eq, Nat.mul_comm (2 ^ n)]
  have := Nat.mod_lt (v / 2 ^ n) (show 0 < 2 by decide)
  rcases (by omega : v / 2 ^ n % 2 = 0 ∨ v / 2 ^ n % 2 = 1) with h | h <;> simp [h] <;> omega
theorem tell_dir (s : List UInt8) (v : Nat) (f : Nat × Nat × Nat) (hf : Fin s f) : ∀ (n acc : Nat) (st : Nat × Nat × Nat), Iv st → Sub (dirN v n st) f →
    gDir s n acc st false = (acc * 2 ^ n + v % 2 ^ n, 0, dirN v n st, false)
  | 0, acc, st, _, _ => by simp [gDir, dirN, Nat.mod_one]
  | n + 1, acc, st, hi, h => by
    obtain ⟨i1, i2⟩ := dirS_ok (v.testBit n) st hi
    have hn := dirN_ok v n _ i1
    have ho := ovr_at s st f hf (sub_trans i2 (sub_trans hn.2 h))
    have hd := tell_dir1 s (v.testBit n) st f hi hf (sub_trans hn.2 h)
    have ih := tell_dir s v f hf n (acc * 2 + if v.testBit n then 1 else 0) _ i1 h
    have hb : (if st.2.2 / 2 ≤ num (s.take (5 + st.1)) - st.2.1 then 1 else 0) = (if v.testBit n then 1 else 0 : Nat) := by
      cases hv : v.testBit n
      · rw [hv] at hd; rw [if_neg (of_decide_eq_false hd)]; simp
      · rw [hv] at hd; rw [if_pos (of_decide_eq_true hd)]; simp
    rw [gDir, ho]
    simp only [if_true, hd, hb]
    rw [ih, bit_mod v n, Nat.pow_succ, dirN]
    congr 1
    rw [Nat.add_mul, Nat.mul_assoc, Nat.mul_comm 2 (2 ^ n)]; omega
/-- What was told without an error was put. -/
theorem said_bit (s : List UInt8) (p : Int) (st : Nat × Nat × Nat) (bad : Bool) (h : (gBit s p st bad).2.1 = 0) :
    ∃ b : Bool, gBit s p st bad = (if b then 1 else 0, 0, bitS p b st, false) := by
  unfold gBit at h ⊢
  by_cases h0 : (ovr s st bad).1 = 0
  · rw [if_pos h0]
    refine ⟨decide ((ovr s st bad).2.1 < bel p st.2.2), ?_⟩
    by_cases h1 : (ovr s st bad).2.1 < bel p st.2.2
    · simp [h1]
    · simp [h1]
  · rw [if_neg h0] at h; exact absurd h h0
theorem dirN_mod (v w : Nat) : ∀ (n : Nat) (st : Nat × Nat × Nat), v % 2 ^ n = w % 2 ^ n → dirN v n st = dirN w n st
  | 0, _, _ => rfl
  | n + 1, st, h => by
    have hb : v.testBit n = w.testBit n := by
      have a := Nat.testBit_mod_two_pow v (n + 1) n
      have b := Nat.testBit_mod_two_pow w (n + 1) n
      rw [h] at a
      simpa using a.symm.trans b
    have hm : v % 2 ^ n = w % 2 ^ n := by
      have a := Nat.mod_mod_of_dvd v (Nat.pow_dvd_pow 2 (Nat.le_succ n))
      have b := Nat.mod_mod_of_dvd w (Nat.pow_dvd_pow 2 (Nat.le_succ n))
      rw [← a, ← b, h]
    rw [dirN, dirN, hb]; exact dirN_mod v w n _ hm
theorem said_dir (s : List UInt8) : ∀ (n acc : Nat) (st : Nat × Nat × Nat) (bad : Bool), (gDir s n acc st bad).2.1 = 0 →
    ∃ v, v < 2 ^ n ∧ (gDir s n acc st bad).1 = acc * 2 ^ n + v ∧ (gDir s n acc st bad).2.2.1 = dirN v n st ∧ ((gDir s n acc st bad).2.2.2 = bad ∨ (gDir s n acc st bad).2.2.2 = false)
  | 0, acc, st, bad, _ => ⟨0, by simp, by simp [gDir], rfl, .inl rfl⟩
  | n + 1, acc, st, bad, h => by
    rw [gDir] at h ⊢
    by_cases h0 : (ovr s st bad).1 = 0
    · rw [if_pos h0] at h ⊢
      obtain ⟨v, h1, h2, h3, h4⟩ := said_dir s n _ _ _ h
      generalize hb : decide (st.2.2 / 2 ≤ (ovr s st bad).2.1) = b at *
      have hb' : (if st.2.2 / 2 ≤ (ovr s st bad).2.1 then 1 else 0) = (if b then 1 else 0 : Nat) := by
        cases b
        · rw [if_neg (of_decide_eq_false hb)]; simp
        · rw [if_pos (of_decide_eq_true hb)]; simp
      rw [hb'] at h2 h3 h4 ⊢
      have ht : ((if b then 1 else 0) * 2 ^ n + v).testBit n = b := by
        cases b
        · simpa using Nat.testBit_lt_two_pow h1
        · simp only [if_true, Nat.one_mul, Nat.testBit_two_pow_add_eq]
          simpa using Nat.testBit_lt_two_pow h1
      refine ⟨(if b then 1 else 0) * 2 ^ n + v, ?_, ?_, ?_, .inr (by rcases h4 with h | h <;> exact h)⟩
      · rw [Nat.pow_succ]; cases b <;> simp <;> omega
      · rw [h2, Nat.pow_succ, Nat.add_mul, Nat.mul_assoc, Nat.mul_comm 2 (2 ^ n)]; omega
      · rw [h3, dirN, ht]
        refine dirN_mod _ _ n _ ?_
        rw [Nat.add_comm, Nat.add_mul_mod_self_right]
    · rw [if_neg h0] at h; exact absurd h h0
theorem ovr_bad (s : List UInt8) (st : Nat × Nat × Nat) (bad : Bool) (h : (ovr s st bad).1 = 0) : bad = false ∧ (ah s st).1 = 0 ∧ (ovr s st bad).2.1 = (ah s st).2 := by
  unfold ovr at h ⊢
  cases bad
  · simp only [Bool.false_eq_true, if_false] at h ⊢
    by_cases h0 : (ah s st).1 = 0
    · rw [if_pos h0]; exact ⟨trivial, h0, rfl⟩
    · rw [if_neg h0] at h; exact absurd h h0
  · simp at h
/-- The end: all bytes, and no others, are those of what the decoder has come to. -/
theorem end_yes (s : List UInt8) (st : Nat × Nat × Nat) (bad : Bool) (h : (gEnd s st bad).1 = 0) : bad = false ∧ s = byt st := by
  unfold gEnd at h
  by_cases h0 : (ovr s st bad).1 = 0
  · obtain ⟨hb, h1, h2⟩ := ovr_bad s st bad h0
    rw [if_pos h0] at h
    obtain ⟨a1, a2, a3, a4⟩ := ah_ok s st h1
    by_cases h3 : 0 < (ovr s st bad).2.1 ∨ 5 + st.1 < s.length
    · rw [if_pos h3] at h; simp at h
    · refine ⟨hb, ?_⟩
      have hl : s.length = 5 + st.1 := by omega
      have ht : s.take (5 + st.1) = s := List.take_of_length_le (by omega)
      rw [ht] at a2 a4
      unfold byt
      rw [show st.2.1 = num s from by omega]
      exact (be_num _ s hl).symm
  · rw [if_neg h0] at h; exact absurd h h0
theorem end_byt (st : Nat × Nat × Nat) (h : Iv st) : gEnd (byt st) st false = (0, false) := by
  have ho := ovr_at (byt st) st st (fin_byt st h) (sub_refl st)
  have hf := (fin_byt st h).2.1
  unfold gEnd
  rw [ho]
  simp only [if_true, hf, Nat.sub_self, byt_len]
  rw [if_neg (by omega)]
end Go.Proofs.Ytbmjehpkcelogaa
