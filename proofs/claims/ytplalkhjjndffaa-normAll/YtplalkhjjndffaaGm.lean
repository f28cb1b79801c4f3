/-
  What Get says, number by number, in the order of its tests; ints that say numbers; each condition stands at its theorem.
-/
import Derived.Test.YtplalkhjjndffaaMa
import Derived.Test.YtplalkhjjndffaaNc
import Derived.Test.YtplalkhjjndffaaSh
namespace Go.Proofs.Ytplalkhjjndffaa
open Go.ChangeShapes Go.WideShapes Go.ChangeAt Go.RowKit
open Go.ChangeMaps (open_string shut_string)

/-- A number as an int: the greatest ones come out below nought. -/
def wc (n : Nat) : Int := if n < 9223372036854775808 then (n : Int) else (n : Int) - 18446744073709551616
theorem wc_wrap (n : Nat) (h : n < 18446744073709551616) : IntKind.i64.wrap (n : Int) = wc n := by
  rw [IntKind.wrap_i64]; unfold wc; split <;> omega
theorem wc_zero (m : Nat) : (List.replicate m 0).map wc = List.replicate m 0 := by rw [List.map_replicate]; rfl
/-- One number, or a row of noughts, of which so many are left: the error, the numbers, how many bytes. -/
def someF (t : List UInt8) (left : Nat) : Nat × List Nat × Nat :=
  if (numb t).2.2 ≠ 0 then ((numb t).2.2, [], 0)
  else if 0 < (numb t).1 then (0, [(numb t).1], (numb t).2.1)
  else if (numb (t.drop (numb t).2.1)).2.2 ≠ 0 then ((numb (t.drop (numb t).2.1)).2.2, [], 0)
  else if left ≤ (numb (t.drop (numb t).2.1)).1 then (3, [], 0)
  else (0, List.replicate ((numb (t.drop (numb t).2.1)).1 + 1) 0, (numb t).2.1 + (numb (t.drop (numb t).2.1)).2.1)
theorem decB_some (f : Nat) (acc : List Nat) (t : List UInt8) (h : acc.length < 65) :
    decB (f + 1) acc t = if (someF t (65 - acc.length)).1 ≠ 0 then ((someF t (65 - acc.length)).1, [], []) else decB f (acc ++ (someF t (65 - acc.length)).2.1) (t.drop (someF t (65 - acc.length)).2.2) := by
  simp only [decB, someF]
  rw [if_neg (by omega)]
  by_cases h1 : (numb t).2.2 ≠ 0
  · simp only [if_pos h1]
  · simp only [if_neg h1]
    by_cases h2 : 0 < (numb t).1
    · simp only [if_pos h2, ne_eq, not_true_eq_false, if_false]
    · simp only [if_neg h2]
      by_cases h3 : (numb (t.drop (numb t).2.1)).2.2 ≠ 0
      · simp only [if_pos h3]
      · simp only [if_neg h3]
        by_cases h4 : 65 ≤ acc.length + (numb (t.drop (numb t).2.1)).1
        · have h4' : 65 - acc.length ≤ (numb (t.drop (numb t).2.1)).1 := by omega
          simp only [if_pos h4, if_pos h4']; rw [if_pos (by decide)]
        · have h4' : ¬ 65 - acc.length ≤ (numb (t.drop (numb t).2.1)).1 := by omega
          simp only [if_neg h4, if_neg h4', ne_eq, not_true_eq_false, if_false, List.drop_drop]
theorem someF_len (t : List UInt8) (left : Nat) (h : (someF t left).1 = 0) (hl : 0 < left) : 0 < (someF t left).2.1.length ∧ (someF t left).2.1.length ≤ left := by
  unfold someF at h ⊢
  split
  · rename_i h1; rw [if_pos h1] at h; exact absurd h h1
  · rename_i h1; rw [if_neg h1] at h
    split
    · simp; omega
    · rename_i h2; rw [if_neg h2] at h
      split
      · rename_i h3; rw [if_pos h3] at h; exact absurd h h3
      · rename_i h3; rw [if_neg h3] at h
        split
        · rename_i h4; rw [if_pos h4] at h; simp at h
        · simp; omega
/-- Ints that say small numbers, and nothing else of the rest. -/
def Conv (c : Nat → Int) (l : List Nat) : Prop := ∀ n ∈ l, (n ≤ 4096 → c n = (n : Int)) ∧ (0 ≤ c n → c n ≤ 4096 → c n = (n : Int))
theorem conv_map {c : Nat → Int} {l : List Nat} (h : ∀ n ∈ l, c n = (n : Int)) : l.map c = l.map Int.ofNat := List.map_congr_left (fun n hn => h n hn)
theorem conv_may {c : Nat → Int} {l : List Nat} (h : Conv c l) (z : Int) : may z (l.map c) = mayN z l := by
  by_cases hm : mayN z l = true
  · rw [hm]
    obtain ⟨h1, h2, h3⟩ := mayN_yes.1 hm
    have hb := mayN_bd hm
    have hz := (lgB_iff z).2 h1
    obtain ⟨s, e1, e2, s1, s2, -, -⟩ := one_shl z hz
    have lz := le_sum l
    rw [conv_map (fun n hn => (h n hn).1 (hb n hn))]
    unfold may
    rw [hz, Bool.true_and, e1, Bool.and_eq_true]
    refine ⟨(okC_iff _ _).2 ⟨by simpa using h2, fun y hy => ?_⟩, by rw [sum_ofNat, h3, e2]; simp⟩
    obtain ⟨x, hx, rfl⟩ := List.mem_map.1 hy
    have := lz x hx
    rw [h3, e2] at this
    exact ⟨Int.natCast_nonneg _, by show (x : Int) ≤ _; omega⟩
  · have hf : mayN z l = false := by simpa using hm
    rw [hf]
    by_cases hy : may z (l.map c) = true
    · exfalso
      apply hm
      unfold may at hy
      simp only [Bool.and_eq_true, decide_eq_true_eq] at hy
      obtain ⟨⟨a1, a2⟩, a3⟩ := hy
      obtain ⟨s, e1, e2, s1, s2, -, -⟩ := one_shl z a1
      rw [e1] at a2 a3
      obtain ⟨b1, b2⟩ := (okC_iff _ _).1 a2
      have e : l.map c = l.map Int.ofNat := conv_map (fun n hn => by
        have := b2 (c n) (List.mem_map_of_mem hn)
        exact (h n hn).2 this.1 (by omega))
      rw [e] at a3 b1
      rw [sum_ofNat] at a3
      exact mayN_yes.2 ⟨(lgB_iff z).1 a1, by simpa using b1, by rw [e2]; omega⟩
    · simpa using hy
theorem conv_eq {c : Nat → Int} {l : List Nat} (h : Conv c l) {z : Int} (hm : mayN z l = true) : l.map c = l.map Int.ofNat := conv_map (fun n hn => (h n hn).1 (mayN_bd hm n hn))
theorem conv_wc (l : List Nat) (h : ∀ n ∈ l, n < 18446744073709551616) : Conv wc l := fun n hn => by
  have := h n hn
  constructor
  · intro h1; unfold wc; rw [if_pos (by omega)]
  · intro h1 h2; unfold wc at *; split <;> rename_i h3
    · rfl
    · rw [if_neg h3] at h1; omega
def rc (n : Nat) : Int := min (n : Int) 1048576
theorem conv_rc (l : List Nat) : Conv rc l := fun n _ => by
  constructor
  · intro h1; unfold rc; omega
  · intro h1 h2; unfold rc at *; omega
/-! ### what Get says, in the order of its tests -/
theorem getN_arg {s : List UInt8} {at' log : Int} (h : at' < 0 ∨ (s.length : Int) < at' ∨ lgB log = false) : getN s at' log = (1, [], 0) := by
  unfold getN
  rw [if_pos]
  rcases h with h | h | h
  · exact .inl h
  · exact .inr (.inl h)
  · have : ¬ (7 ≤ log ∧ log ≤ 12) := fun k => by rw [(lgB_iff log).2 k] at h; cases h
    omega
theorem getN_go {s : List UInt8} {i : Nat} {log : Int} (hi : i ≤ s.length) (hl : lgB log = true) : getN s (i : Int) log = if (getB log (s.drop i)).1 ≠ 0 then ((getB log (s.drop i)).1, [], 0) else (0, (getB log (s.drop i)).2.1, i + (getB log (s.drop i)).2.2) := by
  have := (lgB_iff log).1 hl
  unfold getN
  rw [if_neg (by omega), Int.toNat_natCast]
theorem getN_err {s : List UInt8} {i : Nat} {log : Int} (hi : i ≤ s.length) (hl : lgB log = true) {E : Nat} {l : List Nat} {r : List UInt8} (hd : decB 65 [] (s.drop i) = (E, l, r)) (hE : E ≠ 0) : getN s (i : Int) log = (E, [], 0) := by
  have e : getB log (s.drop i) = (E, [], 0) := by unfold getB; rw [hd, if_pos hE]
  rw [getN_go hi hl, e, if_pos hE]
theorem getN_may {s : List UInt8} {i : Nat} {log : Int} (hi : i ≤ s.length) (hl : lgB log = true) {l : List Nat} {r : List UInt8} (hd : decB 65 [] (s.drop i) = (0, l, r)) (hm : mayN log l = false) : getN s (i : Int) log = (3, [], 0) := by
  have e : getB log (s.drop i) = (3, [], 0) := by
    unfold getB
    rw [hd, if_neg (by simp), if_neg]
    rintro ⟨h, -⟩
    simp only at h
    rw [hm] at h; cases h
  rw [getN_go hi hl, e, if_pos (by simp)]
theorem getN_put {s : List UInt8} {i p : Nat} {log : Int} (hi : i ≤ s.length) (hip : i ≤ p) (hp : p ≤ s.length) (hl : lgB log = true) {l : List Nat} (hd : decB 65 [] (s.drop i) = (0, l, s.drop p)) (hm : mayN log l = true) :
    getN s (i : Int) log = if encN l = (s.drop i).take (p - i) then (0, l, p) else (3, [], 0) := by
  have hlen : ((s.drop i).take (p - i)).length = p - i := by rw [List.length_take, List.length_drop]; omega
  by_cases he : encN l = (s.drop i).take (p - i)
  · have e : getB log (s.drop i) = (0, l, p - i) := by
      unfold getB
      rw [hd, if_neg (by simp), if_pos]
      · simp only; rw [he, hlen]
      · simp only
        rw [he, hlen]
        exact ⟨hm, rfl, by rw [List.length_drop, List.length_drop]; omega⟩
    rw [if_pos he, getN_go hi hl, e, if_neg (by simp)]
    simp only; congr 2; omega
  · have e : getB log (s.drop i) = (3, [], 0) := by
      unfold getB
      rw [hd, if_neg (by simp), if_neg]
      rintro ⟨-, h2, h3⟩
      simp only at h2 h3
      rw [List.length_drop, List.length_drop] at h3
      apply he
      rw [← h2]
      congr 1; omega
    rw [if_neg he, getN_go hi hl, e, if_pos (by simp)]
end Go.Proofs.Ytplalkhjjndffaa
