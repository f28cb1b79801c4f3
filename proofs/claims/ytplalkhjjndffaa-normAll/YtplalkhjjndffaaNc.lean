/-
  Normed numbers, plain lists; each condition stands at its theorem.
-/
import Derived.Test.YtplalkhjjndffaaCatv
namespace Go.Proofs.Ytplalkhjjndffaa
/-! ### numbers in bytes, a row of noughts told once -/
theorem numb_cut (n k : Nat) (hk : k < (vb n).length) : numb ((vb n).take k) = (0, 0, 2) := by
  have hl := vb_len n
  have hlen : ((vb n).take k).length = k := by rw [List.length_take]; omega
  have h := numb_at ((vb n).take k) [] (vbF_ge128 9 n k hk) (by omega)
  rw [List.append_nil, hlen] at h
  rw [h]
  obtain ⟨f, hf⟩ : ∃ f, 10 - k = f + 1 := ⟨9 - k, by omega⟩
  rw [hf, numF]
theorem numb_ok {t : List UInt8} {n k e : Nat} (h : numb t = (n, k, e)) : e = 0 ∨ (n = 0 ∧ k = 0 ∧ (e = 2 ∨ e = 3)) := by
  have key : ∀ (f i acc : Nat) (l : List UInt8) (n k e : Nat), numF f i acc l = (n, k, e) → e = 0 ∨ (n = 0 ∧ k = 0 ∧ (e = 2 ∨ e = 3)) := by
    intro f
    induction f with
    | zero => intro i acc l n k e h; simp only [numF, Prod.mk.injEq] at h; omega
    | succ f ih =>
      intro i acc l n k e h
      cases l with
      | nil => simp only [numF, Prod.mk.injEq] at h; omega
      | cons c l =>
        simp only [numF] at h
        split at h
        · unfold endd at h
          split at h <;> simp only [Prod.mk.injEq] at h <;> omega
        · exact ih _ _ _ _ _ _ h
  exact key _ _ _ _ _ _ _ h
/-- How many noughts stand first. -/
def zrow : List Nat → Nat
  | [] => 0
  | x :: l => if x = 0 then zrow l + 1 else 0
theorem zrow_le (l : List Nat) : zrow l ≤ l.length := by
  induction l with
  | nil => simp [zrow]
  | cons x l ih => simp only [zrow, List.length_cons]; split <;> omega
theorem zrow_take (l : List Nat) : l.take (zrow l) = List.replicate (zrow l) 0 := by
  induction l with
  | nil => rfl
  | cons x l ih =>
    simp only [zrow]
    split
    · rename_i h; rw [List.take_succ_cons, ih, h, List.replicate_succ]
    · rfl
theorem zrow_split (l : List Nat) : l = List.replicate (zrow l) 0 ++ l.drop (zrow l) := by
  rw [← zrow_take, List.take_append_drop]
theorem zrow_next (l : List Nat) (x : Nat) (r : List Nat) (h : l.drop (zrow l) = x :: r) : 0 < x := by
  induction l with
  | nil => simp at h
  | cons y l ih =>
    simp only [zrow] at h
    split at h
    · exact ih (by simpa using h)
    · rename_i hy; simp only [List.drop_zero, List.cons.injEq] at h; omega
def encB : Nat → List Nat → List UInt8
  | 0, _ => []
  | _ + 1, [] => []
  | f + 1, x :: l => if 0 < x then vb x ++ encB f l else vb 0 ++ (vb (zrow l) ++ encB f (l.drop (zrow l)))
/-- The document's Put. -/
def encN (l : List Nat) : List UInt8 := encB l.length l
theorem encB_fuel (f g : Nat) (l : List Nat) (hf : l.length ≤ f) (hg : l.length ≤ g) : encB f l = encB g l := by
  induction f generalizing g l with
  | zero =>
    obtain rfl : l = [] := List.eq_nil_of_length_eq_zero (by omega)
    cases g <;> rfl
  | succ f ih =>
    cases l with
    | nil => cases g <;> rfl
    | cons x l =>
      cases g with
      | zero => simp at hg
      | succ g =>
        simp only [List.length_cons] at hf hg
        simp only [encB]
        rw [ih g l (by omega) (by omega), ih g (l.drop (zrow l)) (by rw [List.length_drop]; omega) (by rw [List.length_drop]; omega)]
theorem encN_nil : encN [] = [] := rfl
theorem encN_pos (x : Nat) (l : List Nat) (h : 0 < x) : encN (x :: l) = vb x ++ encN l := by
  unfold encN; simp only [List.length_cons, encB]; rw [if_pos h]
theorem encN_zero (l : List Nat) : encN (0 :: l) = vb 0 ++ (vb (zrow l) ++ encN (l.drop (zrow l))) := by
  unfold encN
  simp only [List.length_cons, encB]
  rw [if_neg (by omega), encB_fuel l.length (l.drop (zrow l)).length (l.drop (zrow l)) (by rw [List.length_drop]; omega) (Nat.le_refl _)]
/-- Get, number by number: the error, the numbers, the bytes behind. -/
def decB : Nat → List Nat → List UInt8 → Nat × List Nat × List UInt8
  | 0, acc, t => (0, acc, t)
  | f + 1, acc, t =>
    if 65 ≤ acc.length then (0, acc, t)
    else if (numb t).2.2 ≠ 0 then ((numb t).2.2, [], [])
    else if 0 < (numb t).1 then decB f (acc ++ [(numb t).1]) (t.drop (numb t).2.1)
    else if (numb (t.drop (numb t).2.1)).2.2 ≠ 0 then ((numb (t.drop (numb t).2.1)).2.2, [], [])
    else if 65 ≤ acc.length + (numb (t.drop (numb t).2.1)).1 then (3, [], [])
    else decB f (acc ++ List.replicate ((numb (t.drop (numb t).2.1)).1 + 1) 0) ((t.drop (numb t).2.1).drop (numb (t.drop (numb t).2.1)).2.1)
theorem decB_done (f : Nat) (acc : List Nat) (t : List UInt8) (h : 65 ≤ acc.length) : decB f acc t = (0, acc, t) := by
  cases f with
  | zero => rfl
  | succ f => simp only [decB]; rw [if_pos h]
theorem decB_err (f : Nat) (acc : List Nat) (t : List UInt8) (h : acc.length < 65) (e : Nat) (he : e ≠ 0) (hn : numb t = (0, 0, e)) : decB (f + 1) acc t = (e, [], []) := by
  simp only [decB, hn]; rw [if_neg (by omega), if_pos he]
theorem decB_pos (f : Nat) (acc : List Nat) (t : List UInt8) (h : acc.length < 65) (n k : Nat) (hp : 0 < n) (hn : numb t = (n, k, 0)) : decB (f + 1) acc t = decB f (acc ++ [n]) (t.drop k) := by
  simp only [decB, hn]; rw [if_neg (by omega), if_neg (by simp), if_pos hp]
theorem decB_half (f : Nat) (acc : List Nat) (t : List UInt8) (h : acc.length < 65) (k e : Nat) (he : e ≠ 0) (hn : numb t = (0, k, 0)) (hm : numb (t.drop k) = (0, 0, e)) : decB (f + 1) acc t = (e, [], []) := by
  simp only [decB, hn, hm]; rw [if_neg (by omega), if_neg (by simp), if_neg (by simp), if_pos he]
theorem decB_many (f : Nat) (acc : List Nat) (t : List UInt8) (h : acc.length < 65) (k m j : Nat) (hn : numb t = (0, k, 0)) (hm : numb (t.drop k) = (m, j, 0)) (hb : 65 ≤ acc.length + m) : decB (f + 1) acc t = (3, [], []) := by
  simp only [decB, hn, hm]; rw [if_neg (by omega), if_neg (by simp), if_neg (by simp), if_neg (by simp), if_pos hb]
theorem decB_row (f : Nat) (acc : List Nat) (t : List UInt8) (h : acc.length < 65) (k m j : Nat) (hn : numb t = (0, k, 0)) (hm : numb (t.drop k) = (m, j, 0)) (hb : acc.length + m < 65) :
    decB (f + 1) acc t = decB f (acc ++ List.replicate (m + 1) 0) (t.drop (k + j)) := by
  simp only [decB, hn, hm]; rw [if_neg (by omega), if_neg (by simp), if_neg (by simp), if_neg (by simp), if_neg (by omega), List.drop_drop]
theorem decB_enc : ∀ (n : Nat) (l : List Nat) (f : Nat) (acc : List Nat) (r : List UInt8), l.length ≤ n → (∀ x ∈ l, x < 18446744073709551616) → acc.length + l.length = 65 → 65 ≤ f + acc.length → decB f acc (encN l ++ r) = (0, acc ++ l, r) := by
  intro n
  induction n with
  | zero =>
    intro l f acc r hn hx ha hf
    obtain rfl : l = [] := List.eq_nil_of_length_eq_zero (by omega)
    rw [encN_nil, decB_done _ _ _ (by simpa using Nat.le_of_eq ha.symm)]
    simp
  | succ n ih =>
    intro l f acc r hn hx ha hf
    cases l with
    | nil =>
      rw [encN_nil, decB_done _ _ _ (by simpa using Nat.le_of_eq ha.symm)]
      simp
    | cons x l =>
      simp only [List.length_cons] at hn ha
      obtain ⟨g, rfl⟩ : ∃ g, f = g + 1 := ⟨f - 1, by omega⟩
      have hx0 : x < 18446744073709551616 := hx x (by simp)
      by_cases h0 : 0 < x
      · rw [encN_pos x l h0, List.append_assoc, decB_pos g acc _ (by omega) x (vb x).length h0 (numb_vb x _ hx0), List.drop_left]
        rw [ih l g (acc ++ [x]) r (by omega) (fun y hy => hx y (by simp [hy])) (by rw [List.length_append, List.length_cons, List.length_nil]; omega) (by rw [List.length_append, List.length_cons, List.length_nil]; omega)]
        simp
      · obtain rfl : x = 0 := by omega
        have hz := zrow_le l
        rw [encN_zero, List.append_assoc, List.append_assoc]
        rw [decB_row g acc _ (by omega) (vb 0).length (zrow l) (vb (zrow l)).length (numb_vb 0 _ (by omega)) (by rw [List.drop_left]; exact numb_vb (zrow l) _ (by omega)) (by omega)]
        rw [← List.drop_drop, List.drop_left, List.drop_left]
        rw [ih (l.drop (zrow l)) g _ r (by rw [List.length_drop]; omega) (fun y hy => hx y (List.mem_cons_of_mem _ (List.mem_of_mem_drop hy))) (by rw [List.length_append, List.length_replicate, List.length_drop]; omega) (by rw [List.length_append, List.length_replicate]; omega)]
        congr 2
        rw [List.replicate_succ, List.append_assoc, List.cons_append, ← zrow_split]
/-- Cut at any place, more is needed. -/
theorem decB_cut : ∀ (n : Nat) (l : List Nat) (f : Nat) (acc : List Nat) (m : Nat), l.length ≤ n → (∀ x ∈ l, x < 18446744073709551616) → acc.length + l.length = 65 → 65 ≤ f + acc.length → m < (encN l).length → decB f acc ((encN l).take m) = (2, [], []) := by
  intro n
  induction n with
  | zero =>
    intro l f acc m hn hx ha hf hm
    obtain rfl : l = [] := List.eq_nil_of_length_eq_zero (by omega)
    simp [encN_nil] at hm
  | succ n ih =>
    intro l f acc m hn hx ha hf hm
    cases l with
    | nil => simp [encN_nil] at hm
    | cons x l =>
      simp only [List.length_cons] at hn ha
      obtain ⟨g, rfl⟩ : ∃ g, f = g + 1 := ⟨f - 1, by omega⟩
      have hx0 : x < 18446744073709551616 := hx x (by simp)
      by_cases h0 : 0 < x
      · rw [encN_pos x l h0] at hm ⊢
        rw [List.take_append]
        rw [List.length_append] at hm
        rcases Nat.lt_or_ge m (vb x).length with h | h
        · rw [show m - (vb x).length = 0 from by omega, List.take_zero, List.append_nil]
          exact decB_err g acc _ (by omega) 2 (by omega) (numb_cut x m h)
        · rw [List.take_of_length_le h, decB_pos g acc _ (by omega) x (vb x).length h0 (numb_vb x _ hx0), List.drop_left]
          exact ih l g _ _ (by omega) (fun y hy => hx y (by simp [hy])) (by rw [List.length_append, List.length_cons, List.length_nil]; omega) (by rw [List.length_append, List.length_cons, List.length_nil]; omega) (by omega)
      · obtain rfl : x = 0 := by omega
        have hz := zrow_le l
        rw [encN_zero] at hm ⊢
        rw [List.take_append]
        rw [List.length_append, List.length_append] at hm
        rcases Nat.lt_or_ge m (vb 0).length with h | h
        · rw [show m - (vb 0).length = 0 from by omega, List.take_zero, List.append_nil]
          exact decB_err g acc _ (by omega) 2 (by omega) (numb_cut 0 m h)
        · rw [List.take_of_length_le h, List.take_append]
          rcases Nat.lt_or_ge (m - (vb 0).length) (vb (zrow l)).length with h2 | h2
          · rw [show m - (vb 0).length - (vb (zrow l)).length = 0 from by omega, List.take_zero, List.append_nil]
            exact decB_half g acc _ (by omega) (vb 0).length 2 (by omega) (numb_vb 0 _ (by omega)) (by rw [List.drop_left]; exact numb_cut (zrow l) _ h2)
          · rw [List.take_of_length_le h2]
            rw [decB_row g acc _ (by omega) (vb 0).length (zrow l) (vb (zrow l)).length (numb_vb 0 _ (by omega)) (by rw [List.drop_left]; exact numb_vb (zrow l) _ (by omega)) (by omega)]
            rw [← List.drop_drop, List.drop_left, List.drop_left]
            exact ih (l.drop (zrow l)) g _ _ (by rw [List.length_drop]; omega) (fun y hy => hx y (List.mem_cons_of_mem _ (List.mem_of_mem_drop hy))) (by rw [List.length_append, List.length_replicate, List.length_drop]; omega) (by rw [List.length_append, List.length_replicate]; omega) (by omega)
/-- A whole list that was read is told from its bytes' beginning on: what is behind them. -/
def mayN (log : Int) (l : List Nat) : Bool := decide (7 ≤ log ∧ log ≤ 12) && decide (l.length = 65) && decide (l.sum = 2 ^ log.toNat)
theorem mayN_yes {log : Int} {l : List Nat} : mayN log l = true ↔ (7 ≤ log ∧ log ≤ 12) ∧ l.length = 65 ∧ l.sum = 2 ^ log.toNat := by
  simp only [mayN, Bool.and_eq_true, decide_eq_true_eq, and_assoc]
theorem le_sum (l : List Nat) : ∀ x ∈ l, x ≤ l.sum := by
  induction l with
  | nil => simp
  | cons y l ih =>
    intro x hx
    simp only [List.sum_cons]
    rcases List.mem_cons.1 hx with rfl | h
    · omega
    · have := ih x h; omega
theorem mayN_bd {log : Int} {l : List Nat} (h : mayN log l = true) : ∀ x ∈ l, x ≤ 4096 := by
  obtain ⟨h1, _, h3⟩ := mayN_yes.1 h
  intro x hx
  have a := le_sum l x hx
  have : (2 : Nat) ^ log.toNat ≤ 2 ^ 12 := Nat.pow_le_pow_right (by omega) (by omega)
  omega
/-- What bytes say from their first one on: the error, the numbers, how many bytes. -/
def getB (log : Int) (t : List UInt8) : Nat × List Nat × Nat :=
  if (decB 65 [] t).1 ≠ 0 then ((decB 65 [] t).1, [], 0)
  else if mayN log (decB 65 [] t).2.1 = true ∧ t.take (encN (decB 65 [] t).2.1).length = encN (decB 65 [] t).2.1 ∧ t.length = (encN (decB 65 [] t).2.1).length + (decB 65 [] t).2.2.length then (0, (decB 65 [] t).2.1, (encN (decB 65 [] t).2.1).length)
  else (3, [], 0)
/-- The document's Get. -/
def getN (s : List UInt8) (at' log : Int) : Nat × List Nat × Nat :=
  if at' < 0 ∨ (s.length : Int) < at' ∨ log < 7 ∨ 12 < log then (1, [], 0)
  else if (getB log (s.drop at'.toNat)).1 ≠ 0 then ((getB log (s.drop at'.toNat)).1, [], 0)
  else (0, (getB log (s.drop at'.toNat)).2.1, at'.toNat + (getB log (s.drop at'.toNat)).2.2)
theorem getB_put {log : Int} {l : List Nat} (h : mayN log l = true) (u : List UInt8) : getB log (encN l ++ u) = (0, l, (encN l).length) := by
  have d := decB_enc l.length l 65 [] u (Nat.le_refl _) (fun x hx => by have := mayN_bd h x hx; omega) (by simpa using (mayN_yes.1 h).2.1) (by simp)
  rw [List.nil_append] at d
  unfold getB
  rw [d]
  simp only [ne_eq, not_true_eq_false, if_false]
  rw [if_pos ⟨h, List.take_left, by rw [List.length_append]⟩]
theorem getB_cut {log : Int} {l : List Nat} (h : mayN log l = true) (m : Nat) (hm : m < (encN l).length) : getB log ((encN l).take m) = (2, [], 0) := by
  have d := decB_cut l.length l 65 [] m (Nat.le_refl _) (fun x hx => by have := mayN_bd h x hx; omega) (by simpa using (mayN_yes.1 h).2.1) (by simp) hm
  unfold getB
  rw [d]
  rw [if_pos (by simp)]
theorem getB_said {log : Int} {t : List UInt8} {l : List Nat} {k : Nat} (h : getB log t = (0, l, k)) : mayN log l = true ∧ k = (encN l).length ∧ t.take k = encN l ∧ k ≤ t.length := by
  unfold getB at h
  split at h
  · rename_i hn; simp only [Prod.mk.injEq] at h; exact absurd h.1 hn
  · split at h
    · rename_i hc
      simp only [Prod.mk.injEq] at h
      obtain ⟨-, rfl, rfl⟩ := h
      exact ⟨hc.1, rfl, hc.2.1, by omega⟩
    · simp at h
theorem encN_ne {l : List Nat} (h : l ≠ []) : encN l ≠ [] := by
  cases l with
  | nil => exact absurd rfl h
  | cons x l =>
    have hv := (vb_len x).1
    by_cases h0 : 0 < x
    · rw [encN_pos x l h0]; intro e; have := congrArg List.length e; rw [List.length_append, List.length_nil] at this; omega
    · obtain rfl : x = 0 := by omega
      rw [encN_zero]; intro e; have := congrArg List.length e; rw [List.length_append, List.length_nil] at this; omega
/-- One byte turned: others, or none. -/
theorem getB_turned {log : Int} {l : List Nat} {t : List UInt8} (ht : t.length = (encN l).length) (hne : t ≠ encN l) : ∀ k, getB log t ≠ (0, l, k) := by
  intro k h
  obtain ⟨-, hk, h2, -⟩ := getB_said h
  rw [hk, ← ht, List.take_length] at h2
  exact hne h2
theorem getN_of {s : List UInt8} {i : Nat} {log : Int} (hi : i ≤ s.length) (hl : 7 ≤ log ∧ log ≤ 12) {er k : Nat} {l : List Nat} (g : getB log (s.drop i) = (er, l, k)) (h0 : er ≠ 0 → l = [] ∧ k = 0) : getN s i log = (er, l, if er = 0 then i + k else 0) := by
  unfold getN
  rw [if_neg (by omega), Int.toNat_natCast, g]
  by_cases he : er = 0
  · subst he; simp
  · obtain ⟨rfl, rfl⟩ := h0 he
    rw [if_pos he, if_neg he]
end Go.Proofs.Ytplalkhjjndffaa
