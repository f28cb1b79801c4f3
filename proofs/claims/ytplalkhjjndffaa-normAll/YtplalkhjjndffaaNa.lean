/-
  Normed numbers, plain lists; each condition stands at its theorem.
-/
import Derived.Test.YtplalkhjjndffaaJm
namespace Go.Proofs.Ytplalkhjjndffaa
/-- What a class gets at first. -/
def share (log all x : Nat) : Nat := if x = 0 then 0 else max 1 (x * 2 ^ log / all)
def shares (log : Nat) (f : List Nat) : List Nat := f.map (share log f.sum)
def mxOf : List Nat → Nat
  | [] => 0
  | x :: l => max x (mxOf l)
/-- The first place of the greatest number. -/
def topOf : List Nat → Nat
  | [] => 0
  | x :: l => if mxOf l ≤ x then 0 else topOf l + 1
def IsTop (l : List Nat) (k : Nat) : Prop := k < l.length ∧ (∀ i, i < l.length → l.getD i 0 ≤ l.getD k 0) ∧ ∀ i, i < k → l.getD i 0 < l.getD k 0
theorem mx_le (l : List Nat) (i : Nat) : l.getD i 0 ≤ mxOf l := by
  induction l generalizing i with
  | nil => simp
  | cons x l ih =>
    cases i with
    | zero => simp only [List.getD_cons_zero, mxOf]; omega
    | succ i => simp only [List.getD_cons_succ, mxOf]; have := ih i; omega
theorem topOf_get (l : List Nat) : l.getD (topOf l) 0 = mxOf l := by
  induction l with
  | nil => rfl
  | cons x l ih =>
    simp only [topOf, mxOf]
    split
    · simp only [List.getD_cons_zero]; omega
    · simp only [List.getD_cons_succ, ih]; omega
theorem topOf_lt (l : List Nat) (h : l ≠ []) : topOf l < l.length := by
  induction l with
  | nil => exact absurd rfl h
  | cons x l ih =>
    simp only [topOf, List.length_cons]
    split
    · omega
    · rename_i hn
      have : l ≠ [] := by rintro rfl; simp [mxOf] at hn
      have := ih this
      omega
theorem topOf_first (l : List Nat) (i : Nat) (hi : i < topOf l) : l.getD i 0 < mxOf l := by
  induction l generalizing i with
  | nil => simp [topOf] at hi
  | cons x l ih =>
    simp only [topOf] at hi
    split at hi
    · omega
    · rename_i hn
      cases i with
      | zero => simp only [List.getD_cons_zero, mxOf]; omega
      | succ i => simp only [List.getD_cons_succ, mxOf]; have := ih i (by omega); omega
theorem topOf_is (l : List Nat) (h : l ≠ []) : IsTop l (topOf l) :=
  ⟨topOf_lt l h, fun i _ => by rw [topOf_get]; exact mx_le l i, fun i hi => by rw [topOf_get]; exact topOf_first l i hi⟩
theorem topOf_one {l : List Nat} {j k : Nat} (hj : IsTop l j) (hk : IsTop l k) : j = k := by
  have a := hj.2.1 k hk.1
  have b := hk.2.1 j hj.1
  rcases Nat.lt_trichotomy j k with h | h | h
  · have := hk.2.2 j h; omega
  · exact h
  · have := hj.2.2 k h; omega
theorem topOf_eq {l : List Nat} {k : Nat} (hk : IsTop l k) : topOf l = k :=
  topOf_one (topOf_is l (by rintro rfl; exact absurd hk.1 (by simp))) hk
theorem sum_set (l : List Nat) (k v : Nat) (hk : k < l.length) : (l.set k v).sum + l.getD k 0 = l.sum + v := by
  induction l generalizing k with
  | nil => simp at hk
  | cons x l ih =>
    cases k with
    | zero => simp only [List.set_cons_zero, List.sum_cons, List.getD_cons_zero]; omega
    | succ k =>
      simp only [List.set_cons_succ, List.sum_cons, List.getD_cons_succ]
      have := ih k (by simpa using hk)
      omega
theorem sum_le_mx (l : List Nat) : l.sum ≤ l.length * mxOf l := by
  induction l with
  | nil => simp
  | cons x l ih =>
    simp only [List.sum_cons, List.length_cons, mxOf, Nat.add_mul, Nat.one_mul]
    have : l.length * mxOf l ≤ l.length * max x (mxOf l) := Nat.mul_le_mul_left _ (by omega)
    omega
theorem set_getD (l : List Nat) (k v i : Nat) (hk : k < l.length) : (l.set k v).getD i 0 = if i = k then v else l.getD i 0 := by
  simp only [List.getD_eq_getElem?_getD, List.getElem?_set]
  by_cases h : k = i
  · subst h; simp [hk]
  · have : ¬i = k := fun e => h e.symm
    simp [h, this]
/-- One is taken from the greatest number. -/
def dec (l : List Nat) : List Nat := l.set (topOf l) (l.getD (topOf l) 0 - 1)
def decN : Nat → List Nat → List Nat
  | 0, l => l
  | n + 1, l => decN n (dec l)
theorem dec_length (l : List Nat) : (dec l).length = l.length := by simp [dec]
theorem decN_length (n : Nat) (l : List Nat) : (decN n l).length = l.length := by
  induction n generalizing l with
  | zero => rfl
  | succ n ih => rw [decN, ih, dec_length]
/-- More than as many as there are: the greatest number is two at least. -/
theorem mx_two {l : List Nat} (h : l.length < l.sum) : 2 ≤ mxOf l := by
  rcases Nat.lt_or_ge (mxOf l) 2 with h2 | h2
  · have a := sum_le_mx l
    have : l.length * mxOf l ≤ l.length * 1 := Nat.mul_le_mul_left _ (by omega)
    omega
  · exact h2
theorem ne_of_sum {l : List Nat} (h : l.length < l.sum) : l ≠ [] := by rintro rfl; simp at h
theorem dec_sum {l : List Nat} (h : l.length < l.sum) : (dec l).sum + 1 = l.sum := by
  have a := sum_set l (topOf l) (l.getD (topOf l) 0 - 1) (topOf_lt l (ne_of_sum h))
  have b := mx_two h
  rw [topOf_get] at a
  simp only [dec, topOf_get]
  omega
theorem dec_getD {l : List Nat} (h : l.length < l.sum) (i : Nat) : (dec l).getD i 0 = if i = topOf l then mxOf l - 1 else l.getD i 0 := by
  rw [dec, set_getD _ _ _ _ (topOf_lt l (ne_of_sum h)), topOf_get]
/-- What stays true while too much is taken: who has some and who none; who may have at most one more than another. -/
def Fair (f l : List Nat) : Prop := l.length = f.length ∧ (∀ i, 0 < l.getD i 0 ↔ 0 < f.getD i 0) ∧ ∀ i j, f.getD j 0 < f.getD i 0 → l.getD j 0 ≤ l.getD i 0 + 1
theorem fair_dec {f l : List Nat} (h : Fair f l) (hs : l.length < l.sum) : Fair f (dec l) := by
  obtain ⟨h1, h2, h3⟩ := h
  have hm := mx_two hs
  have tg := topOf_get l
  refine ⟨by rw [dec_length]; exact h1, fun i => ?_, fun i j hij => ?_⟩
  · rw [dec_getD hs, ← h2 i]
    split
    · rename_i e; subst e; rw [tg]; omega
    · exact Iff.rfl
  · rw [dec_getD hs, dec_getD hs]
    have a := h3 i j hij
    have b := mx_le l j
    split <;> split
    · omega
    · rename_i e1 e2; subst e1; rw [tg] at a; omega
    · omega
    · omega
theorem fair_decN (n : Nat) {f l : List Nat} (h : Fair f l) (hs : f.length + n ≤ l.sum) : Fair f (decN n l) ∧ (decN n l).sum + n = l.sum := by
  induction n generalizing l with
  | zero => exact ⟨h, rfl⟩
  | succ n ih =>
    have hl : l.length < l.sum := by rw [h.1]; omega
    have d := dec_sum hl
    have := ih (fair_dec h hl) (by omega)
    exact ⟨this.1, by rw [decN]; omega⟩
/-- The document's answer. -/
def nrm (log : Nat) (f : List Nat) : List Nat :=
  if (shares log f).sum < 2 ^ log then (shares log f).set (topOf f) ((shares log f).getD (topOf f) 0 + (2 ^ log - (shares log f).sum)) else decN ((shares log f).sum - 2 ^ log) (shares log f)
theorem shares_getD (log : Nat) (f : List Nat) (i : Nat) : (shares log f).getD i 0 = share log f.sum (f.getD i 0) := by
  simp only [shares, List.getD_eq_getElem?_getD, List.getElem?_map]
  cases f[i]? <;> simp [share]
theorem share_pos (log all x : Nat) : 0 < share log all x ↔ 0 < x := by
  unfold share; split <;> omega
theorem share_mono (log all : Nat) {x y : Nat} (h : x ≤ y) : share log all x ≤ share log all y := by
  unfold share
  have a : x * 2 ^ log / all ≤ y * 2 ^ log / all := Nat.div_le_div_right (Nat.mul_le_mul_right _ h)
  split <;> split <;> omega
theorem shares_fair (log : Nat) (f : List Nat) : Fair f (shares log f) :=
  ⟨by simp [shares], fun i => by rw [shares_getD]; exact share_pos _ _ _, fun i j h => by
    rw [shares_getD, shares_getD]
    exact Nat.le_succ_of_le (share_mono _ _ (by omega))⟩
theorem mx_pos {f : List Nat} (h : 0 < f.sum) : 0 < mxOf f := by
  have := sum_le_mx f
  rcases Nat.eq_zero_or_pos (mxOf f) with e | e
  · rw [e] at this; omega
  · exact e
theorem nrm_fair {log : Nat} {f : List Nat} (hf : 0 < f.sum) (hl : f.length ≤ 2 ^ log) : Fair f (nrm log f) ∧ (nrm log f).sum = 2 ^ log := by
  have sf := shares_fair log f
  unfold nrm
  split
  · rename_i hlt
    have hne : f ≠ [] := by rintro rfl; simp at hf
    have ht : topOf f < (shares log f).length := by rw [sf.1]; exact topOf_lt f hne
    have tp := topOf_get f
    have mp := mx_pos hf
    refine ⟨⟨by rw [List.length_set]; exact sf.1, fun i => ?_, fun i j hij => ?_⟩, ?_⟩
    · rw [set_getD _ _ _ _ ht]
      split
      · rename_i e; subst e; rw [tp]; omega
      · exact sf.2.1 i
    · rw [set_getD _ _ _ _ ht, set_getD _ _ _ _ ht]
      have a := sf.2.2 i j hij
      have b := mx_le f i
      split <;> split
      · omega
      · rename_i e1 e2; subst e1; omega
      · rename_i e1 e2; subst e2; omega
      · omega
    · have a := sum_set (shares log f) (topOf f) ((shares log f).getD (topOf f) 0 + (2 ^ log - (shares log f).sum)) ht
      omega
  · rename_i hge
    have := fair_decN ((shares log f).sum - 2 ^ log) sf (by omega)
    exact ⟨this.1, by omega⟩
/-- Where the shares are even there is no rest: they are what is normed. -/
theorem nrm_even {log : Nat} {f : List Nat} (h : (shares log f).sum = 2 ^ log) : nrm log f = shares log f := by
  unfold nrm
  rw [if_neg (by omega), h, Nat.sub_self]
  rfl
theorem share_even {log k c : Nat} (hc : 0 < c) (hk : k ≤ log) : share log (c * 2 ^ k) c = 2 ^ (log - k) := by
  unfold share
  rw [if_neg (by omega), Nat.mul_div_mul_left _ _ hc, Nat.pow_div hk (by omega)]
  have := Nat.two_pow_pos (log - k)
  omega
theorem share_much {log k c : Nat} (hc : 0 < c) (hk : k < log) : share log (c * 2 ^ (k + 1)) (c * 2 ^ k) = 2 ^ (log - 1) := by
  unfold share
  have hp := Nat.two_pow_pos k
  have hq := Nat.two_pow_pos (log - 1)
  have h0 : 0 < c * 2 ^ k := Nat.mul_pos hc hp
  have e : c * 2 ^ k * 2 ^ log / (c * 2 ^ (k + 1)) = 2 ^ (log - 1) := by
    have : 2 ^ log = 2 * 2 ^ (log - 1) := by rw [← Nat.pow_succ']; congr 1; omega
    rw [this, Nat.pow_succ, show c * (2 ^ k * 2) = c * 2 ^ k * 2 by rw [Nat.mul_assoc], Nat.mul_div_mul_left _ _ h0]
    omega
  rw [if_neg (by omega), e]
  omega
/-! ### classes that come alike often -/
def evenF (k c d : Nat) : List Nat := List.replicate (2 ^ k) c ++ (List.replicate (64 - 2 ^ k) 0 ++ [d])
theorem even_len {k : Nat} (hk : k ≤ 6) (c d : Nat) : (evenF k c d).length = 65 := by
  have : (2 : Nat) ^ k ≤ 2 ^ 6 := Nat.pow_le_pow_right (by omega) hk
  simp only [evenF, List.length_append, List.length_replicate, List.length_cons, List.length_nil]
  omega
theorem even_sum (k c d : Nat) : (evenF k c d).sum = c * 2 ^ k + d := by
  simp only [evenF, List.sum_append, List.sum_replicate_nat, List.sum_cons, List.sum_nil]
  rw [Nat.mul_comm]; omega
theorem even_shares (log k c d : Nat) : shares log (evenF k c d) = evenF k (share log (c * 2 ^ k + d) c) (share log (c * 2 ^ k + d) d) := by
  unfold shares
  rw [even_sum]
  simp only [evenF, List.map_append, List.map_replicate, List.map_cons, List.map_nil]
  congr 3
theorem even_alike {log k c : Nat} (hc : 0 < c) (hk : k ≤ log) : nrm log (evenF k c 0) = evenF k (2 ^ (log - k)) 0 := by
  have e : shares log (evenF k c 0) = evenF k (2 ^ (log - k)) 0 := by
    rw [even_shares, Nat.add_zero, share_even hc hk]; rfl
  rw [nrm_even, e]
  rw [e, even_sum, ← Nat.pow_add, Nat.sub_add_cancel hk, Nat.add_zero]
theorem even_much {log k c : Nat} (hc : 0 < c) (hk : k < log) : nrm log (evenF k c (c * 2 ^ k)) = evenF k (2 ^ (log - (k + 1))) (2 ^ (log - 1)) := by
  have ea : c * 2 ^ k + c * 2 ^ k = c * 2 ^ (k + 1) := by rw [Nat.pow_succ, ← Nat.mul_assoc]; omega
  have e : shares log (evenF k c (c * 2 ^ k)) = evenF k (2 ^ (log - (k + 1))) (2 ^ (log - 1)) := by
    rw [even_shares, ea, share_even hc (by omega), share_much hc hk]
  rw [nrm_even, e]
  rw [e, even_sum, ← Nat.pow_add, show log - (k + 1) + k = log - 1 from by omega]
  have : 2 ^ log = 2 * 2 ^ (log - 1) := by rw [← Nat.pow_succ']; congr 1; omega
  omega
/-- The document's answer of any frequencies: the error and the numbers. -/
def normA (f : List Int) (log : Int) : Nat × List Nat :=
  if f.length = 65 ∧ (∀ z ∈ f, 0 ≤ z ∧ z ≤ 16777216) ∧ 0 < f.sum ∧ 7 ≤ log ∧ log ≤ 12 then (0, nrm log.toNat (f.map Int.toNat)) else (1, [])
end Go.Proofs.Ytplalkhjjndffaa
