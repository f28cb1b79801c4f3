/-
  Bits in lists: codes with their highest bit first, rests with their lowest; the bits of bytes; laid ahead for layer 11; what is read by codes that begin no other one, bit by bit; parts by codes; laid ahead for layer 11.
-/
import Derived.Test.YtlkebkchbgpnpaaOb
namespace Go.Proofs.Ytlkebkchbgpnpaa
open Go.ChangeShapes Go.WideShapes Go.ChangeAt Go.RowKit
open Go.ChangeMaps (open_string shut_string)

/-! ### bits in a list, the lowest of a byte first -/
/-- The number of bits. -/
def b2 : List Nat → Nat
  | [] => 0
  | x :: r => x + 2 * b2 r
theorem b2_append (a b : List Nat) : b2 (a ++ b) = b2 a + b2 b * 2 ^ a.length := by
  induction a with
  | nil => simp [b2]
  | cons x a ih => simp only [List.cons_append, b2, ih, List.length_cons, Nat.pow_succ, Nat.mul_add]; rw [Nat.mul_comm (2 ^ a.length) 2, Nat.mul_left_comm (b2 b) 2]; omega
theorem b2_lt (a : List Nat) (h : ∀ x ∈ a, x < 2) : b2 a < 2 ^ a.length := by
  induction a with
  | nil => simp [b2]
  | cons x a ih =>
    have := ih (fun y hy => h y (by simp [hy]))
    have hx := h x (by simp)
    simp only [b2, List.length_cons, Nat.pow_succ]; omega
/-- So many bits of a number, the lowest first; the highest first. -/
def lsb : Nat → Nat → List Nat
  | 0, _ => []
  | n + 1, r => r % 2 :: lsb n (r / 2)
def msb : Nat → Nat → List Nat
  | 0, _ => []
  | n + 1, r => r / 2 ^ n % 2 :: msb n r
theorem lsb_len (n r : Nat) : (lsb n r).length = n := by
  induction n generalizing r with
  | zero => rfl
  | succ n ih => simp [lsb, ih]
theorem msb_len (n r : Nat) : (msb n r).length = n := by
  induction n with
  | zero => rfl
  | succ n ih => simp [msb, ih]
theorem lsb_lt (n r : Nat) : ∀ x ∈ lsb n r, x < 2 := by
  induction n generalizing r with
  | zero => intro x hx; simp [lsb] at hx
  | succ n ih =>
    intro x hx
    simp only [lsb, List.mem_cons] at hx
    rcases hx with h | h
    · omega
    · exact ih _ x h
theorem msb_lt (n r : Nat) : ∀ x ∈ msb n r, x < 2 := by
  induction n with
  | zero => intro x hx; simp [msb] at hx
  | succ n ih =>
    intro x hx
    simp only [msb, List.mem_cons] at hx
    rcases hx with h | h
    · omega
    · exact ih x h
theorem b2_lsb (n r : Nat) : b2 (lsb n r) = r % 2 ^ n := by
  induction n generalizing r with
  | zero => simp [lsb, b2, Nat.mod_one]
  | succ n ih => simp only [lsb, b2, ih, Nat.pow_succ]; rw [Nat.mul_comm (2 ^ n) 2, Nat.mod_mul]
theorem lsb_b2 (a : List Nat) (h : ∀ x ∈ a, x < 2) : lsb a.length (b2 a) = a := by
  induction a with
  | nil => rfl
  | cons x a ih =>
    have hx := h x (by simp)
    have := ih (fun y hy => h y (by simp [hy]))
    simp only [List.length_cons, lsb, b2]
    rw [show (x + 2 * b2 a) % 2 = x from by omega, show (x + 2 * b2 a) / 2 = b2 a from by omega, this]
theorem b2_inj {a b : List Nat} (ha : ∀ x ∈ a, x < 2) (hb : ∀ x ∈ b, x < 2) (hl : a.length = b.length) (h : b2 a = b2 b) : a = b := by
  rw [← lsb_b2 a ha, ← lsb_b2 b hb, hl, h]
/-- A code's bits, read one by one, make its number. -/
def num (a : List Nat) : Nat := a.foldl (fun v x => 2 * v + x) 0
theorem num_snoc (a : List Nat) (x : Nat) : num (a ++ [x]) = 2 * num a + x := by unfold num; rw [List.foldl_append]; rfl
theorem msb_snoc (n r : Nat) : msb (n + 1) r = msb n (r / 2) ++ [r % 2] := by
  induction n generalizing r with
  | zero => simp [msb]
  | succ n ih =>
    rw [msb, ih, msb, Nat.pow_succ, Nat.mul_comm (2 ^ n) 2, ← Nat.div_div_eq_div_mul]; rfl
theorem num_msb (n r : Nat) : num (msb n r) = r % 2 ^ n := by
  induction n generalizing r with
  | zero => simp [msb, num, Nat.mod_one]
  | succ n ih => rw [msb_snoc, num_snoc, ih, Nat.pow_succ, Nat.mul_comm (2 ^ n) 2, Nat.mod_mul]; omega
theorem msb_num' : ∀ (n : Nat) (a : List Nat), a.length = n → (∀ x ∈ a, x < 2) → msb a.length (num a) = a
  | 0, a, hl, _ => by rw [List.eq_nil_of_length_eq_zero hl]; rfl
  | n + 1, a, hl, h => by
    have hne : a ≠ [] := fun e => by rw [e] at hl; simp at hl
    obtain ⟨b, x, rfl⟩ : ∃ b x, a = b ++ [x] := ⟨a.dropLast, a.getLast hne, (List.dropLast_concat_getLast hne).symm⟩
    have hx := h x (by simp)
    have := msb_num' n b (by simpa using hl) (fun y hy => h y (by simp [hy]))
    rw [List.length_append, List.length_singleton, msb_snoc, num_snoc, show (2 * num b + x) / 2 = num b from by omega, show (2 * num b + x) % 2 = x from by omega, this]
theorem msb_num (a : List Nat) (h : ∀ x ∈ a, x < 2) : msb a.length (num a) = a := msb_num' _ a rfl h
theorem num_lt (a : List Nat) (h : ∀ x ∈ a, x < 2) : num a < 2 ^ a.length := by
  have := num_msb a.length (num a)
  rw [msb_num a h] at this
  rw [this]; exact Nat.mod_lt _ (Nat.pow_pos (by decide))
/-- A beginning of a code's bits. -/
theorem msb_take (n r k : Nat) (h : k ≤ n) : (msb n r).take k = msb k (r / 2 ^ (n - k)) := by
  induction n generalizing k with
  | zero => simp [show k = 0 from by omega, msb]
  | succ n ih =>
    cases k with
    | zero => rfl
    | succ k =>
      rw [msb, List.take_succ_cons, ih k (by omega), msb, Nat.div_div_eq_div_mul, ← Nat.pow_add, show n + 1 - (k + 1) + k = n from by omega, show n + 1 - (k + 1) = n - k from by omega]
/-! ### the bits of bytes -/
def bts (l : List UInt8) : List Nat := l.flatMap fun c => lsb 8 c.toNat
theorem bts_nil : bts [] = [] := rfl
theorem bts_cons (c : UInt8) (l : List UInt8) : bts (c :: l) = lsb 8 c.toNat ++ bts l := rfl
theorem bts_append (a b : List UInt8) : bts (a ++ b) = bts a ++ bts b := by simp [bts]
theorem bts_len (l : List UInt8) : (bts l).length = 8 * l.length := by
  induction l with
  | nil => rfl
  | cons c l ih => rw [bts_cons, List.length_append, lsb_len, ih, List.length_cons]; omega
theorem bts_lt (l : List UInt8) : ∀ x ∈ bts l, x < 2 := by
  intro x hx
  obtain ⟨c, _, h⟩ := List.mem_flatMap.1 hx
  exact lsb_lt _ _ x h
theorem bts_take (l : List UInt8) (j : Nat) : bts (l.take j) = (bts l).take (8 * j) := by
  induction l generalizing j with
  | nil => simp [bts_nil]
  | cons c l ih =>
    cases j with
    | zero => rfl
    | succ j => rw [List.take_succ_cons, bts_cons, bts_cons, ih, show 8 * (j + 1) = (lsb 8 c.toNat).length + 8 * j from by rw [lsb_len]; omega, List.take_length_add_append]
theorem b2_bts (l : List UInt8) : b2 (bts l) = le l := by
  induction l with
  | nil => rfl
  | cons c l ih =>
    rw [bts_cons, b2_append, b2_lsb, lsb_len, ih, le, Nat.mod_eq_of_lt (by have := c.toNat_lt; simpa using this)]; omega
/-- What a reader gets: so many bits from a place on. -/
theorem got_bits (l : List UInt8) (a n : Nat) : got (le l) a n = b2 (((bts l).drop a).take n) := by
  have hd : ∀ (B : List Nat) (k : Nat), (∀ x ∈ B, x < 2) → b2 (B.drop k) = b2 B / 2 ^ k := by
    intro B k hB
    induction k generalizing B with
    | zero => simp
    | succ k ih =>
      cases B with
      | nil => simp [b2]
      | cons x B =>
        have hx := hB x (by simp)
        rw [List.drop_succ_cons, ih B (fun y hy => hB y (by simp [hy])), b2, Nat.pow_succ, Nat.mul_comm (2 ^ k) 2, ← Nat.div_div_eq_div_mul, show (x + 2 * b2 B) / 2 = b2 B from by omega]
  have ht : ∀ (B : List Nat) (k : Nat), (∀ x ∈ B, x < 2) → b2 (B.take k) = b2 B % 2 ^ k := by
    intro B k hB
    induction k generalizing B with
    | zero => simp [b2, Nat.mod_one]
    | succ k ih =>
      cases B with
      | nil => simp [b2]
      | cons x B =>
        have hx := hB x (by simp)
        rw [List.take_succ_cons, b2, ih B (fun y hy => hB y (by simp [hy])), b2, Nat.pow_succ, Nat.mul_comm (2 ^ k) 2, Nat.mod_mul, show (x + 2 * b2 B) / 2 = b2 B from by omega]; omega
  rw [ht _ _ (fun x hx => bts_lt l x (List.mem_of_mem_drop hx)), hd _ _ (bts_lt l), b2_bts]; rfl
/-- The bytes of bits: these, and what fills the last one up. -/
def bys (B : List Nat) : List UInt8 := byt (b2 B) (byc B.length)
theorem bys_len (B : List Nat) : (bys B).length = (B.length + 7) / 8 := by unfold bys; rw [byt_len]; rfl
theorem bts_bys (B : List Nat) (h : ∀ x ∈ B, x < 2) : bts (bys B) = B ++ List.replicate (8 * ((B.length + 7) / 8) - B.length) 0 := by
  have hl : (bts (bys B)).length = B.length + (8 * ((B.length + 7) / 8) - B.length) := by rw [bts_len, bys_len]; omega
  refine b2_inj (bts_lt _) ?_ (by rw [hl]; simp) ?_
  · intro x hx
    rcases List.mem_append.1 hx with g | g
    · exact h x g
    · have := List.eq_of_mem_replicate g; omega
  · have hz : ∀ n, b2 (List.replicate n 0) = 0 := by
      intro n
      induction n with
      | zero => rfl
      | succ n ih => rw [List.replicate_succ, b2, ih]
    rw [b2_bts, b2_append, hz, Nat.zero_mul, Nat.add_zero]
    unfold bys
    rw [le_byt, Nat.mod_eq_of_lt (lt_byc _ _ (b2_lt B h))]

/-! ### what is read by codes that begin no other one -/
/-- No code begins another one's. -/
def PF (C : Nat → List Nat) : Prop := ∀ i j, i < 65 → j < 65 → C i ≠ [] → C i <+: C j → i = j
/-- Does class c's code stand ahead of B; does B begin a code? -/
def at1 (C : Nat → List Nat) (B : List Nat) (c : Nat) : Bool := decide (C c ≠ []) && (C c).isPrefixOf B
def beg (C : Nat → List Nat) (B : List Nat) : Bool := (List.range 65).any (fun c => decide (C c ≠ []) && B.isPrefixOf (C c))
def fnd (C : Nat → List Nat) (B : List Nat) : Option Nat := (List.range 65).find? (at1 C B)
theorem at1_iff (C : Nat → List Nat) (B : List Nat) (c : Nat) : at1 C B c = true ↔ C c ≠ [] ∧ C c <+: B := by
  unfold at1; rw [Bool.and_eq_true, decide_eq_true_eq, List.isPrefixOf_iff_prefix]
theorem beg_iff (C : Nat → List Nat) (B : List Nat) : beg C B = true ↔ ∃ c, c < 65 ∧ C c ≠ [] ∧ B <+: C c := by
  unfold beg; rw [List.any_eq_true]
  constructor
  · rintro ⟨c, hc, h⟩
    rw [Bool.and_eq_true, decide_eq_true_eq, List.isPrefixOf_iff_prefix] at h
    exact ⟨c, by simpa using hc, h⟩
  · rintro ⟨c, hc, h1, h2⟩
    exact ⟨c, by simpa using hc, by rw [Bool.and_eq_true, decide_eq_true_eq, List.isPrefixOf_iff_prefix]; exact ⟨h1, h2⟩⟩
theorem fnd_some {C : Nat → List Nat} {B : List Nat} {c : Nat} (h : fnd C B = some c) : c < 65 ∧ C c ≠ [] ∧ C c <+: B := by
  unfold fnd at h
  have h1 := List.find?_some h
  have h2 := List.mem_of_find?_eq_some h
  exact ⟨by simpa using h2, (at1_iff C B c).1 h1⟩
theorem fnd_none {C : Nat → List Nat} {B : List Nat} (h : fnd C B = none) (c : Nat) (hc : c < 65) (h0 : C c ≠ []) : ¬ C c <+: B := by
  unfold fnd at h
  rw [List.find?_eq_none] at h
  exact fun g => h c (by simpa using hc) ((at1_iff C B c).2 ⟨h0, g⟩)
/-- It is the one whose code stands there. -/
theorem fnd_of {C : Nat → List Nat} (pf : PF C) {B : List Nat} {c : Nat} (hc : c < 65) (h0 : C c ≠ []) (h : C c <+: B) : fnd C B = some c := by
  cases hf : fnd C B with
  | none => exact absurd h (fnd_none hf c hc h0)
  | some d =>
    obtain ⟨d1, d2, d3⟩ := fnd_some hf
    rcases Nat.le_total (C c).length (C d).length with g | g
    · rw [pf c d hc d1 h0 (List.prefix_of_prefix_length_le h d3 g)]
    · rw [pf d c d1 hc d2 (List.prefix_of_prefix_length_le d3 h g)]
/-- One class: 0 and the class, what is left; or the error. -/
def one (C : Nat → List Nat) (B : List Nat) : Nat × Nat × List Nat :=
  match fnd C B with
  | some c => (0, c, B.drop (C c).length)
  | none => if B = [] ∨ beg C B = true then (2, 0, []) else (3, 0, [])
theorem one_code {C : Nat → List Nat} (pf : PF C) (c : Nat) (hc : c < 65) (h0 : C c ≠ []) (R : List Nat) : one C (C c ++ R) = (0, c, R) := by
  unfold one
  rw [fnd_of pf hc h0 (List.prefix_append _ _)]
  simp
theorem one_cut {C : Nat → List Nat} (pf : PF C) (c : Nat) (hc : c < 65) (h0 : C c ≠ []) (k : Nat) (hk : k < (C c).length) : one C ((C c).take k) = (2, 0, []) := by
  have hp : (C c).take k <+: C c := List.take_prefix _ _
  have hn : fnd C ((C c).take k) = none := by
    cases hf : fnd C ((C c).take k) with
    | none => rfl
    | some d =>
      obtain ⟨d1, d2, d3⟩ := fnd_some hf
      have e := pf d c d1 hc d2 (d3.trans hp)
      subst e
      have := d3.length_le
      rw [List.length_take] at this
      omega
  unfold one
  rw [hn]
  simp only
  rw [if_pos (.inr ((beg_iff C _).2 ⟨c, hc, h0, hp⟩))]
/-- Bit by bit: k bits came, and no code is among them; they begin one. -/
theorem one_next {C : Nat → List Nat} {B : List Nat} {k : Nat} (hn : ∀ c, c < 65 → C c ≠ [] → ∀ j, j ≤ k → C c ≠ B.take j) (c : Nat) (hc : c < 65) (h0 : C c ≠ []) (e : C c = B.take (k + 1)) (pf : PF C) : one C B = (0, c, B.drop (k + 1)) := by
  have hp : C c <+: B := by rw [e]; exact List.take_prefix _ _
  have hl : (C c).length = k + 1 := by
    have h1 : (C c).length = min (k + 1) B.length := by rw [e, List.length_take]
    rcases Nat.lt_or_ge k B.length with h | h
    · omega
    · exfalso
      refine hn c hc h0 k (Nat.le_refl _) ?_
      rw [e, List.take_of_length_le (by omega), List.take_of_length_le (by omega)]
  unfold one
  rw [fnd_of pf hc h0 hp]
  simp only [hl]
theorem one_end {C : Nat → List Nat} {B : List Nat} (hn : ∀ c, c < 65 → C c ≠ [] → ∀ j, j ≤ B.length → C c ≠ B.take j) (hb : B = [] ∨ beg C B = true) : one C B = (2, 0, []) := by
  have hf : fnd C B = none := by
    cases hf : fnd C B with
    | none => rfl
    | some d =>
      obtain ⟨d1, d2, d3⟩ := fnd_some hf
      exact absurd (List.prefix_iff_eq_take.1 d3) (hn d d1 d2 _ d3.length_le)
  unfold one
  rw [hf]; simp only; rw [if_pos hb]
theorem one_bad {C : Nat → List Nat} {B : List Nat} {k : Nat} (hn : ∀ c, c < 65 → C c ≠ [] → ∀ j, j ≤ k → C c ≠ B.take j) (hk : k < B.length) (hb : beg C (B.take (k + 1)) = false) : one C B = (3, 0, []) := by
  have hno : ∀ d, d < 65 → C d ≠ [] → ¬ B.take (k + 1) <+: C d := fun d h1 h2 h3 => by
    rw [(beg_iff C _).2 ⟨d, h1, h2, h3⟩] at hb; cases hb
  have hf : fnd C B = none := by
    cases hf : fnd C B with
    | none => rfl
    | some d =>
      obtain ⟨d1, d2, d3⟩ := fnd_some hf
      rcases Nat.lt_or_ge k (C d).length with g | g
      · refine absurd ?_ (hno d d1 d2)
        exact List.prefix_of_prefix_length_le (List.take_prefix _ _) d3 (by rw [List.length_take]; omega)
      · exact absurd (List.prefix_iff_eq_take.1 d3) (hn d d1 d2 _ g)
  unfold one
  rw [hf]; simp only
  rw [if_neg]
  rintro (h | h)
  · rw [h] at hk; simp at hk
  · obtain ⟨d, d1, d2, d3⟩ := (beg_iff C B).1 h
    exact hno d d1 d2 ((List.take_prefix _ _).trans d3)
/-! ### parts: a code, and the rest -/
def ptB (C : Nat → List Nat) (p : Nat × Nat) : List Nat := C p.1 ++ lsb (p.1 - 1) p.2
def psB (C : Nat → List Nat) (ps : List (Nat × Nat)) : List Nat := ps.flatMap (ptB C)
/-- Has a part a code, and is its rest one that may be? -/
def okP (C : Nat → List Nat) (p : Nat × Nat) : Prop := p.1 < 65 ∧ C p.1 ≠ [] ∧ p.2 < 2 ^ (p.1 - 1)
/-- So many parts: the error, the parts, what is left. -/
def rdP (C : Nat → List Nat) : Nat → List Nat → Nat × List (Nat × Nat) × List Nat
  | 0, B => (0, [], B)
  | n + 1, B =>
    if (one C B).1 ≠ 0 then ((one C B).1, [], [])
    else if (one C B).2.2.length < (one C B).2.1 - 1 then (2, [], [])
    else
      let g := rdP C n ((one C B).2.2.drop ((one C B).2.1 - 1))
      if g.1 ≠ 0 then (g.1, [], []) else (0, ((one C B).2.1, b2 ((one C B).2.2.take ((one C B).2.1 - 1))) :: g.2.1, g.2.2)
theorem rdP_put {C : Nat → List Nat} (pf : PF C) (R : List Nat) : ∀ ps : List (Nat × Nat), (∀ p ∈ ps, okP C p) → rdP C ps.length (psB C ps ++ R) = (0, ps, R)
  | [], _ => rfl
  | p :: ps, h => by
    obtain ⟨h1, h2, h3⟩ := h p (by simp)
    have ih := rdP_put pf R ps (fun q hq => h q (by simp [hq]))
    have e : psB C (p :: ps) ++ R = C p.1 ++ (lsb (p.1 - 1) p.2 ++ (psB C ps ++ R)) := by simp [psB, ptB]
    have o := one_code pf p.1 h1 h2 (lsb (p.1 - 1) p.2 ++ (psB C ps ++ R))
    have hd : (lsb (p.1 - 1) p.2 ++ (psB C ps ++ R)).drop (p.1 - 1) = psB C ps ++ R := List.drop_left' (lsb_len _ _)
    have ht : (lsb (p.1 - 1) p.2 ++ (psB C ps ++ R)).take (p.1 - 1) = lsb (p.1 - 1) p.2 := List.take_left' (lsb_len _ _)
    rw [e, List.length_cons, rdP, o]
    simp only [hd, ht, ih, b2_lsb, Nat.mod_eq_of_lt h3, ne_eq, not_true_eq_false, if_false]
    rw [if_neg (by rw [List.length_append, lsb_len]; omega)]
/-- Cut ahead of the end more is needed. -/
theorem rdP_cut {C : Nat → List Nat} (pf : PF C) : ∀ (ps : List (Nat × Nat)) (k : Nat), (∀ p ∈ ps, okP C p) → k < (psB C ps).length → (rdP C ps.length ((psB C ps).take k)).1 = 2
  | [], k, _, hk => by simp [psB] at hk
  | p :: ps, k, h, hk => by
    obtain ⟨h1, h2, h3⟩ := h p (by simp)
    have e : psB C (p :: ps) = C p.1 ++ (lsb (p.1 - 1) p.2 ++ psB C ps) := by simp [psB, ptB]
    rw [e] at hk ⊢
    rw [List.length_cons, rdP]
    by_cases hc : k < (C p.1).length
    · rw [List.take_append_of_le_length (by omega), one_cut pf p.1 h1 h2 k hc]; rfl
    · obtain ⟨m, rfl⟩ : ∃ m, k = (C p.1).length + m := ⟨k - (C p.1).length, by omega⟩
      rw [List.take_length_add_append, one_code pf p.1 h1 h2]
      simp only [ne_eq, not_true_eq_false, if_false]
      by_cases hm : m < p.1 - 1
      · rw [if_pos (by rw [List.length_take]; omega)]
      · obtain ⟨q, rfl⟩ : ∃ q, m = (lsb (p.1 - 1) p.2).length + q := ⟨m - (p.1 - 1), by rw [lsb_len]; omega⟩
        have hq : q < (psB C ps).length := by simp only [List.length_append] at hk; omega
        have ih := rdP_cut pf ps q (fun r hr => h r (by simp [hr])) hq
        rw [List.take_length_add_append, if_neg (by rw [List.length_append, lsb_len]; omega), List.drop_left' (lsb_len _ _), if_pos (by rw [ih]; decide)]
        exact ih
end Go.Proofs.Ytlkebkchbgpnpaa
