/-
  Laid ahead for layer 14 (in no claim): parts read by states, numbers in a row of bits: plain lists; each condition stands at its theorem.
-/
import Derived.Test.YtofclflcicjlaaaGreatSm
namespace Go.Proofs.YtofclflcicjlaaaGreat
open Go.ChangeShapes Go.WideShapes Go.ChangeAt Go.RowKit
open Go.ChangeMaps (open_string shut_string)


/-- The first k bytes of a number, the lowest first. -/
def byt (N k : Nat) : List UInt8 := (List.range k).map fun i => UInt8.ofNat (N / 256 ^ i % 256)
theorem byt_len (N k : Nat) : (byt N k).length = k := by simp [byt]
/-- The number of bytes, the lowest first. -/
def le : List UInt8 → Nat
  | [] => 0
  | c :: l => c.toNat + 256 * le l

/-- The number of bytes in which so many bits lie. -/
def byc (sz : Nat) : Nat := (sz + 7) / 8

theorem pow256 (k : Nat) : (256 : Nat) ^ k = 2 ^ (8 * k) := by rw [Nat.pow_mul]

theorem pow_le_of {a b : Nat} (h : a ≤ b) : 2 ^ a ≤ 2 ^ b := Nat.pow_le_pow_right (by decide) h
/-- Putting in two is putting in one. -/
theorem put_two (v r m : Nat) : v % 2 ^ (r + m) = v % 2 ^ r + v / 2 ^ r % 2 ^ m * 2 ^ r := by
  rw [Nat.pow_add, Nat.mod_mul, Nat.mul_comm (2 ^ r)]

/-- What is got: n bits from the place a on. -/
def got (X a n : Nat) : Nat := X / 2 ^ a % 2 ^ n
theorem got_lt (X a n : Nat) : got X a n < 2 ^ n := Nat.mod_lt _ (Nat.pow_pos (by decide))
theorem got_zero (X a : Nat) : got X a 0 = 0 := by simp [got, Nat.mod_one]
theorem add_div (N x a : Nat) (h : 0 < a) : (N + x * a) / a = N / a + x := Nat.add_mul_div_right _ _ h
/-- What was put is got: behind N of sz bits. -/
theorem got_put (N sz v k R : Nat) (h : N < 2 ^ sz) : got (N + v % 2 ^ k * 2 ^ sz + R * 2 ^ (sz + k)) sz k = v % 2 ^ k := by
  unfold got
  have e : N + v % 2 ^ k * 2 ^ sz + R * 2 ^ (sz + k) = N + (v % 2 ^ k + R * 2 ^ k) * 2 ^ sz := by
    rw [Nat.add_mul, Nat.add_assoc, Nat.mul_assoc R, ← Nat.pow_add, Nat.add_comm k]
  rw [e, add_div _ _ _ (Nat.pow_pos (by decide)), Nat.div_eq_of_lt h, Nat.zero_add, Nat.add_mul_mod_self_right, Nat.mod_mod]


/-- How many bits the first i numbers take; the number that they make in a row. -/
def szs (K : Nat → Nat) : Nat → Nat
  | 0 => 0
  | i + 1 => szs K i + K i
def num (X K : Nat → Nat) : Nat → Nat
  | 0 => 0
  | i + 1 => num X K i + X i % 2 ^ K i * 2 ^ szs K i
theorem szs_mono (K : Nat → Nat) (i d : Nat) : szs K i ≤ szs K (i + d) := by
  induction d with
  | zero => exact Nat.le_refl _
  | succ d ih => rw [← Nat.add_assoc, szs]; omega
theorem put_lt (N sz v n : Nat) (h : N < 2 ^ sz) : N + v % 2 ^ n * 2 ^ sz < 2 ^ (sz + n) := by
  have h1 : v % 2 ^ n < 2 ^ n := Nat.mod_lt _ (Nat.pow_pos (by decide))
  have h2 : (v % 2 ^ n + 1) * 2 ^ sz ≤ 2 ^ n * 2 ^ sz := Nat.mul_le_mul_right _ h1
  rw [Nat.add_mul] at h2
  rw [Nat.pow_add, Nat.mul_comm (2 ^ sz)]
  omega
theorem num_lt (X K : Nat → Nat) (i : Nat) : num X K i < 2 ^ szs K i := by
  induction i with
  | zero => simp [num, szs]
  | succ i ih => rw [num, szs]; exact put_lt _ _ _ _ ih
theorem num_split (X K : Nat → Nat) (i d : Nat) : ∃ R, num X K (i + 1 + d) = num X K i + X i % 2 ^ K i * 2 ^ szs K i + R * 2 ^ (szs K i + K i) := by
  induction d with
  | zero => exact ⟨0, by rw [Nat.add_zero, num]; omega⟩
  | succ d ih =>
    obtain ⟨R, hR⟩ := ih
    have hm : szs K (i + 1) ≤ szs K (i + 1 + d) := szs_mono K (i + 1) d
    rw [szs] at hm
    refine ⟨R + X (i + 1 + d) % 2 ^ K (i + 1 + d) * 2 ^ (szs K (i + 1 + d) - (szs K i + K i)), ?_⟩
    rw [← Nat.add_assoc, num, hR, Nat.add_mul, ← Nat.add_assoc, Nat.mul_assoc (X (i + 1 + d) % _), ← Nat.pow_add, Nat.sub_add_cancel hm]

/-- The row of the first m numbers, and the mark behind them, as a number. -/
def mk (X K : Nat → Nat) (m : Nat) : Nat := num X K m + 2 ^ szs K m
/-- What was put is got, also with the mark behind it. -/
theorem got_mk (X K : Nat → Nat) (m i : Nat) (h : i < m) : got (mk X K m) (szs K i) (K i) = X i % 2 ^ K i := by
  obtain ⟨d, rfl⟩ : ∃ d, m = i + 1 + d := ⟨m - i - 1, by omega⟩
  obtain ⟨R, hR⟩ := num_split X K i d
  have hm : szs K (i + 1) ≤ szs K (i + 1 + d) := szs_mono K (i + 1) d
  rw [szs] at hm
  have e : mk X K (i + 1 + d) = num X K i + X i % 2 ^ K i * 2 ^ szs K i + (R + 2 ^ (szs K (i + 1 + d) - (szs K i + K i))) * 2 ^ (szs K i + K i) := by
    unfold mk
    rw [hR, Nat.add_mul, ← Nat.add_assoc, ← Nat.pow_add, Nat.sub_add_cancel hm]
  rw [e]
  exact got_put _ _ _ _ _ (num_lt X K i)


/-! ### parts read by states -/
theorem got_num (X K : Nat → Nat) (m i : Nat) (h : i < m) : got (num X K m) (szs K i) (K i) = X i % 2 ^ K i := by
  obtain ⟨d, rfl⟩ : ∃ d, m = i + 1 + d := ⟨m - i - 1, by omega⟩
  obtain ⟨R, hR⟩ := num_split X K i d
  rw [hR]
  exact got_put _ _ _ _ _ (num_lt X K i)
/-- What is read, part by part: the state, the bits left at the end, the rests' place. -/
def gS (K : Nat) (L cs : List Nat) (T R rs : Nat) : Nat → Nat → Nat → Nat → List (Nat × Nat) → Option (List (Nat × Nat) × Nat × Nat × Nat)
  | 0, x, a, r, acc => some (acc, x, a, r)
  | n + 1, x, a, r, acc =>
    if a < (cel K L cs x).2.1 ∨ rs - r < (cel K L cs x).1 - 1 then none
    else gS K L cs T R rs n ((cel K L cs x).2.2 + got T (a - (cel K L cs x).2.1) (cel K L cs x).2.1) (a - (cel K L cs x).2.1) (r + ((cel K L cs x).1 - 1)) (acc ++ [((cel K L cs x).1, got R r ((cel K L cs x).1 - 1))])
theorem gS_no {K : Nat} {L cs : List Nat} {T R rs n x a r : Nat} {acc : List (Nat × Nat)} {c b e : Nat} (hc : cel K L cs x = (c, b, e)) (h : a < b ∨ rs - r < c - 1) : gS K L cs T R rs (n + 1) x a r acc = none := by
  simp only [gS, hc]
  rw [if_pos h]
theorem gS_yes {K : Nat} {L cs : List Nat} {T R rs n x a r : Nat} {acc : List (Nat × Nat)} {c b e : Nat} (hc : cel K L cs x = (c, b, e)) (h1 : b ≤ a) (h2 : c - 1 ≤ rs - r) :
    gS K L cs T R rs (n + 1) x a r acc = gS K L cs T R rs n (e + got T (a - b) b) (a - b) (r + (c - 1)) (acc ++ [(c, got R r (c - 1))]) := by
  simp only [gS, hc]
  rw [if_neg (by omega)]
/-- The list's numbers and their bits, by place. -/
def vX (V : List (Nat × Nat)) (i : Nat) : Nat := (V.getD i (0, 0)).1
def vK (V : List (Nat × Nat)) (i : Nat) : Nat := (V.getD i (0, 0)).2
/-- What is sealed: the values, and the state. -/
def allV (K : Nat) (L cs : List Nat) (l : List Nat) : List (Nat × Nat) := vls K L cs l ++ [(sts K L cs l, K)]
/-- The rests of parts, by place. -/
def rstV (P : List (Nat × Nat)) : List (Nat × Nat) := P.map fun p => (p.2, p.1 - 1)
theorem rst_at (P : List (Nat × Nat)) (i : Nat) (h : i < P.length) : vX (rstV P) i = (P.getD i (0, 0)).2 ∧ vK (rstV P) i = (P.getD i (0, 0)).1 - 1 := by
  unfold vX vK rstV
  rw [List.getD_eq_getElem?_getD, List.getD_eq_getElem?_getD, List.getElem?_map, List.getElem?_eq_getElem h]
  exact ⟨rfl, rfl⟩
theorem vls_pre (K : Nat) (L cs : List Nat) (l : List Nat) : ∀ i, i ≤ l.length → ∃ t, vls K L cs l = vls K L cs (l.drop i) ++ t := by
  induction l with
  | nil => intro i _; exact ⟨[], by simp [vls]⟩
  | cons c l ih =>
    intro i hi
    cases i with
    | zero => exact ⟨[], by simp⟩
    | succ i =>
      obtain ⟨t, ht⟩ := ih i (by simpa using hi)
      obtain ⟨q, hq⟩ : ∃ q, vls K L cs (c :: l) = vls K L cs l ++ [q] := ⟨_, rfl⟩
      exact ⟨t ++ [q], by rw [hq, List.drop_succ_cons, ht, List.append_assoc]⟩
theorem all_at {K : Nat} {L cs : List Nat} (l : List Nat) (i : Nat) (hi : i ≤ l.length) (j : Nat) (hj : j < (l.drop i).length) : (allV K L cs l).getD j (0, 0) = (vls K L cs (l.drop i)).getD j (0, 0) := by
  obtain ⟨t, ht⟩ := vls_pre K L cs l i hi
  unfold allV
  rw [ht, List.append_assoc, List.getD_eq_getElem?_getD, List.getD_eq_getElem?_getD, List.getElem?_append_left (by rw [vls_len]; exact hj)]
theorem all_len (K : Nat) (L cs : List Nat) (l : List Nat) : (allV K L cs l).length = l.length + 1 := by simp [allV, vls_len]
theorem all_last (K : Nat) (L cs : List Nat) (l : List Nat) : vX (allV K L cs l) l.length = sts K L cs l ∧ vK (allV K L cs l) l.length = K := by
  unfold vX vK allV
  rw [List.getD_eq_getElem?_getD, List.getElem?_append_right (by rw [vls_len]; exact Nat.le_refl _), vls_len, Nat.sub_self]
  exact ⟨rfl, rfl⟩
/-- One part, ahead of which the state is that of the list from it on. -/
theorem one_step {K : Nat} {L cs : List Nat} (h : Spd K L cs) (P : List (Nat × Nat)) (hP : ∀ p ∈ P, 0 < g L p.1) (i : Nat) (p : Nat × Nat) (l' : List (Nat × Nat)) (hd : P.drop i = p :: l') :
    ∃ b e v, cel K L cs (sts K L cs ((p :: l').map Prod.fst)) = (p.1, b, e) ∧ e + v = sts K L cs (l'.map Prod.fst) ∧ szs (vK (allV K L cs (P.map Prod.fst))) (l'.length + 1) = szs (vK (allV K L cs (P.map Prod.fst))) l'.length + b ∧
      got (mk (vX (allV K L cs (P.map Prod.fst))) (vK (allV K L cs (P.map Prod.fst))) (P.length + 1)) (szs (vK (allV K L cs (P.map Prod.fst))) l'.length) b = v := by
  have hi : i < P.length := by
    rcases Nat.lt_or_ge i P.length with e | e
    · exact e
    · rw [List.drop_of_length_le e] at hd; cases hd
  have hl : (p :: l').length = P.length - i := by rw [← hd, List.length_drop]
  simp only [List.length_cons] at hl
  have hm : ∀ d ∈ ((p :: l').map Prod.fst), 0 < g L d := fun d hd' => by
    obtain ⟨q, hq, rfl⟩ := List.mem_map.1 hd'
    rw [← hd] at hq
    exact hP q (List.mem_of_mem_drop hq)
  obtain ⟨b, e, v, h1, h2, h3, h4, h5⟩ := sts_step h p.1 (l'.map Prod.fst) hm
  have hdm : (P.map Prod.fst).drop i = (p :: l').map Prod.fst := by rw [← List.map_drop, hd]
  have ha := all_at (K := K) (L := L) (cs := cs) (P.map Prod.fst) i (by rw [List.length_map]; omega) l'.length (by rw [hdm]; simp)
  rw [hdm] at ha
  have hv : (vls K L cs ((p :: l').map Prod.fst)).getD l'.length (0, 0) = (v, b) := by
    rw [List.map_cons, h2, List.getD_eq_getElem?_getD, List.getElem?_append_right (by rw [vls_len]; simp), vls_len]
    simp
  rw [hv] at ha
  have kx : vX (allV K L cs (P.map Prod.fst)) l'.length = v := by unfold vX; rw [ha]
  have kk : vK (allV K L cs (P.map Prod.fst)) l'.length = b := by unfold vK; rw [ha]
  refine ⟨b, e, v, h1, h3, by rw [szs, kk], ?_⟩
  have := got_mk (vX (allV K L cs (P.map Prod.fst))) (vK (allV K L cs (P.map Prod.fst))) (P.length + 1) l'.length (by omega)
  rw [kk, kx, Nat.mod_eq_of_lt h4] at this
  exact this
/-- Parts are read as they were put. -/
theorem gS_back {K : Nat} {L cs : List Nat} (h : Spd K L cs) (P : List (Nat × Nat)) (hP : ∀ p ∈ P, 0 < g L p.1) (hr : ∀ p ∈ P, p.2 < 2 ^ (p.1 - 1)) (R rs : Nat) (hR : R = num (vX (rstV P)) (vK (rstV P)) P.length) (hrs : szs (vK (rstV P)) P.length ≤ rs) :
    ∀ (l : List (Nat × Nat)) (i : Nat) (acc : List (Nat × Nat)), i + l.length = P.length → P.drop i = l →
      gS K L cs (mk (vX (allV K L cs (P.map Prod.fst))) (vK (allV K L cs (P.map Prod.fst))) (P.length + 1)) R rs l.length (sts K L cs (l.map Prod.fst)) (szs (vK (allV K L cs (P.map Prod.fst))) l.length) (szs (vK (rstV P)) i) acc =
        some (acc ++ l, 0, 0, szs (vK (rstV P)) P.length) := by
  intro l
  induction l with
  | nil =>
    intro i acc hi hd
    simp only [List.length_nil, Nat.add_zero] at hi
    subst hi
    simp [gS, sts, szs]
  | cons p l ih =>
    intro i acc hi hd
    simp only [List.length_cons] at hi
    obtain ⟨b, e, v, h1, h2, h3, h4⟩ := one_step h P hP i p l hd
    have him : i < P.length := by omega
    have hp : P.getD i (0, 0) = p := by
      have : P[i]? = some p := by
        have := congrArg (fun q => q[0]?) hd
        simpa using this
      rw [List.getD_eq_getElem?_getD, this]; rfl
    have hpm : p ∈ P := by
      have : p ∈ P.drop i := by rw [hd]; simp
      exact List.mem_of_mem_drop this
    obtain ⟨r1, r2⟩ := rst_at P i him
    rw [hp] at r1 r2
    have hs : szs (vK (rstV P)) (i + 1) = szs (vK (rstV P)) i + (p.1 - 1) := by rw [szs, r2]
    have hmono := szs_mono (vK (rstV P)) (i + 1) l.length
    rw [show i + 1 + l.length = P.length from by omega] at hmono
    have hg : got R (szs (vK (rstV P)) i) (p.1 - 1) = p.2 := by
      rw [hR]
      have := got_num (vX (rstV P)) (vK (rstV P)) P.length i him
      rw [r1, r2, Nat.mod_eq_of_lt (hr p hpm)] at this
      exact this
    rw [List.length_cons, gS_yes h1 (by rw [h3]; omega) (by omega), h3, Nat.add_sub_cancel, h4, h2, hg, ← hs]
    have := ih (i + 1) (acc ++ [(p.1, p.2)]) (by omega) (by rw [← List.drop_drop, hd]; rfl)
    rw [this, List.append_assoc]
    rfl
/-- Of rests that are cut not all parts are read. -/
theorem gS_cut {K : Nat} {L cs : List Nat} (h : Spd K L cs) (P : List (Nat × Nat)) (hP : ∀ p ∈ P, 0 < g L p.1) (R rs : Nat) (hrs : rs < szs (vK (rstV P)) P.length) :
    ∀ (l : List (Nat × Nat)) (i : Nat) (acc : List (Nat × Nat)), i + l.length = P.length → P.drop i = l → szs (vK (rstV P)) i ≤ rs →
      gS K L cs (mk (vX (allV K L cs (P.map Prod.fst))) (vK (allV K L cs (P.map Prod.fst))) (P.length + 1)) R rs l.length (sts K L cs (l.map Prod.fst)) (szs (vK (allV K L cs (P.map Prod.fst))) l.length) (szs (vK (rstV P)) i) acc = none := by
  intro l
  induction l with
  | nil =>
    intro i acc hi hd hle
    simp only [List.length_nil, Nat.add_zero] at hi
    subst hi
    omega
  | cons p l ih =>
    intro i acc hi hd hle
    simp only [List.length_cons] at hi
    obtain ⟨b, e, v, h1, h2, h3, h4⟩ := one_step h P hP i p l hd
    have him : i < P.length := by omega
    have hp : P.getD i (0, 0) = p := by
      have : P[i]? = some p := by
        have := congrArg (fun q => q[0]?) hd
        simpa using this
      rw [List.getD_eq_getElem?_getD, this]; rfl
    obtain ⟨r1, r2⟩ := rst_at P i him
    rw [hp] at r1 r2
    have hs : szs (vK (rstV P)) (i + 1) = szs (vK (rstV P)) i + (p.1 - 1) := by rw [szs, r2]
    by_cases hc : rs - szs (vK (rstV P)) i < p.1 - 1
    · rw [List.length_cons, gS_no h1 (.inr hc)]
    · rw [List.length_cons, gS_yes h1 (by rw [h3]; omega) (by omega), h3, Nat.add_sub_cancel, h4, h2, ← hs]
      exact ih (i + 1) _ (by omega) (by rw [← List.drop_drop, hd]; rfl) (by omega)
/-- From the first place one comes further only with bits, but of one class alone. -/
theorem gS_more {K : Nat} {L cs : List Nat} (h : Spd K L cs) (T R rs n r : Nat) (acc : List (Nat × Nat)) (hs : ∀ c, g L c < 2 ^ K) : gS K L cs T R rs (n + 1) 0 0 r acc = none := by
  obtain ⟨c, b, e, hcel, hg, hc, hb, he, hbt, -⟩ := cel_bd h 0 (Nat.two_pow_pos K)
  refine gS_no hcel (.inl ?_)
  simp only [List.take_zero, List.count_nil, Nat.add_zero] at hbt
  have h0 : 0 < g L c := by
    have := (spd_lt h (g_mem cs 0 (by rw [h.all]; exact Nat.two_pow_pos K))).2
    rw [hg] at this; exact this
  have hl := (Nat.log2_lt (by omega : g L c ≠ 0)).2 (hs c)
  rw [hbt]; unfold bts
  omega
end Go.Proofs.YtofclflcicjlaaaGreat
