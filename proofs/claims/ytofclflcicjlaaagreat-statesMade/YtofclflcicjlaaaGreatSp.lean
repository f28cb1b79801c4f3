/-
  Places of a table, its cells, and the states that are reached: plain lists; each condition stands at its theorem.
-/
import Derived.Test.YtofclflcicjlaaaGreatRn
import Derived.Test.YtofclflcicjlaaaGreatSh
namespace Go.Proofs.YtofclflcicjlaaaGreat
open Go.ChangeShapes Go.WideShapes Go.ChangeAt Go.RowKit
open Go.ChangeMaps (open_string shut_string)

/-- Of the halves of a number from n on there is one between n and less than twice n, and no other one. -/
theorem one_half (n : Nat) (hn : 0 < n) : ∀ y, n ≤ y → ∃ j, (n ≤ y / 2 ^ j ∧ y / 2 ^ j < 2 * n) ∧ ∀ i, n ≤ y / 2 ^ i → y / 2 ^ i < 2 * n → i = j := by
  intro y
  induction y using Nat.strongRecOn with
  | ind y ih =>
    intro hy
    by_cases h : y < 2 * n
    · refine ⟨0, ⟨by simpa using hy, by simpa using h⟩, fun i h1 h2 => ?_⟩
      cases i with
      | zero => rfl
      | succ i =>
        rw [Nat.pow_succ', ← Nat.div_div_eq_div_mul] at h1
        have : y / 2 / 2 ^ i ≤ y / 2 := Nat.div_le_self _ _
        omega
    · obtain ⟨j, ⟨a, b⟩, u⟩ := ih (y / 2) (by omega) (by omega)
      refine ⟨j + 1, ⟨?_, ?_⟩, fun i h1 h2 => ?_⟩
      · rw [Nat.pow_succ', ← Nat.div_div_eq_div_mul]; exact a
      · rw [Nat.pow_succ', ← Nat.div_div_eq_div_mul]; exact b
      · cases i with
        | zero => simp at h2; omega
        | succ i =>
          rw [Nat.pow_succ', ← Nat.div_div_eq_div_mul] at h1 h2
          rw [u i h1 h2]
/-- A number of k + 1 bits, j of them dropped: as many bits as are left. -/
theorem bits_left (k y j x : Nat) (h1 : 2 ^ k ≤ y) (h2 : y < 2 ^ (k + 1)) (hx : y / 2 ^ j = x) (h0 : 0 < x) : j ≤ k ∧ 2 ^ (k - j) ≤ x ∧ x < 2 ^ (k - j + 1) := by
  have hp : 0 < 2 ^ j := Nat.two_pow_pos j
  have hj : j ≤ k := by
    rcases Nat.lt_or_ge k j with h | h
    · have : 2 ^ (k + 1) ≤ 2 ^ j := Nat.pow_le_pow_right (by omega) h
      rw [Nat.div_eq_of_lt (by omega)] at hx; omega
    · exact h
  refine ⟨hj, ?_, ?_⟩
  · rw [← hx, Nat.le_div_iff_mul_le hp, ← Nat.pow_add, Nat.sub_add_cancel hj]; exact h1
  · rw [← hx, Nat.div_lt_iff_lt_mul hp, ← Nat.pow_add, show k - j + 1 + j = k + 1 from by omega]; exact h2
/-- How far one place stands behind the one ahead. -/
def stp (k : Nat) : Nat := 2 ^ k / 2 + 2 ^ k / 8 + 3
def inv : Nat → Nat
  | 7 => 91 | 8 => 11 | 9 => 363 | 10 => 43 | 11 => 1451 | _ => 171
theorem stp_inv (k : Nat) (h7 : 7 ≤ k) (h12 : k ≤ 12) : stp k * inv k % 2 ^ k = 1 := by
  rcases (by omega : k = 7 ∨ k = 8 ∨ k = 9 ∨ k = 10 ∨ k = 11 ∨ k = 12) with rfl | rfl | rfl | rfl | rfl | rfl <;> decide
def plc (k i : Nat) : Nat := i * stp k % 2 ^ k
theorem plc_lt (k i : Nat) : plc k i < 2 ^ k := Nat.mod_lt _ (Nat.two_pow_pos k)
theorem plc_next (k i : Nat) : (plc k i + stp k) % 2 ^ k = plc k (i + 1) := by
  unfold plc; rw [Nat.mod_add_mod, Nat.succ_mul]
theorem plc_end (k : Nat) : plc k (2 ^ k) = 0 := by unfold plc; rw [Nat.mul_mod_right]
theorem plc_back (k : Nat) (h7 : 7 ≤ k) (h12 : k ≤ 12) (i : Nat) (hi : i < 2 ^ k) : plc k i * inv k % 2 ^ k = i := by
  unfold plc
  rw [Nat.mod_mul_mod, Nat.mul_assoc, Nat.mul_mod, stp_inv k h7 h12, Nat.mul_one, Nat.mod_mod, Nat.mod_eq_of_lt hi]
theorem plc_inj (k : Nat) (h7 : 7 ≤ k) (h12 : k ≤ 12) {i j : Nat} (hi : i < 2 ^ k) (hj : j < 2 ^ k) (h : plc k i = plc k j) : i = j := by
  rw [← plc_back k h7 h12 i hi, h, plc_back k h7 h12 j hj]
theorem plc_on (k : Nat) (h7 : 7 ≤ k) (h12 : k ≤ 12) (p : Nat) (hp : p < 2 ^ k) : ∃ i, i < 2 ^ k ∧ plc k i = p := by
  refine ⟨p * inv k % 2 ^ k, Nat.mod_lt _ (Nat.two_pow_pos k), ?_⟩
  unfold plc
  rw [Nat.mod_mul_mod, Nat.mul_assoc, Nat.mul_comm (inv k), Nat.mul_mod, stp_inv k h7 h12, Nat.mul_one, Nat.mod_mod, Nat.mod_eq_of_lt hp]
/-- The places filled one by one, out of a row of d. -/
def fill (k d : Nat) (cl : List Nat) : Nat → List Nat
  | 0 => List.replicate (2 ^ k) d
  | m + 1 => (fill k d cl m).set (plc k m) (cl.getD m 0)
theorem fill_len (k d : Nat) (cl : List Nat) (m : Nat) : (fill k d cl m).length = 2 ^ k := by
  induction m with
  | zero => simp [fill]
  | succ m ih => simp [fill, ih]
theorem fill_get (k d : Nat) (h7 : 7 ≤ k) (h12 : k ≤ 12) (cl : List Nat) : ∀ m, m ≤ 2 ^ k → ∀ i, i < 2 ^ k → (fill k d cl m)[plc k i]? = some (if i < m then cl.getD i 0 else d) := by
  intro m
  induction m with
  | zero =>
    intro _ i _
    simp only [fill, Nat.not_lt_zero, if_false]
    rw [List.getElem?_replicate, if_pos (plc_lt k i)]
  | succ m ih =>
    intro hm i hi
    simp only [fill]
    by_cases h : i = m
    · subst h
      rw [List.getElem?_set_self (by rw [fill_len]; exact plc_lt k i), if_pos (by omega)]
    · rw [List.getElem?_set_ne (fun e => h (plc_inj k h7 h12 (by omega) hi e).symm), ih (by omega) i hi]
      by_cases h2 : i < m
      · rw [if_pos h2, if_pos (by omega)]
      · rw [if_neg h2, if_neg (by omega)]
/-- All places filled: what they were before is nothing to it. -/
theorem fill_any (k d e : Nat) (h7 : 7 ≤ k) (h12 : k ≤ 12) (cl : List Nat) : fill k d cl (2 ^ k) = fill k e cl (2 ^ k) := by
  apply List.ext_getElem?
  intro p
  by_cases hp : p < 2 ^ k
  · obtain ⟨i, hi, rfl⟩ := plc_on k h7 h12 p hp
    rw [fill_get k d h7 h12 cl _ (Nat.le_refl _) i hi, fill_get k e h7 h12 cl _ (Nat.le_refl _) i hi, if_pos hi, if_pos hi]
  · rw [List.getElem?_eq_none (by rw [fill_len]; omega), List.getElem?_eq_none (by rw [fill_len]; omega)]
theorem fill_count (k d : Nat) (h7 : 7 ≤ k) (h12 : k ≤ 12) (cl : List Nat) (c : Nat) (hc : c ≠ d) : ∀ m, m ≤ 2 ^ k → (fill k d cl m).count c = ((List.range m).map (fun i => cl.getD i 0)).count c := by
  intro m
  induction m with
  | zero => intro _; simp [fill, List.count_replicate, Ne.symm hc]
  | succ m ih =>
    intro hm
    have hg := fill_get k d h7 h12 cl m (by omega) m (by omega)
    rw [if_neg (by omega)] at hg
    have hl : plc k m < (fill k d cl m).length := by rw [fill_len]; exact plc_lt k m
    have hv : (fill k d cl m)[plc k m] = d := by rw [List.getElem?_eq_getElem hl] at hg; injection hg
    simp only [fill]
    rw [List.count_set hl, hv, ih (by omega), List.range_succ, List.map_append, List.count_append]
    have : (d == c) = false := by simp; exact fun e => hc e.symm
    simp [this, List.count_singleton]
/-- Each class stands at as many places as the list of classes holds it. -/
theorem fill_all (k : Nat) (h7 : 7 ≤ k) (h12 : k ≤ 12) (cl : List Nat) (hcl : cl.length = 2 ^ k) (c : Nat) : (fill k 0 cl (2 ^ k)).count c = cl.count c := by
  rw [fill_any k 0 (c + 1) h7 h12, fill_count k (c + 1) h7 h12 cl c (by omega) _ (Nat.le_refl _)]
  congr 1
  apply List.ext_getElem?
  intro i
  by_cases hi : i < 2 ^ k
  · rw [List.getElem?_map, List.getElem?_range hi, Option.map_some, List.getD_eq_getElem?_getD, List.getElem?_eq_getElem (by omega)]; rfl
  · rw [List.getElem?_eq_none (by simp; omega), List.getElem?_eq_none (by omega)]
/-- The classes in order, each as many times as is said. -/
def cls : Nat → List Nat → List Nat
  | _, [] => []
  | b, x :: l => List.replicate x b ++ cls (b + 1) l
theorem cls_len (l : List Nat) : ∀ b, (cls b l).length = l.sum := by
  induction l with
  | nil => intro b; rfl
  | cons x l ih => intro b; simp [cls, ih]
theorem cls_count (l : List Nat) : ∀ b c, (cls b l).count c = if b ≤ c then l.getD (c - b) 0 else 0 := by
  induction l with
  | nil => intro b c; simp [cls]
  | cons x l ih =>
    intro b c
    simp only [cls, List.count_append, List.count_replicate, ih]
    by_cases h : b = c
    · subst h
      simp [show ¬ b + 1 ≤ b from by omega]
    · have e : (b == c) = false := by simpa using h
      by_cases h2 : b ≤ c
      · simp only [e, show b + 1 ≤ c from by omega, h2, if_true]
        rw [show c - b = (c - (b + 1)) + 1 from by omega]
        simp
      · simp only [e, show ¬ b + 1 ≤ c from by omega, h2, if_false]
        simp
/-- How many bits a state's cell reads. -/
def bts (k x : Nat) : Nat := k - Nat.log2 x
theorem bts_of (k j x : Nat) (hj : j ≤ k) (h1 : 2 ^ (k - j) ≤ x) (h2 : x < 2 ^ (k - j + 1)) : bts k x = j := by
  have hp := Nat.two_pow_pos (k - j)
  have a := (Nat.le_log2 (by omega : x ≠ 0)).2 h1
  have b := (Nat.log2_lt (by omega : x ≠ 0)).2 h2
  unfold bts; omega
/-- From the states of a class each state is reached by one of its places. -/
theorem reach (n k y : Nat) (hn : 0 < n) (hnk : n ≤ 2 ^ k) (h1 : 2 ^ k ≤ y) (h2 : y < 2 ^ (k + 1)) :
    ∃ x, (n ≤ x ∧ x < 2 * n ∧ y / 2 ^ bts k x = x) ∧ ∀ z, n ≤ z → z < 2 * n → y / 2 ^ bts k z = z → z = x := by
  obtain ⟨j, ⟨a, b⟩, u⟩ := one_half n hn y (by omega)
  obtain ⟨c1, c2, c3⟩ := bits_left k y j _ h1 h2 rfl (by omega)
  have e := bts_of k j _ c1 c2 c3
  refine ⟨y / 2 ^ j, ⟨a, b, by rw [e]⟩, fun z z1 z2 z3 => ?_⟩
  have := u (bts k z) (by omega) (by omega)
  rw [← z3, this]
/-- A cell's states: from base on, as many as its bits say. -/
theorem cell_states (k x t : Nat) (h1 : 2 ^ k ≤ x * 2 ^ bts k x) : (x * 2 ^ bts k x - 2 ^ k ≤ t ∧ t < x * 2 ^ bts k x - 2 ^ k + 2 ^ bts k x) ↔ (t + 2 ^ k) / 2 ^ bts k x = x := by
  have hp := Nat.two_pow_pos (bts k x)
  rw [Nat.div_eq_iff hp]
  omega
/-- A cell's states are states. -/
theorem cell_fits (k x : Nat) (h0 : 0 < x) (hx : x < 2 ^ (k + 1)) : 2 ^ k ≤ x * 2 ^ bts k x ∧ x * 2 ^ bts k x + 2 ^ bts k x ≤ 2 ^ (k + 1) := by
  have hl : Nat.log2 x < k + 1 := (Nat.log2_lt (by omega)).2 hx
  have a : 2 ^ Nat.log2 x ≤ x := (Nat.le_log2 (by omega)).1 (Nat.le_refl _)
  have b : x < 2 ^ (Nat.log2 x + 1) := (Nat.log2_lt (by omega)).1 (Nat.lt_succ_self _)
  have e : Nat.log2 x + bts k x = k := by unfold bts; omega
  constructor
  · calc 2 ^ k = 2 ^ Nat.log2 x * 2 ^ bts k x := by rw [← Nat.pow_add, e]
      _ ≤ x * 2 ^ bts k x := Nat.mul_le_mul_right _ a
  · rw [← Nat.succ_mul]
    have : (x + 1) * 2 ^ bts k x ≤ 2 ^ (Nat.log2 x + 1) * 2 ^ bts k x := Nat.mul_le_mul_right _ b
    rw [← Nat.pow_add, show Nat.log2 x + 1 + bts k x = k + 1 from by omega] at this
    exact this
/-- How often the state y - 2 ^ k is told by the first m places of a class that has n. -/
def hit (k y n : Nat) : Nat → Nat
  | 0 => 0
  | m + 1 => hit k y n m + if y / 2 ^ bts k (n + m) = n + m then 1 else 0
theorem hit_at {k y n x : Nat} (hx : n ≤ x) (he : y / 2 ^ bts k x = x) (hu : ∀ z, n ≤ z → z < 2 * n → y / 2 ^ bts k z = z → z = x) : ∀ m, m ≤ n → hit k y n m = if x < n + m then 1 else 0 := by
  intro m
  induction m with
  | zero => intro _; rw [if_neg (by omega)]; rfl
  | succ m ih =>
    intro hm
    simp only [hit, ih (by omega)]
    by_cases h : n + m = x
    · subst h
      rw [if_neg (by omega), if_pos he, if_pos (by omega)]
    · rw [if_neg (fun e => h (hu (n + m) (by omega) (by omega) e))]
      by_cases h2 : x < n + m
      · rw [if_pos h2, if_pos (by omega)]
      · rw [if_neg h2, if_neg (by omega)]
/-- Each state once. -/
theorem hit_all {k y n : Nat} (hn : 0 < n) (hnk : n ≤ 2 ^ k) (h1 : 2 ^ k ≤ y) (h2 : y < 2 ^ (k + 1)) : hit k y n n = 1 := by
  obtain ⟨x, ⟨a, b, c⟩, u⟩ := reach n k y hn hnk h1 h2
  rw [hit_at a c u n (Nat.le_refl _), if_pos (by omega)]
/-- All places are classes of the list, and the place of the i-th holds it. -/
theorem fill_place (k : Nat) (h7 : 7 ≤ k) (h12 : k ≤ 12) (cl : List Nat) (i : Nat) (hi : i < 2 ^ k) : (fill k 0 cl (2 ^ k)).getD (plc k i) 0 = cl.getD i 0 := by
  rw [List.getD_eq_getElem?_getD, fill_get k 0 h7 h12 cl _ (Nat.le_refl _) i hi, if_pos hi]; rfl
/-! ### the classes of the places -/
def spr (k : Nat) (L : List Nat) : List Nat := fill k 0 (cls 0 L) (2 ^ k)
theorem cls_snoc (l : List Nat) (x : Nat) : ∀ b, cls b (l ++ [x]) = cls b l ++ List.replicate x (b + l.length) := by
  induction l with
  | nil => intro b; simp [cls]
  | cons y l ih => intro b; simp only [List.cons_append, cls, ih, List.append_assoc, List.length_cons]; rw [show b + 1 + l.length = b + (l.length + 1) from by omega]
theorem cls_succ (L : List Nat) (i : Nat) (hi : i < L.length) : cls 0 (L.take (i + 1)) = cls 0 (L.take i) ++ List.replicate (g L i) i := by
  rw [take_snoc L i hi, cls_snoc, g_eq L i hi, List.length_take, Nat.min_eq_left (by omega), Nat.zero_add]
theorem cls_split (L : List Nat) (i : Nat) : ∀ b, cls b L = cls b (L.take i) ++ cls (b + (L.take i).length) (L.drop i) := by
  induction L generalizing i with
  | nil => intro b; simp [cls]
  | cons x L ih =>
    intro b
    cases i with
    | zero => simp [cls]
    | succ i =>
      simp only [List.take_succ_cons, List.drop_succ_cons, cls, List.length_cons]
      rw [ih i (b + 1), List.append_assoc, show b + 1 + (L.take i).length = b + ((L.take i).length + 1) from by omega]
theorem cls_drop (L : List Nat) (i : Nat) (hi : i < L.length) : cls i (L.drop i) = List.replicate (g L i) i ++ cls (i + 1) (L.drop (i + 1)) := by
  rw [List.drop_eq_getElem_cons hi, g_eq L i hi]; rfl
theorem cls_at (L : List Nat) (i j : Nat) (hi : i < L.length) (hj : j < g L i) : (cls 0 L).getD ((L.take i).sum + j) 0 = i := by
  rw [cls_split L i 0, Nat.zero_add, List.length_take, Nat.min_eq_left (by omega), cls_drop L i hi]
  rw [List.getD_eq_getElem?_getD, List.getElem?_append_right (by rw [cls_len]; omega), cls_len, Nat.add_sub_cancel_left]
  rw [List.getElem?_append_left (by simpa using hj), List.getElem?_replicate, if_pos hj]; rfl
theorem sum_take (L : List Nat) (i : Nat) (hi : i < L.length) : (L.take (i + 1)).sum = (L.take i).sum + g L i := by
  rw [take_snoc L i hi, List.sum_append, g_eq L i hi]; simp
theorem sum_take_le (L : List Nat) (i : Nat) : (L.take i).sum ≤ L.sum := by
  conv => rhs; rw [← List.take_append_drop i L, List.sum_append]
  omega
/-- What a table is made of. -/
structure Spd (k : Nat) (L cs : List Nat) : Prop where
  k7 : 7 ≤ k
  k12 : k ≤ 12
  len : L.length = 65
  sum : L.sum = 2 ^ k
  all : cs.length = 2 ^ k
  cnt : ∀ c, cs.count c = g L c
theorem spd_of {k : Nat} {L : List Nat} (h7 : 7 ≤ k) (h12 : k ≤ 12) (hl : L.length = 65) (hs : L.sum = 2 ^ k) : Spd k L (spr k L) :=
  ⟨h7, h12, hl, hs, fill_len _ _ _ _, fun c => by
    unfold spr
    rw [fill_all k h7 h12 (cls 0 L) (by rw [cls_len]; exact hs) c, cls_count]
    simp [g]⟩
theorem spd_lt {k : Nat} {L cs : List Nat} (h : Spd k L cs) {c : Nat} (hc : c ∈ cs) : c < 65 ∧ 0 < g L c := by
  have a := List.count_pos_iff.2 hc
  rw [h.cnt] at a
  refine ⟨?_, a⟩
  rcases Nat.lt_or_ge c 65 with h1 | h1
  · exact h1
  · unfold g at a
    rw [List.getD_eq_getElem?_getD, List.getElem?_eq_none (by rw [h.len]; exact h1)] at a
    simp at a
theorem spd_le {k : Nat} {L cs : List Nat} (h : Spd k L cs) (c : Nat) : g L c ≤ 2 ^ k := by
  rw [← h.cnt, ← h.all]; exact List.count_le_length
/-- The states that come next, of each class, behind m places. -/
def nxt (L cs : List Nat) : Nat → List Nat
  | 0 => L
  | m + 1 => (nxt L cs m).set (g cs m) (g (nxt L cs m) (g cs m) + 1)
theorem nxt_len (L cs : List Nat) (m : Nat) : (nxt L cs m).length = L.length := by
  induction m with
  | zero => rfl
  | succ m ih => simp [nxt, ih]
theorem nxt_get {k : Nat} {L cs : List Nat} (h : Spd k L cs) (c : Nat) : ∀ m, m ≤ cs.length → g (nxt L cs m) c = g L c + (cs.take m).count c := by
  intro m
  induction m with
  | zero => intro _; simp [nxt]
  | succ m ih =>
    intro hm
    have hc := (spd_lt h (g_mem cs m (by omega))).1
    rw [take_snoc cs m (by omega), List.count_append, ← g_eq cs m (by omega), List.count_singleton]
    simp only [nxt]
    unfold g at *
    rw [set_getD _ _ _ _ (by rw [nxt_len, h.len]; exact hc)]
    by_cases e : c = cs.getD m 0
    · subst e
      rw [if_pos rfl, ih (by omega)]; simp; omega
    · rw [if_neg e, ih (by omega)]
      have : (cs.getD m 0 == c) = false := by simpa using fun h => e h.symm
      rw [this]; simp
def xat (L cs : List Nat) (m : Nat) : Nat := g (nxt L cs m) (g cs m)
theorem xat_eq {k : Nat} {L cs : List Nat} (h : Spd k L cs) (m : Nat) (hm : m < cs.length) : xat L cs m = g L (g cs m) + (cs.take m).count (g cs m) := nxt_get h _ m (by omega)
theorem cnt_lt {k : Nat} {L cs : List Nat} (h : Spd k L cs) (m : Nat) (hm : m < cs.length) : (cs.take m).count (g cs m) < g L (g cs m) := by
  have a : (cs.take (m + 1)).count (g cs m) ≤ cs.count (g cs m) := (List.take_sublist _ _).count_le _
  rw [take_snoc cs m hm, List.count_append, ← g_eq cs m hm, h.cnt] at a
  simp at a; omega
theorem xat_bd {k : Nat} {L cs : List Nat} (h : Spd k L cs) (m : Nat) (hm : m < cs.length) : g L (g cs m) ≤ xat L cs m ∧ xat L cs m < 2 * g L (g cs m) ∧ 0 < xat L cs m ∧ xat L cs m < 2 ^ (k + 1) := by
  have a := xat_eq h m hm
  have b := cnt_lt h m hm
  have c := spd_le h (g cs m)
  rw [Nat.pow_succ]
  omega
abbrev Tri := Nat × Nat × Nat
def cel (k : Nat) (L cs : List Nat) (m : Nat) : Tri := (g cs m, bts k (xat L cs m), xat L cs m * 2 ^ bts k (xat L cs m) - 2 ^ k)
def tab (k : Nat) (L cs : List Nat) (n : Nat) : List Tri := (List.range n).map (cel k L cs)
theorem tab_succ (k : Nat) (L cs : List Nat) (n : Nat) : tab k L cs (n + 1) = tab k L cs n ++ [cel k L cs n] := by unfold tab; rw [List.range_succ, List.map_append]; rfl
theorem tab_len (k : Nat) (L cs : List Nat) (n : Nat) : (tab k L cs n).length = n := by simp [tab]
theorem tab_get (k : Nat) (L cs : List Nat) (n m : Nat) (h : m < n) : (tab k L cs n).getD m (0, 0, 0) = cel k L cs m := by
  unfold tab; rw [List.getD_eq_getElem?_getD, List.getElem?_map, List.getElem?_range h]; rfl
theorem log2_bd {k x : Nat} (h0 : 0 < x) (hx : x < 2 ^ (k + 1)) : Nat.log2 x ≤ k ∧ 2 ^ Nat.log2 x ≤ x ∧ x < 2 ^ (Nat.log2 x + 1) ∧ Nat.log2 x + bts k x = k := by
  have hl : Nat.log2 x < k + 1 := (Nat.log2_lt (by omega)).2 hx
  exact ⟨by omega, (Nat.le_log2 (by omega)).1 (Nat.le_refl _), (Nat.log2_lt (by omega)).1 (Nat.lt_succ_self _), by unfold bts; omega⟩
/-- May be: what it says of the numbers. -/
theorem may_spd {z : Int} {f : List Int} (h : may z f = true) : ∃ (k : Nat) (L : List Nat), z = (k : Int) ∧ f = L.map Int.ofNat ∧ z.toNat = k ∧ f.map Int.toNat = L ∧ Spd k L (spr k L) := by
  unfold may at h
  rw [Bool.and_eq_true, Bool.and_eq_true, decide_eq_true_eq] at h
  obtain ⟨⟨h1, h2⟩, h3⟩ := h
  obtain ⟨z7, z12⟩ := (lgB_iff z).1 h1
  obtain ⟨fl, fb⟩ := (okC_iff _ _).1 h2
  have hb := toNat_back (fun x hx => (fb x hx).1)
  obtain ⟨L, hL⟩ : ∃ L, f.map Int.toNat = L := ⟨_, rfl⟩
  rw [hL] at hb
  obtain ⟨k, hk⟩ : ∃ k : Nat, z = (k : Int) := ⟨z.toNat, by omega⟩
  refine ⟨k, L, hk, hb.symm, by omega, hL, spd_of (by omega) (by omega) (by rw [← hb] at fl; simpa using fl) ?_⟩
  rw [← hb, sum_ofNat] at h3
  have e : z.toNat = k := by omega
  rw [e] at h3
  have e2 : (2 : Int) ^ k = ((2 ^ k : Nat) : Int) := by rw [Int.natCast_pow]; rfl
  rw [e2] at h3
  omega
def sprA (f : List Int) (z : Int) : Nat × List Nat := if may z f then (0, spr z.toNat (f.map Int.toNat)) else (3, [])
def tabA (f : List Int) (z : Int) : Nat × List Tri := if may z f then (0, tab z.toNat (f.map Int.toNat) (spr z.toNat (f.map Int.toNat)) (2 ^ z.toNat)) else (3, [])
theorem sprA_yes {f : List Int} {z : Int} (h : may z f = true) : sprA f z = (0, spr z.toNat (f.map Int.toNat)) := by unfold sprA; rw [if_pos h]
theorem sprA_no {f : List Int} {z : Int} (h : may z f = false) : sprA f z = (3, []) := by unfold sprA; rw [if_neg (by rw [h]; simp)]
theorem tabA_yes {f : List Int} {z : Int} (h : may z f = true) : tabA f z = (0, tab z.toNat (f.map Int.toNat) (spr z.toNat (f.map Int.toNat)) (2 ^ z.toNat)) := by unfold tabA; rw [if_pos h]
theorem tabA_no {f : List Int} {z : Int} (h : may z f = false) : tabA f z = (3, []) := by unfold tabA; rw [if_neg (by rw [h]; simp)]
/-! ### cells of three numbers -/
def cv3 (p : Tri) : List Value := [.int .i64 (p.1 : Int), .int .i64 (p.2.1 : Int), .int .i64 (p.2.2 : Int)]
def cvs (l : List Tri) : List Value := l.flatMap cv3
theorem cvs_len (l : List Tri) : (cvs l).length = l.length * 3 := by
  induction l with
  | nil => rfl
  | cons p l ih => rw [cvs, List.flatMap_cons, List.length_append, ← cvs, ih]; simp [cv3]; omega
theorem cvs_snoc (l : List Tri) (p : Tri) : cvs (l ++ [p]) = cvs l ++ cv3 p := by unfold cvs; rw [List.flatMap_append]; simp
theorem cvs_at (l : List Tri) (i : Nat) (h : i < l.length) : (cvs l)[i * 3]? = some (.int .i64 ((l.getD i (0, 0, 0)).1 : Int)) ∧ (cvs l)[i * 3 + 1]? = some (.int .i64 ((l.getD i (0, 0, 0)).2.1 : Int)) ∧ (cvs l)[i * 3 + 2]? = some (.int .i64 ((l.getD i (0, 0, 0)).2.2 : Int)) := by
  induction l generalizing i with
  | nil => simp at h
  | cons p l ih =>
    cases i with
    | zero => exact ⟨rfl, rfl, rfl⟩
    | succ i =>
      have e : cvs (p :: l) = .int .i64 (p.1 : Int) :: .int .i64 (p.2.1 : Int) :: .int .i64 (p.2.2 : Int) :: cvs l := rfl
      have := ih i (by simpa using h)
      rw [e, show (i + 1) * 3 = i * 3 + 1 + 1 + 1 from by omega, show i * 3 + 1 + 1 + 1 + 1 = i * 3 + 1 + 1 + 1 + 1 from rfl]
      simp only [List.getElem?_cons_succ, List.getD_cons_succ]
      exact this
theorem cvs_one (l : List Tri) : ∀ u ∈ cvs l, u.oneCell' = true := by
  intro u hu
  obtain ⟨p, _, hp⟩ := List.mem_flatMap.1 hu
  simp [cv3] at hp
  rcases hp with rfl | rfl | rfl <;> rfl
theorem info77 : (Tryz.prog.info? 77).map (fun i => (i.zero, i.size, i.bytes)) = some (some (.agg #[.int .i64 0, .int .i64 0, .int .i64 0]), 3, 24) := by kernel_rfl
theorem cv_cells {W : World} {base b n cap : Nat} {l : List Tri} (h : W.ownsRow base 77 3 (.slice (some ⟨b, 0, none⟩) n cap) n (cvs l)) (i : Nat) (hi : i < n) :
    W.cell? ⟨b, i * 3, none⟩ = some (.int .i64 ((l.getD i (0, 0, 0)).1 : Int)) ∧ W.cell? ⟨b, i * 3 + 1, none⟩ = some (.int .i64 ((l.getD i (0, 0, 0)).2.1 : Int)) ∧ W.cell? ⟨b, i * 3 + 2, none⟩ = some (.int .i64 ((l.getD i (0, 0, 0)).2.2 : Int)) := by
  have hl : l.length = n := by have := h.1; rw [cvs_len] at this; omega
  obtain ⟨c1, c2, c3⟩ := cvs_at l i (by omega)
  exact ⟨(own_there h (i * 3) (by omega)).1.trans c1, (own_there h (i * 3 + 1) (by omega)).1.trans c2, (own_there h (i * 3 + 2) (by omega)).1.trans c3⟩
end Go.Proofs.YtofclflcicjlaaaGreat
