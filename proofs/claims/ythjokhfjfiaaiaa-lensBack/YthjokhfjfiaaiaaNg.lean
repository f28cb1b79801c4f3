/-
  Lengths in half bytes: whole numbers and lists alone; no Go in sight; what Put and Get of lengths answer: lists alone; no Go in sight.
-/
import Derived.Test.YthjokhfjfiaaiaaBm
import Derived.Test.YthjokhfjfiaaiaaCm
namespace Go.Proofs.Ythjokhfjfiaaiaa
open Go.ChangeShapes Go.WideShapes Go.ChangeAt Go.RowKit
open Go.ChangeMaps (open_string shut_string)

/-! ### half bytes -/
/-- The half bytes of bytes, the lower one first. -/
def nbs (l : List UInt8) : List Nat := l.flatMap fun c => [c.toNat % 16, c.toNat / 16]
theorem nbs_nil : nbs [] = [] := rfl
theorem nbs_cons (c : UInt8) (l : List UInt8) : nbs (c :: l) = c.toNat % 16 :: c.toNat / 16 :: nbs l := rfl
theorem nbs_append (a b : List UInt8) : nbs (a ++ b) = nbs a ++ nbs b := by simp [nbs]
theorem nbs_len (l : List UInt8) : (nbs l).length = 2 * l.length := by
  induction l with
  | nil => rfl
  | cons c l ih => rw [nbs_cons, List.length_cons, List.length_cons, ih, List.length_cons]; omega
theorem nbs_take (l : List UInt8) (j : Nat) : nbs (l.take j) = (nbs l).take (2 * j) := by
  induction l generalizing j with
  | nil => simp [nbs_nil]
  | cons c l ih =>
    cases j with
    | zero => rfl
    | succ j => rw [List.take_succ_cons, nbs_cons, nbs_cons, ih, show 2 * (j + 1) = 2 * j + 1 + 1 from by omega, List.take_succ_cons, List.take_succ_cons]
theorem nbs_lt (l : List UInt8) : ∀ x ∈ nbs l, x < 16 := by
  intro x hx
  obtain ⟨c, _, h⟩ := List.mem_flatMap.1 hx
  have := c.toNat_lt
  simp at h
  omega
/-- What a reader gets, four bits each. -/
theorem got_nib (l : List UInt8) (k : Nat) (h : k < (nbs l).length) : got (le l) (4 * k) 4 = at0 (nbs l) k := by
  rw [at0_of _ k h]
  induction l generalizing k with
  | nil => simp [nbs_nil] at h
  | cons c l ih =>
    have hc := c.toNat_lt
    unfold got at *
    simp only [nbs_cons] at h ⊢
    match k, h with
    | 0, _ => simp [le]; omega
    | 1, _ =>
      simp only [List.getElem_cons_succ, List.getElem_cons_zero, le]
      show (c.toNat + 256 * le l) / 16 % 16 = _
      omega
    | k + 2, h =>
      simp only [List.getElem_cons_succ]
      rw [← ih k (by simpa using h)]
      simp only [le]
      have e : (2 : Nat) ^ (4 * (k + 2)) = 256 * 2 ^ (4 * k) := by rw [show 4 * (k + 2) = 8 + 4 * k from by omega, Nat.pow_add]
      rw [e, ← Nat.div_div_eq_div_mul]
      congr 2
      omega
/-- Half bytes as bytes. -/
def pk : List Nat → List UInt8
  | [] => []
  | [x] => [UInt8.ofNat x]
  | x :: y :: r => UInt8.ofNat (x + 16 * y) :: pk r
/-- The number of half bytes. -/
def nn : List Nat → Nat
  | [] => 0
  | x :: r => x + 16 * nn r
theorem pk_len : ∀ ns : List Nat, (pk ns).length = (ns.length + 1) / 2
  | [] => by simp [pk]
  | [x] => by simp [pk]
  | x :: y :: r => by simp only [pk, List.length_cons, pk_len r]; omega
def pad (ns : List Nat) : List Nat := if ns.length % 2 = 1 then [0] else []
theorem nbs_pk : ∀ ns : List Nat, (∀ x ∈ ns, x < 16) → nbs (pk ns) = ns ++ pad ns
  | [], _ => rfl
  | [x], h => by
    have hx : x < 16 := h x (by simp)
    simp only [pk, nbs_cons, nbs_nil, pad]
    rw [u8_of _ (by omega)]
    simp
    omega
  | x :: y :: r, h => by
    have hx : x < 16 := h x (by simp)
    have hy : y < 16 := h y (by simp)
    have e : pad (x :: y :: r) = pad r := by unfold pad; simp only [List.length_cons]; congr 1; simp; omega
    simp only [pk, nbs_cons]
    rw [u8_of _ (by omega), nbs_pk r (fun z hz => h z (by simp [hz])), e]
    simp
    omega
theorem byt_cons (N k : Nat) : byt N (k + 1) = UInt8.ofNat (N % 256) :: byt (N / 256) k := by
  unfold byt
  rw [List.range_succ_eq_map, List.map_cons, List.map_map]
  congr 1
  · simp
  · refine List.map_congr_left fun i _ => ?_
    simp only [Function.comp]
    rw [Nat.pow_succ, Nat.mul_comm, ← Nat.div_div_eq_div_mul]
theorem byt_pk : ∀ ns : List Nat, (∀ x ∈ ns, x < 16) → byt (nn ns) (byc (4 * ns.length)) = pk ns
  | [], _ => rfl
  | [x], h => by
    have hx : x < 16 := h x (by simp)
    have e : byc (4 * [x].length) = 0 + 1 := by simp [byc]
    rw [e, byt_cons, byt_zero]
    simp only [nn, pk]
    rw [Nat.mod_eq_of_lt (by omega)]; rfl
  | x :: y :: r, h => by
    have hx : x < 16 := h x (by simp)
    have hy : y < 16 := h y (by simp)
    have e : byc (4 * (x :: y :: r).length) = byc (4 * r.length) + 1 := by unfold byc; simp only [List.length_cons]; omega
    rw [e, byt_cons]
    simp only [nn, pk]
    rw [show (x + 16 * (y + 16 * nn r)) / 256 = nn r from by omega, show (x + 16 * (y + 16 * nn r)) % 256 = x + 16 * y from by omega, byt_pk r (fun z hz => h z (by simp [hz]))]
theorem nn_snoc (ns : List Nat) (x : Nat) : nn (ns ++ [x]) = nn ns + x * 2 ^ (4 * ns.length) := by
  induction ns with
  | nil => simp [nn]
  | cons y ns ih =>
    have e : (2 : Nat) ^ (4 * (ns.length + 1)) = 16 * 2 ^ (4 * ns.length) := by rw [show 4 * (ns.length + 1) = 4 + 4 * ns.length from by omega, Nat.pow_add]
    simp only [List.cons_append, nn, ih, List.length_cons]
    rw [e, Nat.mul_left_comm x 16, Nat.mul_add]
    omega

/-! ### rows of noughts, and what is told -/
def rowF : Nat → List Nat → Nat
  | 0, _ => 0
  | _ + 1, [] => 0
  | k + 1, x :: L => if x = 0 then rowF k L + 1 else 0
/-- How many noughts a list begins with, 16 at the most. -/
def row0 (L : List Nat) : Nat := rowF 16 L
theorem at0_cons (x : Nat) (L : List Nat) (i : Nat) : at0 (x :: L) (i + 1) = at0 L i := rfl
theorem at0_head (x : Nat) (L : List Nat) : at0 (x :: L) 0 = x := rfl
theorem rowF_of : ∀ (k : Nat) (L : List Nat) (n : Nat), n ≤ k → n ≤ L.length → (∀ i, i < n → at0 L i = 0) → (n = k ∨ n = L.length ∨ at0 L n ≠ 0) → rowF k L = n
  | 0, _, n, h, _, _, _ => by unfold rowF; omega
  | _ + 1, [], n, _, h, _, _ => by simp only [rowF, List.length_nil] at h ⊢; omega
  | k + 1, x :: L, n, h1, h2, h3, h4 => by
    unfold rowF
    by_cases hx : x = 0
    · rw [if_pos hx]
      cases n with
      | zero =>
        rcases h4 with h | h | h
        · omega
        · simp at h
        · exact absurd hx h
      | succ n =>
        rw [rowF_of k L n (by omega) (by simpa using h2) (fun i hi => by have := h3 (i + 1) (by omega); rwa [at0_cons] at this) (by
          rcases h4 with h | h | h
          · left; omega
          · right; left; simpa using h
          · right; right; rwa [at0_cons] at h)]
    · rw [if_neg hx]
      cases n with
      | zero => rfl
      | succ n => exact absurd (h3 0 (by omega)) hx
theorem rowF_le : ∀ (k : Nat) (L : List Nat), rowF k L ≤ k ∧ rowF k L ≤ L.length ∧ L.take (rowF k L) = List.replicate (rowF k L) 0
  | 0, _ => by simp [rowF]
  | _ + 1, [] => by simp [rowF]
  | k + 1, x :: L => by
    unfold rowF
    by_cases hx : x = 0
    · rw [if_pos hx]
      have := rowF_le k L
      refine ⟨by omega, by simp; omega, ?_⟩
      rw [List.take_succ_cons, this.2.2, hx, List.replicate_succ]
    · rw [if_neg hx]; simp
theorem row_one (L : List Nat) : 1 ≤ row0 (0 :: L) := by unfold row0 rowF; simp
theorem row_none (x : Nat) (L : List Nat) (h : 0 < x) : row0 (x :: L) = 0 := by unfold row0 rowF; rw [if_neg (by omega)]
theorem row_le (L : List Nat) : row0 L ≤ 16 ∧ row0 L ≤ L.length ∧ L.take (row0 L) = List.replicate (row0 L) 0 := rowF_le 16 L
def encF : Nat → List Nat → List Nat
  | 0, _ => []
  | _ + 1, [] => []
  | f + 1, x :: L => if x = 0 then 0 :: (row0 (x :: L) - 1) :: encF f ((x :: L).drop (row0 (x :: L))) else x :: encF f L
/-- The numbers of four bits that tell lengths. -/
def enc (L : List Nat) : List Nat := encF L.length L
theorem enc_fuel : ∀ (f g : Nat) (L : List Nat), L.length ≤ f → L.length ≤ g → encF f L = encF g L
  | 0, 0, _, _, _ => rfl
  | 0, _ + 1, [], _, _ => rfl
  | 0, _ + 1, _ :: _, h, _ => by simp at h
  | _ + 1, 0, [], _, _ => rfl
  | _ + 1, 0, _ :: _, _, h => by simp at h
  | _ + 1, _ + 1, [], _, _ => rfl
  | f + 1, g + 1, x :: L, h1, h2 => by
    simp only [List.length_cons] at h1 h2
    unfold encF
    by_cases hx : x = 0
    · subst hx
      have h := row_one L
      rw [if_pos rfl, if_pos rfl, enc_fuel f g ((0 :: L).drop (row0 (0 :: L))) (by simp; omega) (by simp; omega)]
    · rw [if_neg hx, if_neg hx, enc_fuel f g L (by omega) (by omega)]
theorem enc_nil : enc [] = [] := rfl
theorem enc_zero (L : List Nat) : enc (0 :: L) = 0 :: (row0 (0 :: L) - 1) :: enc ((0 :: L).drop (row0 (0 :: L))) := by
  have h := row_one L
  unfold enc
  rw [List.length_cons]
  conv => lhs; unfold encF
  rw [if_pos rfl, enc_fuel _ _ ((0 :: L).drop (row0 (0 :: L))) (by simp; omega) (Nat.le_refl _)]
theorem enc_pos (x : Nat) (L : List Nat) (h : 0 < x) : enc (x :: L) = x :: enc L := by
  unfold enc
  rw [List.length_cons]
  conv => lhs; unfold encF
  rw [if_neg (by omega)]
/-- From a place on: a row of noughts, or a length. -/
theorem enc_row (L : List Nat) (i r : Nat) (hi : i < L.length) (hr : row0 (L.drop i) = r) (h : 0 < r) : enc (L.drop i) = 0 :: (r - 1) :: enc (L.drop (i + r)) := by
  have e : L.drop i = L[i] :: L.drop (i + 1) := List.drop_eq_getElem_cons hi
  by_cases hx : L[i] = 0
  · have := enc_zero (L.drop (i + 1))
    rw [← hx, ← e, hr, List.drop_drop, hx] at this
    exact this
  · rw [e, row_none _ _ (by omega)] at hr; omega
theorem enc_one (L : List Nat) (i : Nat) (hi : i < L.length) (hr : row0 (L.drop i) = 0) : 0 < at0 L i ∧ enc (L.drop i) = at0 L i :: enc (L.drop (i + 1)) := by
  have e : L.drop i = L[i] :: L.drop (i + 1) := List.drop_eq_getElem_cons hi
  rw [at0_of L i hi]
  by_cases hx : L[i] = 0
  · rw [e, hx] at hr
    have := row_one (L.drop (i + 1))
    omega
  · exact ⟨by omega, by rw [e, enc_pos _ _ (by omega)]⟩
/-- Each is four bits; how many there are. -/
theorem enc_bd : ∀ (n : Nat) (L : List Nat), L.length ≤ n → (∀ x ∈ L, x ≤ 15) → (∀ y ∈ enc L, y < 16) ∧ L.length ≤ 8 * (enc L).length ∧ (enc L).length ≤ 2 * L.length
  | _, [], _, _ => by simp [enc_nil]
  | 0, _ :: _, h, _ => by simp at h
  | n + 1, x :: L, h, hx => by
    simp only [List.length_cons] at h
    by_cases h0 : x = 0
    · subst h0
      have r1 := row_one L
      have r2 := row_le (0 :: L)
      obtain ⟨i1, i2, i3⟩ := enc_bd n ((0 :: L).drop (row0 (0 :: L))) (by simp; omega) (fun z hz => hx z (List.mem_of_mem_drop hz))
      rw [enc_zero]
      generalize row0 (0 :: L) = r at *
      refine ⟨fun y hy => ?_, ?_, ?_⟩
      · simp only [List.mem_cons] at hy
        rcases hy with h | h | h
        · omega
        · omega
        · exact i1 y h
      · simp only [List.length_cons, List.length_drop] at i2 ⊢; omega
      · simp only [List.length_cons, List.length_drop] at i3 r2 ⊢; omega
    · obtain ⟨i1, i2, i3⟩ := enc_bd n L (by omega) (fun z hz => hx z (by simp [hz]))
      rw [enc_pos x L (by omega)]
      refine ⟨fun y hy => ?_, ?_, ?_⟩
      · simp only [List.mem_cons] at hy
        rcases hy with h | h
        · have := hx x (by simp); omega
        · exact i1 y h
      · simp only [List.length_cons]; omega
      · simp only [List.length_cons]; omega

/-! ### what is read -/
/-- Lengths are read behind those that came, until there are 65; what is left of the half bytes. -/
def dec : Nat → List Nat → List Nat → Option (List Nat × List Nat)
  | 0, acc, ns => some (acc, ns)
  | f + 1, acc, ns => if 65 ≤ acc.length then some (acc, ns) else
    match ns with
    | [] => none
    | [x] => if x = 0 then none else dec f (acc ++ [x]) []
    | x :: y :: r => if x = 0 then dec f (acc ++ List.replicate (y + 1) 0) r else dec f (acc ++ [x]) (y :: r)
theorem dec_done (f : Nat) (acc ns : List Nat) (h : 65 ≤ acc.length) : dec f acc ns = some (acc, ns) := by
  cases f with
  | zero => rfl
  | succ f => unfold dec; rw [if_pos h]
theorem dec_end (f : Nat) (acc : List Nat) (h : acc.length < 65) : dec (f + 1) acc [] = none := by unfold dec; rw [if_neg (by omega)]
theorem dec_half (f : Nat) (acc : List Nat) (h : acc.length < 65) : dec (f + 1) acc [0] = none := by unfold dec; rw [if_neg (by omega)]; rfl
theorem dec_pos (f : Nat) (acc ns : List Nat) (x : Nat) (h : acc.length < 65) (hx : 0 < x) : dec (f + 1) acc (x :: ns) = dec f (acc ++ [x]) ns := by
  cases ns with
  | nil => conv => lhs; unfold dec
           rw [if_neg (by omega)]; simp only; rw [if_neg (by omega)]
  | cons y r => conv => lhs; unfold dec
                rw [if_neg (by omega)]; simp only; rw [if_neg (by omega)]
theorem dec_row (f : Nat) (acc ns : List Nat) (y : Nat) (h : acc.length < 65) : dec (f + 1) acc (0 :: y :: ns) = dec f (acc ++ List.replicate (y + 1) 0) ns := by
  conv => lhs; unfold dec
  rw [if_neg (by omega)]; rfl
theorem dec_enc : ∀ (n : Nat) (L : List Nat) (f : Nat) (acc rest : List Nat), L.length ≤ n → acc.length + L.length = 65 → 65 ≤ f + acc.length → dec f acc (enc L ++ rest) = some (acc ++ L, rest)
  | _, [], f, acc, rest, _, h2, _ => by rw [enc_nil, List.nil_append, dec_done f acc rest (by simpa using Nat.le_of_eq h2.symm), List.append_nil]
  | 0, _ :: _, _, _, _, h, _, _ => by simp at h
  | n + 1, x :: L, f, acc, rest, h1, h2, h3 => by
    simp only [List.length_cons] at h1 h2
    obtain ⟨f, rfl⟩ : ∃ g, f = g + 1 := ⟨f - 1, by omega⟩
    by_cases hx : x = 0
    · subst hx
      have r1 := row_one L
      have r2 := row_le (0 :: L)
      rw [enc_zero, List.cons_append, List.cons_append, dec_row f acc _ _ (by omega), show row0 (0 :: L) - 1 + 1 = row0 (0 :: L) from by omega]
      generalize row0 (0 :: L) = r at *
      have l1 : ((0 :: L).drop r).length = L.length + 1 - r := by simp
      have l2 : (acc ++ List.replicate r 0).length = acc.length + r := by simp
      have l3 : r ≤ L.length + 1 := by have := r2.2.1; simpa using this
      rw [dec_enc n ((0 :: L).drop r) f (acc ++ List.replicate r 0) rest (by omega) (by omega) (by omega), ← r2.2.2, List.append_assoc, List.take_append_drop]
    · rw [enc_pos x L (by omega), List.cons_append, dec_pos f acc _ x (by omega) (by omega), dec_enc n L f (acc ++ [x]) rest (by omega) (by simp; omega) (by simp; omega)]
      simp
/-- Cut ahead of the end: there is not all. -/
theorem dec_cut : ∀ (n : Nat) (L : List Nat) (f : Nat) (acc : List Nat) (m : Nat), L.length ≤ n → acc.length + L.length = 65 → 65 ≤ f + acc.length → m < (enc L).length → dec f acc ((enc L).take m) = none
  | _, [], _, _, _, _, _, _, h => by simp [enc_nil] at h
  | 0, _ :: _, _, _, _, h, _, _, _ => by simp at h
  | n + 1, x :: L, f, acc, m, h1, h2, h3, h4 => by
    simp only [List.length_cons] at h1 h2
    obtain ⟨f, rfl⟩ : ∃ g, f = g + 1 := ⟨f - 1, by omega⟩
    by_cases hx : x = 0
    · subst hx
      have r1 := row_one L
      have r2 := row_le (0 :: L)
      rw [enc_zero] at h4 ⊢
      match m, h4 with
      | 0, _ => rw [List.take_zero, dec_end f acc (by omega)]
      | 1, _ => rw [List.take_succ_cons, List.take_zero, dec_half f acc (by omega)]
      | m + 2, h4 =>
        rw [List.take_succ_cons, List.take_succ_cons, dec_row f acc _ _ (by omega), show row0 (0 :: L) - 1 + 1 = row0 (0 :: L) from by omega]
        simp only [List.length_cons] at h4
        generalize row0 (0 :: L) = r at *
        have l1 : ((0 :: L).drop r).length = L.length + 1 - r := by simp
        have l2 : (acc ++ List.replicate r 0).length = acc.length + r := by simp
        have l3 : r ≤ L.length + 1 := by have := r2.2.1; simpa using this
        exact dec_cut n _ f _ m (by omega) (by omega) (by omega) (by omega)
    · rw [enc_pos x L (by omega)] at h4 ⊢
      match m, h4 with
      | 0, _ => rw [List.take_zero, dec_end f acc (by omega)]
      | m + 1, h4 =>
        rw [List.take_succ_cons, dec_pos f acc _ x (by omega) (by omega)]
        exact dec_cut n L f _ m (by omega) (by simp; omega) (by simp; omega) (by simpa using h4)
/-- What is left is a part of what there was. -/
theorem dec_rest : ∀ (f : Nat) (acc ns L rest : List Nat), dec f acc ns = some (L, rest) → ∃ k, rest = ns.drop k ∧ k ≤ ns.length
  | 0, acc, ns, L, rest, h => by
    unfold dec at h; injection h with h; injection h with _ h; exact ⟨0, by rw [List.drop_zero, h], by omega⟩
  | f + 1, acc, ns, L, rest, h => by
    by_cases ha : 65 ≤ acc.length
    · rw [dec_done _ _ _ ha] at h; injection h with h; injection h with _ h; exact ⟨0, by rw [List.drop_zero, h], by omega⟩
    · match ns, h with
      | [], h => rw [dec_end f acc (by omega)] at h; cases h
      | x :: r, h =>
        by_cases hx : x = 0
        · subst hx
          match r, h with
          | [], h => rw [dec_half f acc (by omega)] at h; cases h
          | y :: q, h =>
            rw [dec_row f acc q y (by omega)] at h
            obtain ⟨k, e, hk⟩ := dec_rest f _ q L rest h
            exact ⟨k + 2, by rw [e]; rfl, by simp; omega⟩
        · rw [dec_pos f acc r x (by omega) (by omega)] at h
          obtain ⟨k, e, hk⟩ := dec_rest f _ r L rest h
          exact ⟨k + 1, by rw [e]; rfl, by simp; omega⟩

theorem mayL_yes {f : List Int} (h : mayL f = true) : f.length = 65 ∧ (∀ z ∈ f, 0 ≤ z ∧ z ≤ 15) ∧ okL (nat f) = true := by
  unfold mayL at h
  simp only [Bool.and_eq_true, decide_eq_true_eq, Bool.not_eq_true'] at h
  exact ⟨h.1.1, (any_no f).1 h.1.2, h.2⟩
/-- The bytes of lengths; nothing of those that may not be. -/
def putL (f : List Int) : List UInt8 := if mayL f = true then pk (enc (nat f)) else []
def putN (L : List Nat) : List UInt8 := putL (L.map Int.ofNat)
/-- What bytes say: the error, the lengths, how many bytes they take. -/
def getL (t : List UInt8) : Nat × List Nat × Nat :=
  match dec 65 [] (nbs t) with
  | none => (2, [], 0)
  | some (L, _) => if putN L ≠ [] ∧ t.take (putN L).length = putN L then (0, L, (putN L).length) else (3, [], 0)
theorem nat_15 {f : List Int} (h : ∀ z ∈ f, 0 ≤ z ∧ z ≤ 15) : ∀ x ∈ nat f, x ≤ 15 := by
  intro x hx
  obtain ⟨z, hz, rfl⟩ := List.mem_map.1 hx
  have := h z hz
  omega
theorem pl_no {f : List Int} (h : mayL f = false) : putL f = [] := by unfold putL; rw [if_neg (by simp [h])]
theorem pl_yes {f : List Int} (h : mayL f = true) : putL f = pk (enc (nat f)) := by unfold putL; rw [if_pos h]
theorem put_facts {f : List Int} (h : mayL f = true) : (∀ y ∈ enc (nat f), y < 16) ∧ 9 ≤ (enc (nat f)).length ∧ (enc (nat f)).length ≤ 130 ∧ (putL f).length = ((enc (nat f)).length + 1) / 2 ∧ nbs (putL f) = enc (nat f) ++ pad (enc (nat f)) := by
  obtain ⟨h1, h2, _⟩ := mayL_yes h
  obtain ⟨b1, b2, b3⟩ := enc_bd _ (nat f) (Nat.le_refl _) (nat_15 h2)
  rw [nat_len, h1] at b2 b3
  refine ⟨b1, by omega, by omega, by rw [pl_yes h, pk_len], by rw [pl_yes h, nbs_pk _ b1]⟩
theorem put_len2 {f : List Int} (h : mayL f = true) : 5 ≤ (putL f).length ∧ (putL f).length ≤ 65 := by
  obtain ⟨_, h2, h3, h4, _⟩ := put_facts h
  omega
theorem pl_le (f : List Int) : (putL f).length ≤ 65 := by
  by_cases h : mayL f = true
  · exact (put_len2 h).2
  · rw [pl_no (by simpa using h)]; simp
theorem pl_ne {f : List Int} (h : mayL f = true) : putL f ≠ [] := by
  intro e
  have := (put_len2 h).1
  rw [e] at this; simp at this
theorem may_of_put {f : List Int} (h : putL f ≠ []) : mayL f = true := by
  by_cases g : mayL f = true
  · exact g
  · exact absurd (pl_no (by simpa using g)) h
theorem dec_put {L : List Nat} (h : mayL (L.map Int.ofNat) = true) (u : List UInt8) : dec 65 [] (nbs (putN L ++ u)) = some (L, pad (enc L) ++ nbs u) := by
  obtain ⟨_, _, _, _, e⟩ := put_facts h
  rw [nat_of] at e
  have hl : L.length = 65 := by have := (mayL_yes h).1; simpa using this
  unfold putN
  rw [nbs_append, e, List.append_assoc, dec_enc _ L 65 [] _ (Nat.le_refl _) (by simpa using hl) (by simp)]
  simp
/-- Lengths are told again, whatever stands behind. -/
theorem get_put {L : List Nat} (h : mayL (L.map Int.ofNat) = true) (u : List UInt8) : getL (putN L ++ u) = (0, L, (putN L).length) := by
  unfold getL
  rw [dec_put h u]
  simp only
  rw [if_pos ⟨pl_ne h, by rw [List.take_left]⟩]
/-- Cut more is needed. -/
theorem get_cut {L : List Nat} (h : mayL (L.map Int.ofNat) = true) (j : Nat) (hj : j < (putN L).length) : getL ((putN L).take j) = (2, [], 0) := by
  obtain ⟨_, _, _, e4, e⟩ := put_facts h
  rw [nat_of] at e4 e
  have hl : L.length = 65 := by have := (mayL_yes h).1; simpa using this
  unfold putN at hj ⊢
  have e2 : dec 65 [] (nbs ((putL (L.map Int.ofNat)).take j)) = none := by
    rw [nbs_take, e, List.take_append_of_le_length (by omega)]
    exact dec_cut _ L 65 [] (2 * j) (Nat.le_refl _) (by simpa using hl) (by simp) (by omega)
  unfold getL
  rw [e2]
/-- What is told was put there. -/
theorem get_said {t : List UInt8} {L : List Nat} {k : Nat} (h : getL t = (0, L, k)) : mayL (L.map Int.ofNat) = true ∧ k = (putN L).length ∧ t.take (putN L).length = putN L := by
  unfold getL at h
  match hd : dec 65 [] (nbs t) with
  | none => rw [hd] at h; simp at h
  | some (M, r) =>
    rw [hd] at h
    simp only at h
    by_cases hc : putN M ≠ [] ∧ t.take (putN M).length = putN M
    · rw [if_pos hc] at h
      injection h with _ h
      injection h with h1 h2
      subst h1
      exact ⟨may_of_put hc.1, h2.symm, hc.2⟩
    · rw [if_neg hc] at h; simp at h
/-- As the reference asks it. -/
theorem get_ask {t : List UInt8} {L r : List Nat} (h : dec 65 [] (nbs t) = some (L, r)) (k : Nat) (hr : r = (nbs t).drop k) (hk : k ≤ (nbs t).length) :
    (putN L ≠ [] ∧ t.take (putN L).length = putN L) ↔ (mayL (L.map Int.ofNat) = true ∧ putN L = t.take ((k + 1) / 2)) := by
  constructor
  · rintro ⟨h1, h2⟩
    have hm := may_of_put h1
    refine ⟨hm, ?_⟩
    have e : putN L ++ t.drop (putN L).length = t := by
      conv => rhs; rw [← List.take_append_drop (putN L).length t, h2]
    have d := dec_put hm (t.drop (putN L).length)
    rw [e, h] at d
    injection d with d
    injection d with _ d
    obtain ⟨_, _, _, e4, e5⟩ := put_facts hm
    rw [nat_of] at e4 e5
    have n1 : (nbs t).length = (enc L).length + (pad (enc L) ++ nbs (t.drop (putN L).length)).length := by
      conv => lhs; rw [← e]
      rw [nbs_append, show nbs (putN L) = _ from e5, List.append_assoc, List.length_append]
    rw [← d, hr, List.length_drop] at n1
    have : k = (enc L).length := by omega
    rw [this, ← e4]
    exact h2.symm
  · rintro ⟨h1, h2⟩
    refine ⟨pl_ne h1, ?_⟩
    conv => rhs; rw [h2]
    have : (putN L).length = min ((k + 1) / 2) t.length := by
      conv => lhs; rw [h2]
      simp
    rw [this]
    have n := nbs_len t
    rw [Nat.min_eq_left (by omega)]
theorem get_none {t : List UInt8} (h : dec 65 [] (nbs t) = none) : getL t = (2, [], 0) := by unfold getL; rw [h]
theorem get_yes {t : List UInt8} {L r : List Nat} (h : dec 65 [] (nbs t) = some (L, r)) (h1 : putN L ≠ []) (h2 : t.take (putN L).length = putN L) : getL t = (0, L, (putN L).length) := by
  unfold getL; rw [h]; simp only; rw [if_pos ⟨h1, h2⟩]
theorem get_no {t : List UInt8} {L r : List Nat} (h : dec 65 [] (nbs t) = some (L, r)) (h1 : ¬ (putN L ≠ [] ∧ t.take (putN L).length = putN L)) : getL t = (3, [], 0) := by
  unfold getL; rw [h]; simp only; rw [if_neg h1]
/-- What Get answers of a text at a place. -/
def getA (s : List UInt8) (at' : Int) : Nat × List Nat × Nat :=
  if at' < 0 ∨ (s.length : Int) < at' then (1, [], 0) else
  let g := getL (s.drop at'.toNat)
  (g.1, g.2.1, if g.1 = 0 then at'.toNat + g.2.2 else 0)
theorem getA_arg (s : List UInt8) (at' : Int) (h : at' < 0 ∨ (s.length : Int) < at') : getA s at' = (1, [], 0) := by unfold getA; rw [if_pos h]
theorem getA_of (s : List UInt8) (i : Nat) (h : i ≤ s.length) (er k : Nat) (L : List Nat) (g : getL (s.drop i) = (er, L, k)) : getA s i = (er, L, if er = 0 then i + k else 0) := by
  unfold getA; rw [if_neg (by omega)]; simp only [Int.toNat_natCast, g]
theorem dec_len : ∀ (f : Nat) (acc ns L rest : List Nat), dec f acc ns = some (L, rest) → (∀ x ∈ ns, x < 16) → acc.length ≤ 80 → L.length ≤ 80
  | 0, acc, ns, L, rest, h, _, ha => by
    unfold dec at h; injection h with h; injection h with h _; rw [← h]; exact ha
  | f + 1, acc, ns, L, rest, h, hn, ha => by
    by_cases hc : 65 ≤ acc.length
    · rw [dec_done _ _ _ hc] at h; injection h with h; injection h with h _; rw [← h]; exact ha
    · match ns, h with
      | [], h => rw [dec_end f acc (by omega)] at h; cases h
      | x :: r, h =>
        by_cases hx : x = 0
        · subst hx
          match r, h with
          | [], h => rw [dec_half f acc (by omega)] at h; cases h
          | y :: q, h =>
            rw [dec_row f acc q y (by omega)] at h
            have hy : y < 16 := hn y (by simp)
            exact dec_len f _ q L rest h (fun z hz => hn z (by simp [hz])) (by simp; omega)
        · rw [dec_pos f acc r x (by omega) (by omega)] at h
          exact dec_len f _ r L rest h (fun z hz => hn z (by simp [hz])) (by simp; omega)
end Go.Proofs.Ythjokhfjfiaaiaa
