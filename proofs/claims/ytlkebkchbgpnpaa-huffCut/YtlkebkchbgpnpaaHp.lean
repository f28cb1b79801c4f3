/-
  Parts in bytes by codes: put, told again, cut, with more behind; laid ahead for layer 11; the codes of layer 9 as bits: none begins another one; laid ahead for layer 11.
-/
import Derived.Test.YtlkebkchbgpnpaaHc
import Derived.Test.YtlkebkchbgpnpaaAl
namespace Go.Proofs.Ytlkebkchbgpnpaa
open Go.ChangeShapes Go.WideShapes Go.ChangeAt Go.RowKit
open Go.ChangeMaps (open_string shut_string)

/-- What so many parts of bytes are: the error, the parts. -/
def hget (C : Nat → List Nat) (t : List UInt8) (n : Nat) : Nat × List (Nat × Nat) :=
  if (rdP C n (bts t)).1 ≠ 0 then ((rdP C n (bts t)).1, [])
  else if (rdP C n (bts t)).2.2.length < 8 ∧ b2 (rdP C n (bts t)).2.2 = 0 then (0, (rdP C n (bts t)).2.1) else (3, [])
def hput (C : Nat → List Nat) (ps : List (Nat × Nat)) : List UInt8 := bys (psB C ps)
/-- How many bits parts have. -/
def bitn (C : Nat → List Nat) (ps : List (Nat × Nat)) : Nat := (ps.map fun p => (C p.1).length + (p.1 - 1)).sum
theorem psB_len (C : Nat → List Nat) (ps : List (Nat × Nat)) : (psB C ps).length = bitn C ps := by
  induction ps with
  | nil => rfl
  | cons p ps ih =>
    have e : psB C (p :: ps) = ptB C p ++ psB C ps := by simp [psB]
    rw [e, List.length_append, ih]
    simp [ptB, lsb_len, bitn]
theorem psB_lt {C : Nat → List Nat} (hC : ∀ c, ∀ x ∈ C c, x < 2) (ps : List (Nat × Nat)) : ∀ x ∈ psB C ps, x < 2 := by
  intro x hx
  obtain ⟨p, _, h⟩ := List.mem_flatMap.1 hx
  rcases List.mem_append.1 h with g | g
  · exact hC _ x g
  · exact lsb_lt _ _ x g
theorem hput_len (C : Nat → List Nat) (ps : List (Nat × Nat)) : (hput C ps).length = (bitn C ps + 7) / 8 := by unfold hput; rw [bys_len, psB_len]
theorem b2_zeros (n : Nat) : b2 (List.replicate n 0) = 0 := by
  induction n with
  | zero => rfl
  | succ n ih => rw [List.replicate_succ, b2, ih]
/-- What is left behind all parts, whatever stands behind. -/
theorem rd_hput {C : Nat → List Nat} (pf : PF C) (hC : ∀ c, ∀ x ∈ C c, x < 2) (ps : List (Nat × Nat)) (h : ∀ p ∈ ps, okP C p) (u : List UInt8) :
    ∃ m, m < 8 ∧ rdP C ps.length (bts (hput C ps ++ u)) = (0, ps, List.replicate m 0 ++ bts u) := by
  refine ⟨8 * (((psB C ps).length + 7) / 8) - (psB C ps).length, by omega, ?_⟩
  unfold hput
  rw [bts_append, bts_bys _ (psB_lt hC ps), List.append_assoc, rdP_put pf _ ps h]
theorem hget_put {C : Nat → List Nat} (pf : PF C) (hC : ∀ c, ∀ x ∈ C c, x < 2) (ps : List (Nat × Nat)) (h : ∀ p ∈ ps, okP C p) : hget C (hput C ps) ps.length = (0, ps) := by
  obtain ⟨m, hm, e⟩ := rd_hput pf hC ps h []
  rw [List.append_nil] at e
  unfold hget
  rw [e]
  simp [bts_nil, b2_zeros, hm]
/-- With a byte or more behind it is too much. -/
theorem hget_more {C : Nat → List Nat} (pf : PF C) (hC : ∀ c, ∀ x ∈ C c, x < 2) (ps : List (Nat × Nat)) (h : ∀ p ∈ ps, okP C p) (u : List UInt8) (hu : u ≠ []) : hget C (hput C ps ++ u) ps.length = (3, []) := by
  obtain ⟨m, hm, e⟩ := rd_hput pf hC ps h u
  have hl : 0 < u.length := List.length_pos_iff.2 hu
  unfold hget
  rw [e]
  simp only [ne_eq, not_true_eq_false, if_false]
  rw [if_neg]
  rintro ⟨g, _⟩
  rw [List.length_append, List.length_replicate, bts_len] at g
  omega
theorem hget_cut {C : Nat → List Nat} (pf : PF C) (hC : ∀ c, ∀ x ∈ C c, x < 2) (ps : List (Nat × Nat)) (h : ∀ p ∈ ps, okP C p) (j : Nat) (hj : j < (hput C ps).length) : hget C ((hput C ps).take j) ps.length = (2, []) := by
  have hl : (hput C ps).length = ((psB C ps).length + 7) / 8 := bys_len _
  have e : bts ((hput C ps).take j) = (psB C ps).take (8 * j) := by
    rw [bts_take]
    unfold hput
    rw [bts_bys _ (psB_lt hC ps), List.take_append_of_le_length (by omega)]
  have r := rdP_cut pf ps (8 * j) h (by omega)
  unfold hget
  rw [e, if_pos (by rw [r]; decide), r]
/-- No parts of bytes. -/
theorem hget_zero (C : Nat → List Nat) (t : List UInt8) (h : t ≠ []) : hget C t 0 = (3, []) := by
  have hl : 0 < t.length := List.length_pos_iff.2 h
  unfold hget rdP
  simp only [ne_eq, not_true_eq_false, if_false]
  rw [if_neg]
  rintro ⟨g, _⟩
  rw [bts_len] at g
  omega

/-- The bits of a class's code, the highest first; none of length 0. -/
def codeB (L : List Nat) (c : Nat) : List Nat := msb (at0 L c) (cat (codesOf L) c).1
theorem codeB_len (L : List Nat) (c : Nat) : (codeB L c).length = at0 L c := msb_len _ _
theorem codeB_lt (L : List Nat) (c : Nat) : ∀ x ∈ codeB L c, x < 2 := msb_lt _ _
theorem codeB_ne (L : List Nat) (c : Nat) : codeB L c ≠ [] ↔ 0 < at0 L c := by
  rw [← codeB_len, List.length_pos_iff]
theorem codeB_num {L : List Nat} (hb : ∀ c, at0 L c ≤ 15) (hs : mS L 65 ≤ 32768) (c : Nat) (hc : c < 65) : num (codeB L c) = (cat (codesOf L) c).1 := by
  unfold codeB
  rw [num_msb, Nat.mod_eq_of_lt (code_fit L hb hs c hc)]
/-- What came so far is a class's code: so as it is asked by numbers. -/
theorem codeB_is {L : List Nat} (hb : ∀ c, at0 L c ≤ 15) (hs : mS L 65 ≤ 32768) (c : Nat) (hc : c < 65) (B : List Nat) (h : ∀ x ∈ B, x < 2) : codeB L c = B ↔ at0 L c = B.length ∧ (cat (codesOf L) c).1 = num B := by
  constructor
  · intro e
    rw [← e, codeB_len, codeB_num hb hs c hc]; exact ⟨rfl, rfl⟩
  · rintro ⟨h1, h2⟩
    unfold codeB
    rw [h1, h2, msb_num B h]
/-- It begins a class's code. -/
theorem codeB_begins {L : List Nat} (hb : ∀ c, at0 L c ≤ 15) (hs : mS L 65 ≤ 32768) (c : Nat) (hc : c < 65) (B : List Nat) (h : ∀ x ∈ B, x < 2) : B <+: codeB L c ↔ B.length ≤ at0 L c ∧ (cat (codesOf L) c).1 / 2 ^ (at0 L c - B.length) = num B := by
  have hf := code_fit L hb hs c hc
  constructor
  · intro hp
    have hl := hp.length_le
    rw [codeB_len] at hl
    refine ⟨hl, ?_⟩
    have e := List.prefix_iff_eq_take.1 hp
    unfold codeB at e
    rw [msb_take _ _ _ hl] at e
    have n := congrArg num e
    rw [num_msb, Nat.mod_eq_of_lt] at n
    · exact n.symm
    · rw [Nat.div_lt_iff_lt_mul (Nat.pow_pos (by decide)), ← Nat.pow_add, show B.length + (at0 L c - B.length) = at0 L c from by omega]; exact hf
  · rintro ⟨hl, e⟩
    rw [List.prefix_iff_eq_take]
    unfold codeB
    rw [msb_take _ _ _ hl, e, msb_num B h]
/-- No code begins another one. -/
theorem codeB_pf {L : List Nat} (hb : ∀ c, at0 L c ≤ 15) (hs : mS L 65 ≤ 32768) : PF (codeB L) := by
  intro i j hi hj h0 hp
  by_cases e : i = j
  · exact e
  · exfalso
    obtain ⟨h1, h2⟩ := (codeB_begins hb hs j hj _ (codeB_lt L i)).1 hp
    rw [codeB_len, codeB_num hb hs i hi] at h2
    rw [codeB_len] at h1
    exact code_apart L hb i j hi hj e ((codeB_ne L i).1 h0) h1 h2
end Go.Proofs.Ytlkebkchbgpnpaa
