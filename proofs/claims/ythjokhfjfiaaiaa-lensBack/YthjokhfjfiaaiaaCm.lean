/-
  Codes by their lengths: whole numbers and lists alone; no Go in sight.
-/
import Derived.Test.YthjokhfjfiaaiaaMv
namespace Go.Proofs.Ythjokhfjfiaaiaa
open Go.ChangeShapes Go.WideShapes Go.ChangeAt Go.RowKit
open Go.ChangeMaps (open_string shut_string)

/-! ### lengths that may be -/
def nat (f : List Int) : List Nat := f.map Int.toNat
def okL (L : List Nat) : Bool := decide (mC L 65 = 0) || decide (mS L 65 = 32768) || (decide (mC L 65 = 1) && decide (mS L 65 = 16384))
def mayL (f : List Int) : Bool := decide (f.length = 65) && !(f.any badl) && okL (nat f)
theorem badl_no (z : Int) : badl z = false ↔ 0 ≤ z ∧ z ≤ 15 := by unfold badl; simp
theorem any_no (f : List Int) : f.any badl = false ↔ ∀ z ∈ f, 0 ≤ z ∧ z ≤ 15 := by
  rw [List.any_eq_false]
  constructor
  · intro h z hz; exact (badl_no z).1 (by simpa using h z hz)
  · intro h z hz; simp [(badl_no z).2 (h z hz)]
theorem nat_len (f : List Int) : (nat f).length = f.length := by simp [nat]
theorem nat_back (f : List Int) (h : ∀ z ∈ f, 0 ≤ z ∧ z ≤ 15) : (nat f).map Int.ofNat = f := by
  unfold nat
  rw [List.map_map]
  conv => rhs; rw [← List.map_id f]
  apply List.map_congr_left
  intro z hz
  have := h z hz
  simp [Function.comp, Int.toNat_of_nonneg this.1]
theorem at0_of (l : List Nat) (i : Nat) (h : i < l.length) : at0 l i = l[i] := by unfold at0; rw [List.getD_eq_getElem?_getD, List.getElem?_eq_getElem h]; rfl
theorem at0_out (l : List Nat) (i : Nat) (h : l.length ≤ i) : at0 l i = 0 := by unfold at0; rw [List.getD_eq_getElem?_getD, List.getElem?_eq_none h]; rfl
theorem nat_at (f : List Int) (h : ∀ z ∈ f, 0 ≤ z ∧ z ≤ 15) (i : Nat) : fr f i = (at0 (nat f) i : Int) := by rw [← fr_nat, nat_back f h]
theorem nat_bd (f : List Int) (h : ∀ z ∈ f, 0 ≤ z ∧ z ≤ 15) (i : Nat) : at0 (nat f) i ≤ 15 := by
  by_cases hi : i < (nat f).length
  · rw [at0_of _ i hi]
    obtain ⟨z, hz, e⟩ := List.mem_map.1 (List.getElem_mem hi)
    have := h z hz
    omega
  · rw [at0_out _ i (by omega)]; omega
theorem nat_of (L : List Nat) : nat (L.map Int.ofNat) = L := by
  unfold nat
  rw [List.map_map]
  conv => rhs; rw [← List.map_id L]
  apply List.map_congr_left
  intro z _
  rfl
theorem of_bd (L : List Nat) (h : ∀ c, at0 L c ≤ 15) : ∀ z ∈ L.map Int.ofNat, (0 : Int) ≤ z ∧ z ≤ 15 := by
  intro z hz
  obtain ⟨n, hn, rfl⟩ := List.mem_map.1 hz
  obtain ⟨i, hi, rfl⟩ := List.getElem_of_mem hn
  have := h i
  rw [at0_of L i hi] at this
  simp; omega
theorem mayL_of (L : List Nat) (hl : L.length = 65) (h : ∀ c, at0 L c ≤ 15) : mayL (L.map Int.ofNat) = okL L := by
  unfold mayL
  rw [(any_no _).2 (of_bd L h), nat_of]; simp [hl]
theorem okL_iff (L : List Nat) : okL L = true ↔ mC L 65 = 0 ∨ mS L 65 = 32768 ∨ (mC L 65 = 1 ∧ mS L 65 = 16384) := by
  unfold okL; simp [or_assoc]
/-- The number of those that are there bounds how much they take. -/
theorem mS_mC (L : List Nat) : ∀ i, mS L i ≤ mC L i * 16384
  | 0 => by simp [mS, mC]
  | i + 1 => by
    have ih := mS_mC L i
    rw [mS_succ, mC_succ]
    by_cases h : 0 < at0 L i
    · rw [if_pos h, if_pos h, Nat.add_mul]
      have : 2 ^ (15 - at0 L i) ≤ 16384 := Nat.le_trans (Nat.pow_le_pow_right (by omega) (by omega : 15 - at0 L i ≤ 14)) (by decide)
      omega
    · rw [if_neg h, if_neg h]; omega
def row (L : List Nat) (n m : Nat) : List Nat := (List.range m).filter (fun c => decide (at0 L c = n))
end Go.Proofs.Ythjokhfjfiaaiaa
