/-
  One length set anew; one class alone: lists and numbers, no Go in sight.
-/
import Derived.Test.YthjokhfjfiaaiaaCm
namespace Go.Proofs.Ythjokhfjfiaaiaa
open Go.ChangeShapes Go.WideShapes Go.ChangeAt Go.RowKit
open Go.ChangeMaps (open_string shut_string)

/-! ### one length set anew -/
def wt (l : Nat) : Nat := if 0 < l then 2 ^ (15 - l) else 0
def ct (l : Nat) : Nat := if 0 < l then 1 else 0
theorem at0_set (L : List Nat) (k v c : Nat) (h : k < L.length) : at0 (L.set k v) c = if c = k then v else at0 L c := by
  unfold at0
  rw [List.getD_eq_getElem?_getD, List.getD_eq_getElem?_getD, List.getElem?_set]
  by_cases e : k = c
  · subst e; rw [if_pos rfl, if_pos h, if_pos rfl]; rfl
  · rw [if_neg e, if_neg (fun h => e h.symm)]
theorem mS_set (L : List Nat) (k v : Nat) (h : k < L.length) : ∀ i, mS (L.set k v) i + (if k < i then wt (at0 L k) else 0) = mS L i + (if k < i then wt v else 0)
  | 0 => by simp [mS]
  | i + 1 => by
    have ih := mS_set L k v h i
    rw [mS_succ, mS_succ, at0_set L k v i h]
    by_cases e : i = k
    · subst e
      rw [if_neg (Nat.lt_irrefl i), if_neg (Nat.lt_irrefl i)] at ih
      rw [if_pos rfl, if_pos (Nat.lt_succ_self i), if_pos (Nat.lt_succ_self i)]
      unfold wt; omega
    · rw [if_neg e]
      by_cases l : k < i
      · rw [if_pos l, if_pos l] at ih
        have e1 : k < i + 1 := by omega
        rw [if_pos e1, if_pos e1]; omega
      · rw [if_neg l, if_neg l] at ih
        have e1 : ¬ k < i + 1 := by omega
        rw [if_neg e1, if_neg e1]; omega
theorem mC_set (L : List Nat) (k v : Nat) (h : k < L.length) : ∀ i, mC (L.set k v) i + (if k < i then ct (at0 L k) else 0) = mC L i + (if k < i then ct v else 0)
  | 0 => by simp [mC]
  | i + 1 => by
    have ih := mC_set L k v h i
    rw [mC_succ, mC_succ, at0_set L k v i h]
    by_cases e : i = k
    · subst e
      rw [if_neg (Nat.lt_irrefl i), if_neg (Nat.lt_irrefl i)] at ih
      rw [if_pos rfl, if_pos (Nat.lt_succ_self i), if_pos (Nat.lt_succ_self i)]
      unfold ct; omega
    · rw [if_neg e]
      by_cases l : k < i
      · rw [if_pos l, if_pos l] at ih
        have e1 : k < i + 1 := by omega
        rw [if_pos e1, if_pos e1]; omega
      · rw [if_neg l, if_neg l] at ih
        have e1 : ¬ k < i + 1 := by omega
        rw [if_neg e1, if_neg e1]; omega
theorem nat_set (f : List Int) (k v : Nat) : nat (f.set k (v : Int)) = (nat f).set k v := by unfold nat; rw [List.map_set]; rfl
/-! ### one class alone -/
def lZ : List Int := List.replicate 65 (0 : Int)
theorem nat_Z : nat lZ = List.replicate 65 0 := by decide +kernel
theorem Z_at (c : Nat) : at0 (nat lZ) c = 0 := by
  rw [nat_Z]; unfold at0
  rw [List.getD_eq_getElem?_getD, List.getElem?_replicate]
  split <;> rfl
theorem may_Z : mayL lZ = true := by decide +kernel
theorem Z_sums : mS (nat lZ) 65 = 0 ∧ mC (nat lZ) 65 = 0 := by decide +kernel
theorem one_sums (k v : Nat) (hk : k < 65) (hv : 0 < v) : mS (nat (lZ.set k (v : Int))) 65 = 2 ^ (15 - v) ∧ mC (nat (lZ.set k (v : Int))) 65 = 1 := by
  have hl : k < (nat lZ).length := by rw [nat_Z, List.length_replicate]; exact hk
  have h1 := mS_set (nat lZ) k v hl 65
  have h2 := mC_set (nat lZ) k v hl 65
  rw [if_pos hk, if_pos hk, Z_at, Z_sums.1] at h1
  rw [if_pos hk, if_pos hk, Z_at, Z_sums.2] at h2
  rw [nat_set]
  unfold wt at h1
  unfold ct at h2
  rw [if_pos hv] at h1 h2
  simp only [Nat.lt_irrefl, if_false, Nat.add_zero, Nat.zero_add] at h1 h2
  exact ⟨h1, h2⟩
theorem one_bd (k v : Nat) (_hk : k < 65) (hv : v ≤ 15) : ∀ z ∈ lZ.set k (v : Int), 0 ≤ z ∧ z ≤ 15 := by
  intro z hz
  rcases List.mem_or_eq_of_mem_set hz with h | h
  · have := List.eq_of_mem_replicate h; omega
  · omega
theorem one_may (k v : Nat) (hk : k < 65) (hv : v ≤ 15) : mayL (lZ.set k (v : Int)) = okL (nat (lZ.set k (v : Int))) := by
  unfold mayL
  rw [(any_no _).2 (one_bd k v hk hv)]
  simp [lZ]
theorem one_no (k m : Nat) (hk : k < 65) (hm : m < 14) : mayL (lZ.set k ((2 + m : Nat) : Int)) = false := by
  obtain ⟨s, c⟩ := one_sums k (2 + m) hk (by omega)
  rw [one_may k (2 + m) hk (by omega)]
  unfold okL
  rw [s, c]
  have : (2 : Nat) ^ (15 - (2 + m)) ≤ 8192 := Nat.le_trans (Nat.pow_le_pow_right (by omega) (by omega : 15 - (2 + m) ≤ 13)) (by decide)
  generalize (2 : Nat) ^ (15 - (2 + m)) = z at *
  have h1 : ¬ z = 32768 := by omega
  have h2 : ¬ z = 16384 := by omega
  simp [h1, h2]
end Go.Proofs.Ythjokhfjfiaaiaa
