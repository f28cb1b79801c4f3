/-
  What the walks of package zig come to, as plain functions on numbers, and what holds of them: no Go in sight; each condition stands at its theorem.
-/
import Derived.Lib.BitFns
import Derived.Laws.BitsAllLaws
import Derived.WalkSmall
namespace Go.Proofs.Ytnnecccnoemkpaa

def zmap (v : Int) : Int := if v < 0 then -2 * v - 1 else 2 * v
def zback (u : Int) : Int := if u % 2 = 1 then -(u / 2) - 1 else u / 2
def blen (u : Int) : Int := (Lib.bitLen u.toNat : Int)
def hi (c : Int) : Int := 2 ^ (c.toNat - 1)
def srest (u : Int) : Int := if u = 0 then 0 else u - hi (blen u)
def jok (c r : Int) : Bool := if c = 0 then decide (r = 0) else decide (1 ≤ c ∧ c ≤ 64 ∧ r < hi c)
def pfold (c r : Int) : Int := if jok c r = true then (if c = 0 then 0 else hi c + r) else 0
def jval (c r : Int) : Int := if jok c r = true then (if c = 0 then 0 else zback (hi c + r)) else 0

theorem zmap_neg (v : Int) (h : v < 0) : zmap v = -2 * v - 1 := by simp [zmap, h]
theorem zmap_pos (v : Int) (h : ¬ v < 0) : zmap v = 2 * v := by simp [zmap, h]
theorem zmap_bd (v : Int) (h1 : -9223372036854775808 ≤ v) (h2 : v ≤ 9223372036854775807) : 0 ≤ zmap v ∧ zmap v ≤ 18446744073709551615 := by
  unfold zmap; split <;> omega
theorem zback_bd (u : Int) (h1 : 0 ≤ u) (h2 : u ≤ 18446744073709551615) : -9223372036854775808 ≤ zback u ∧ zback u ≤ 9223372036854775807 := by
  unfold zback; split <;> omega
theorem zback_zmap (v : Int) : zback (zmap v) = v := by unfold zback zmap; split <;> split <;> omega
theorem zmap_zback (u : Int) (h : 0 ≤ u) : zmap (zback u) = u := by unfold zback zmap; split <;> split <;> omega
theorem zmap_inj (v w : Int) : zmap v = zmap w ↔ v = w := ⟨fun h => by rw [← zback_zmap v, h, zback_zmap], fun h => by rw [h]⟩

theorem hi_pos (c : Int) : 0 < hi c := Int.pow_pos (by omega)
theorem hi_nat (k : Nat) : hi ((k : Int) + 1) = 2 ^ k := by
  unfold hi
  have : ((k : Int) + 1).toNat - 1 = k := by omega
  rw [this]
theorem hi_le (c : Int) (h : c ≤ 64) : hi c ≤ 9223372036854775808 := by
  unfold hi
  have h1 : (2 : Int) ^ (c.toNat - 1) ≤ 2 ^ 63 := by exact_mod_cast Nat.pow_le_pow_right (by omega) (by omega : c.toNat - 1 ≤ 63)
  omega
theorem hi_succ (c : Int) (h : 1 ≤ c) : hi (c + 1) = 2 * hi c := by
  obtain ⟨k, hk⟩ : ∃ k : Nat, c = k + 1 := ⟨(c - 1).toNat, by omega⟩
  subst hk
  rw [hi_nat, show ((k : Int) + 1 + 1) = ((k + 1 : Nat) : Int) + 1 from by omega, hi_nat, Int.pow_succ]; omega
theorem hi_mono (c d : Int) (h : c ≤ d) : hi c ≤ hi d := by
  unfold hi; exact_mod_cast Nat.pow_le_pow_right (by omega) (by omega : c.toNat - 1 ≤ d.toNat - 1)
theorem wrap_hi (c : Int) (h : c ≤ 64) : IntKind.u64.wrap (2 ^ (c.toNat - 1)) = hi c := by
  have h1 := hi_pos c
  have h2 := hi_le c h
  unfold hi at *
  simp only [IntKind.wrap, IntKind.bits, IntKind.signed]
  simp
  omega

theorem bitLen_spec : ∀ (n : Nat), 0 < n → n < 2 ^ 64 → 1 ≤ Lib.bitLen n ∧ Lib.bitLen n ≤ 64 ∧ 2 ^ (Lib.bitLen n - 1) ≤ n ∧ n < 2 ^ (Lib.bitLen n) := by
  intro n
  induction n using Nat.strongRecOn with
  | ind n ih =>
    intro h0 h1
    by_cases h : n = 1
    · subst h; decide
    · have hh := Lib.bitLen_half n (by omega) h1
      obtain ⟨a, b, c, d⟩ := ih (n / 2) (by omega) (by omega) (by omega)
      have e : Lib.bitLen n - 1 = Lib.bitLen (n / 2) - 1 + 1 := by omega
      have c' : 2 ^ (Lib.bitLen n - 1) ≤ n := by rw [e, Nat.pow_succ]; omega
      have d' : n < 2 ^ Lib.bitLen n := by rw [hh, Nat.add_comm, Nat.pow_succ]; omega
      refine ⟨by omega, ?_, c', d'⟩
      by_cases g : Lib.bitLen n ≤ 64
      · exact g
      · exfalso
        have : 2 ^ 64 ≤ 2 ^ (Lib.bitLen n - 1) := Nat.pow_le_pow_right (by omega) (by omega)
        omega

theorem blen_zero : blen 0 = 0 := by decide
theorem blen_spec (u : Int) (h0 : 0 < u) (h1 : u ≤ 18446744073709551615) : 1 ≤ blen u ∧ blen u ≤ 64 ∧ hi (blen u) ≤ u ∧ u < 2 * hi (blen u) := by
  obtain ⟨n, rfl⟩ := Int.eq_ofNat_of_zero_le (Int.le_of_lt h0)
  obtain ⟨a, b, c, d⟩ := bitLen_spec n (by omega) (by omega)
  unfold blen hi
  simp only [Int.toNat_natCast]
  refine ⟨by omega, by omega, by exact_mod_cast c, ?_⟩
  have e : Lib.bitLen n = Lib.bitLen n - 1 + 1 := by omega
  rw [e, Nat.pow_succ] at d
  exact_mod_cast (by omega : n < 2 * 2 ^ (Lib.bitLen n - 1))
theorem blen_bd (u : Int) (h0 : 0 ≤ u) (h1 : u ≤ 18446744073709551615) : 0 ≤ blen u ∧ blen u ≤ 64 := by
  by_cases h : u = 0
  · subst h; rw [blen_zero]; omega
  · have := blen_spec u (by omega) h1; omega
theorem blen_of (u c : Int) (h1 : u ≤ 18446744073709551615) (hc : 1 ≤ c) (hl : hi c ≤ u) (hu : u < 2 * hi c) : blen u = c := by
  have hp := hi_pos c
  obtain ⟨a, b, p, q⟩ := blen_spec u (by omega) h1
  by_cases g : blen u < c
  · have := hi_mono (blen u + 1) c (by omega); rw [hi_succ _ a] at this; omega
  · by_cases k : c < blen u
    · have := hi_mono (c + 1) (blen u) (by omega); rw [hi_succ _ hc] at this; omega
    · omega
theorem blen_mono (u v : Int) (h0 : 0 ≤ u) (h : u ≤ v) (h1 : v ≤ 18446744073709551615) : blen u ≤ blen v := by
  by_cases e : u = 0
  · subst e; rw [blen_zero]; exact (blen_bd v h h1).1
  · obtain ⟨a, _, p, q⟩ := blen_spec u (by omega) (by omega)
    obtain ⟨a', _, p', q'⟩ := blen_spec v (by omega) h1
    by_cases g : blen v < blen u
    · have := hi_mono (blen v + 1) (blen u) (by omega); rw [hi_succ _ a'] at this; omega
    · omega
theorem srest_bd (u : Int) (h0 : 0 ≤ u) (h1 : u ≤ 18446744073709551615) : 0 ≤ srest u ∧ srest u ≤ 18446744073709551615 := by
  unfold srest
  split
  · omega
  · obtain ⟨a, b, p, q⟩ := blen_spec u (by omega) h1
    have := hi_pos (blen u)
    omega
theorem jok_split (u : Int) (h0 : 0 ≤ u) (h1 : u ≤ 18446744073709551615) : jok (blen u) (srest u) = true := by
  by_cases e : u = 0
  · subst e; decide
  · obtain ⟨a, b, p, q⟩ := blen_spec u (by omega) h1
    simp only [jok, srest, if_neg e, if_neg (by omega : ¬ blen u = 0), decide_eq_true_eq]
    omega
theorem jval_split (v : Int) (h1 : -9223372036854775808 ≤ v) (h2 : v ≤ 9223372036854775807) : jval (blen (zmap v)) (srest (zmap v)) = v := by
  obtain ⟨a, b⟩ := zmap_bd v h1 h2
  unfold jval
  rw [if_pos (jok_split _ a b)]
  by_cases e : zmap v = 0
  · rw [e, blen_zero, if_pos rfl]
    have : v = 0 := by unfold zmap at e; split at e <;> omega
    omega
  · obtain ⟨p, _, _, _⟩ := blen_spec _ (by omega : 0 < zmap v) b
    rw [if_neg (by omega), srest, if_neg e]
    rw [show hi (blen (zmap v)) + (zmap v - hi (blen (zmap v))) = zmap v from by omega, zback_zmap]
theorem pfold_bd (c r : Int) (hr : 0 ≤ r) : 0 ≤ pfold c r ∧ pfold c r ≤ 18446744073709551615 := by
  unfold pfold
  split
  · rename_i h
    split
    · omega
    · rename_i e
      simp only [jok, if_neg e, decide_eq_true_eq] at h
      have := hi_pos c
      have := hi_le c h.2.1
      omega
  · omega
theorem jval_pfold (c r : Int) (h : jok c r = true) : zback (pfold c r) = jval c r := by
  unfold pfold jval
  rw [if_pos h, if_pos h]
  split
  · decide
  · rfl
theorem jok_no (c r : Int) (h : jok c r = false) : pfold c r = 0 ∧ jval c r = 0 := by
  unfold pfold jval; rw [h]; simp

theorem not_i64 (v : Int) (h1 : -9223372036854775808 ≤ v) (h2 : v < 9223372036854775808) : bits .xor .i64 (-1) v = -1 - v := by
  show IntKind.i64.wrap ((BitVec.ofInt 64 (-1) ^^^ BitVec.ofInt 64 v).toNat : Int) = _
  have e1 : BitVec.ofInt 64 (-1) = BitVec.allOnes 64 := by decide
  rw [e1, BitVec.allOnes_xor, BitVec.toNat_not, BitVec.toNat_ofInt]
  simp [IntKind.wrap, IntKind.bits, IntKind.signed]
  omega
theorem or_one (x : Int) (h0 : 0 ≤ x) (h1 : x ≤ 18446744073709551614) (he : x % 2 = 0) : bits .or .u64 x 1 = x + 1 :=
  bits_join .u64 64 (by decide) (fun n a b => by simp [IntKind.wrap, IntKind.bits, IntKind.signed]; omega) 1 x 1 h0 (by omega) (by omega) (by omega) (by omega) (by omega)
theorem fold_bits (v : Int) (h1 : -9223372036854775808 ≤ v) (h : v < 0) :
    bits .or .u64 (IntKind.u64.wrap (IntKind.u64.wrap (bits .xor .i64 (-1) v) * 2)) 1 = zmap v := by
  rw [not_i64 v h1 (by omega)]
  have e : IntKind.u64.wrap (IntKind.u64.wrap (-1 - v) * 2) = (-1 - v) * 2 := by
    simp [IntKind.wrap, IntKind.bits, IntKind.signed]; omega
  rw [e, or_one _ (by omega) (by omega) (by omega), zmap_neg v h]
  omega
end Go.Proofs.Ytnnecccnoemkpaa
