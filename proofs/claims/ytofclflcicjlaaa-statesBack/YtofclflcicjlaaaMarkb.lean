/-
  Numbers put in a row with a mark behind them, the last byte, the place of the highest bit: no Go in sight; each condition stands at its theorem.
-/
import Derived.Test.YtofclflcicjlaaaRr
import Derived.Test.YtofclflcicjlaaaLy
import Derived.Test.YtofclflcicjlaaaC2
import Derived.Test.YtofclflcicjlaaaSg
import Derived.Test.YtofclflcicjlaaaBuh
import Derived.Test.YtofclflcicjlaaaTyh
import Derived.Test.YtofclflcicjlaaaPushh
import Derived.Test.YtofclflcicjlaaaOfyh
import Derived.Test.YtofclflcicjlaaaRpyh
import Derived.WalkKit
import Derived.ProofKit
import Derived.OpenShut
import Derived.Deep.QuietTactic
import Derived.BigQuiet
import Derived.Deep.RegionHeld3
import Derived.Below
import Derived.Deep.Heap
import Derived.ArgAppend
import Derived.Maps.AppendAt
import Derived.Laws.IdiomStrings
import Derived.Deep.OwnRows
import Derived.Deep.RegionLaw
import Derived.Handy
import Derived.Deep.RegionWith
import Derived.OwnWalk
import Derived.Laws.OwnMore
import Derived.Lib.AppendZeros
import Derived.Laws.BitsAllLaws
import Derived.Laws.IdiomCopy
import Derived.BigRegion
namespace Go.Proofs.Ytofclflcicjlaaa
set_option maxRecDepth 100000
open Go.ChangeShapes Go.WideShapes Go.ChangeAt Go.RowKit
open Go.ChangeMaps (open_string shut_string)
theorem szs_le (K : Nat → Nat) (hK : ∀ i, K i ≤ 64) (i : Nat) : szs K i ≤ 64 * i := by
  induction i with
  | zero => simp [szs]
  | succ i ih => have := hK i; rw [szs]; omega
/-- The bytes of N and a bit 1 above its sz bits. -/
def sealed (N sz : Nat) : ByteArray := bs (byt (N + 2 ^ sz) (sz / 8 + 1))
theorem sealed_size (N sz : Nat) : (sealed N sz).size = sz / 8 + 1 := by rw [sealed, size_bs, byt_len]
theorem mark_lt (N sz : Nat) (h : N < 2 ^ sz) : N + 2 ^ sz < 2 ^ (sz + 1) := by rw [Nat.pow_succ]; omega
theorem sealed_le (N sz : Nat) (h : N < 2 ^ sz) : le (sealed N sz).data.toList = N + 2 ^ sz := by
  rw [sealed, bs_data, le_byt, Nat.mod_eq_of_lt]
  have := lt_byc _ _ (mark_lt N sz h)
  rwa [show byc (sz + 1) = sz / 8 + 1 from by unfold byc; omega] at this

/-- Where the highest 1 stands. -/
theorem log_eq (x k : Nat) (h1 : 2 ^ k ≤ x) (h2 : x < 2 ^ (k + 1)) : Nat.log2 x = k := by
  have h0 : x ≠ 0 := by have : 0 < 2 ^ k := Nat.pow_pos (by decide); omega
  exact (Nat.log2_eq_iff h0).2 ⟨h1, h2⟩
theorem log_mark (N sz : Nat) (h : N < 2 ^ sz) : Nat.log2 (N + 2 ^ sz) = sz := log_eq _ _ (by omega) (mark_lt N sz h)

/-- The last byte; 0 if there is none. -/
def last (s : ByteArray) : Nat := le s.data.toList / 256 ^ (s.size - 1)
theorem last_get (s : ByteArray) (i : Nat) (h : i < s.size) (e : i + 1 = s.size) : s[i].toNat = last s := by
  have h1 := le_lt s.data.toList
  have h2 := le_get s.data.toList i (by rw [len_data]; exact h)
  rw [len_data, ← e, Nat.pow_succ] at h1
  have h3 : le s.data.toList / 256 ^ i < 256 := (Nat.div_lt_iff_lt_mul (Nat.pow_pos (by decide))).2 (by rw [Nat.mul_comm]; exact h1)
  rw [Nat.mod_eq_of_lt h3] at h2
  rw [last, show s.size - 1 = i from by omega, h2]
  rfl
theorem last_nil (s : ByteArray) (h : s.size = 0) : last s = 0 := by
  have h1 := le_lt s.data.toList
  rw [len_data, h, Nat.pow_zero, Nat.lt_one_iff] at h1
  rw [last, h1, Nat.zero_div]
theorem last_lt (s : ByteArray) : last s < 256 := by
  by_cases h : s.size = 0
  · rw [last_nil s h]; decide
  · rw [← last_get s (s.size - 1) (by omega) (by omega)]; exact UInt8.toNat_lt _
theorem log_last (s : ByteArray) (h : last s ≠ 0) : Nat.log2 (le s.data.toList) = 8 * (s.size - 1) + Nat.log2 (last s) := by
  have h1 : 2 ^ Nat.log2 (last s) ≤ last s := Nat.log2_self_le h
  have h2 : last s < 2 ^ (Nat.log2 (last s) + 1) := Nat.lt_log2_self
  have hp : 0 < 256 ^ (s.size - 1) := Nat.pow_pos (by decide)
  have e : 2 ^ (8 * (s.size - 1)) = 256 ^ (s.size - 1) := (pow256 _).symm
  refine log_eq _ _ ?_ ?_
  · rw [Nat.pow_add, e, Nat.mul_comm]; exact (Nat.le_div_iff_mul_le hp).1 h1
  · rw [Nat.add_assoc, Nat.pow_add, e, Nat.mul_comm]; exact (Nat.div_lt_iff_lt_mul hp).1 h2
theorem log_le7 (s : ByteArray) (h : last s ≠ 0) : Nat.log2 (last s) ≤ 7 := by
  have h1 : 2 ^ Nat.log2 (last s) ≤ last s := Nat.log2_self_le h
  have h2 := last_lt s
  by_cases g : Nat.log2 (last s) ≤ 7
  · exact g
  · have : 2 ^ 8 ≤ 2 ^ Nat.log2 (last s) := pow_le_of (by omega)
    have h8 : (2 : Nat) ^ 8 = 256 := rfl
    omega
theorem log_lt (s : ByteArray) (h : last s ≠ 0) : 0 < s.size ∧ Nat.log2 (le s.data.toList) < 8 * s.size := by
  have h0 : 0 < s.size := by
    by_cases g : s.size = 0
    · exact absurd (last_nil s g) h
    · omega
  have := log_last s h
  have := log_le7 s h
  exact ⟨h0, by omega⟩
theorem last_sealed (N sz : Nat) (h : N < 2 ^ sz) : last (sealed N sz) ≠ 0 := by
  rw [last, sealed_le N sz h, sealed_size, Nat.add_sub_cancel, pow256]
  have h1 : 2 ^ (8 * (sz / 8)) ≤ N + 2 ^ sz := Nat.le_trans (pow_le_of (by omega)) (Nat.le_add_left _ _)
  have := Nat.div_pos h1 (Nat.pow_pos (by decide))
  omega
/-- Above the highest 1 all bits are 0, and it is 1. -/
theorem got_mark (x : Nat) (h : x ≠ 0) : got x (Nat.log2 x) 1 = 1 := by
  have h1 : 2 ^ Nat.log2 x ≤ x := Nat.log2_self_le h
  have h2 : x < 2 ^ (Nat.log2 x + 1) := Nat.lt_log2_self
  have hp : 0 < 2 ^ Nat.log2 x := Nat.pow_pos (by decide)
  unfold got
  have h3 : 1 ≤ x / 2 ^ Nat.log2 x := (Nat.le_div_iff_mul_le hp).2 (by omega)
  have h4 : x / 2 ^ Nat.log2 x < 2 := (Nat.div_lt_iff_lt_mul hp).2 (by rw [Nat.mul_comm, ← Nat.pow_succ]; exact h2)
  omega
theorem got_above (x a : Nat) (h : Nat.log2 x < a) : got x a 1 = 0 := by
  have h2 : x < 2 ^ (Nat.log2 x + 1) := Nat.lt_log2_self
  unfold got
  rw [Nat.div_eq_of_lt (Nat.lt_of_lt_of_le h2 (pow_le_of h)), Nat.zero_mod]
end Go.Proofs.Ytofclflcicjlaaa
