/-
  Get for one who owns the reader: of bits that are there, of more than there are, of a wrong length.
-/
import Derived.Test.YtjojofcajabkeaaSeal
namespace Go.Proofs.Ytjojofcajabkeaa
open Go.ChangeShapes Go.WideShapes Go.ChangeAt Go.RowKit
open Go.ChangeMaps (open_string shut_string)

theorem gk_ok (a n : Nat) (h : n ≤ a) (h64 : n ≤ 64) : ge a n = 0 ∧ gk a n = n := by
  have e : ge a n = 0 := by unfold ge; rw [if_neg (by omega), if_neg (by omega)]
  exact ⟨e, by unfold gk; rw [e]; rfl⟩
theorem gk_more (a n : Nat) (h : a < n) (h64 : n ≤ 64) : ge a n = 2 ∧ gk a n = 0 := by
  have e : ge a n = 2 := by unfold ge; rw [if_neg (by omega), if_pos (by omega)]
  exact ⟨e, by unfold gk; rw [e]; rfl⟩
theorem gk_arg (a : Nat) (n : Int) (h : n < 0 ∨ 64 < n) : ge a n = 1 ∧ gk a n = 0 := by
  have e : ge a n = 1 := by unfold ge; rw [if_pos h]
  exact ⟨e, by unfold gk; rw [e]; rfl⟩
/-- A Get of n bits that are there, for an owner; of more than there are; of a wrong length. -/
theorem get_fit {w W : World} (A : Nat) (s : ByteArray) (a n b y : Nat) (h : Rd W A s a) (hu : w.heap.size ≤ A) (hb : Below w.heap.size w W) (hs : s.size ≤ 100000) (ha : a ≤ 8 * s.size) (hn : n ≤ 64) (e : b + n = a) (hy : got (le s.data.toList) b n = y) :
    Calls Try.prog 13 #[ptr A, .int .i64 n] W fun e W' => e = .returned (.tuple #[.int .u64 y, .int .i64 0]) ∧ Rd W' A s b ∧ Below w.heap.size w W' ∧ Chg (· = A) W W' := by
  obtain ⟨g1, g2⟩ := gk_ok a n (by omega) hn
  exact get_own A s a n h hu hb hs ha b y 0 (by rw [g2]; omega) (by rw [g2, show a - n = b from by omega]; exact hy) g1
theorem get_over {w W : World} (A : Nat) (s : ByteArray) (a n : Nat) (h : Rd W A s a) (hu : w.heap.size ≤ A) (hb : Below w.heap.size w W) (hs : s.size ≤ 100000) (ha : a ≤ 8 * s.size) (hn : n ≤ 64) (e : a < n) :
    Calls Try.prog 13 #[ptr A, .int .i64 n] W fun e W' => e = .returned (.tuple #[.int .u64 0, .int .i64 2]) ∧ Rd W' A s a ∧ Below w.heap.size w W' ∧ Chg (· = A) W W' := by
  obtain ⟨g1, g2⟩ := gk_more a n e hn
  exact get_own A s a n h hu hb hs ha a 0 2 (by rw [g2]; rfl) (by rw [g2, got_zero]) g1
theorem get_wrong {w W : World} (A : Nat) (s : ByteArray) (a : Nat) (n : Int) (h : Rd W A s a) (hu : w.heap.size ≤ A) (hb : Below w.heap.size w W) (hs : s.size ≤ 100000) (ha : a ≤ 8 * s.size) (hn : n < 0 ∨ 64 < n) :
    Calls Try.prog 13 #[ptr A, .int .i64 n] W fun e W' => e = .returned (.tuple #[.int .u64 0, .int .i64 1]) ∧ Rd W' A s a ∧ Below w.heap.size w W' ∧ Chg (· = A) W W' := by
  obtain ⟨g1, g2⟩ := gk_arg a n hn
  exact get_own A s a n h hu hb hs ha a 0 1 (by rw [g2]; rfl) (by rw [g2, got_zero]) g1
end Go.Proofs.Ytjojofcajabkeaa
