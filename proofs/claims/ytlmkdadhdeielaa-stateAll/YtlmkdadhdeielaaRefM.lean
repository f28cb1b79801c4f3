/-
  What the reference's Sum comes to, step by step.
-/
import Derived.Test.YtlmkdadhdeielaaRefW
namespace Go.Proofs.Ytlmkdadhdeielaa
open Go.ChangeShapes Go.WideShapes Go.ChangeAt Go.RowKit
open Go.ChangeMaps (open_string shut_string)

theorem start_at (a : Nat) (l : List UInt8) : (start a l).2 = l.drop (32 * (l.length / 32)) := by
  by_cases h : l.length < 32
  · rw [start_few a l h, Nat.div_eq_of_lt h]; rfl
  · rw [start_many a l h]; rfl
theorem each_at (g : Nat → List UInt8 → Nat) (sz A h : Nat) (l : List UInt8) : (each g sz h (l.drop A)).2 = l.drop (A + sz * ((l.length - A) / sz)) := by
  unfold each
  rw [List.length_drop, List.drop_drop]
theorem each_fst (g : Nat → List UInt8 → Nat) (sz A h k : Nat) (l : List UInt8) (hk : (l.length - A) / sz = k) : (each g sz h (l.drop A)).1 = pieces g sz (l.drop A) h k := by
  unfold each
  rw [List.length_drop, hk]
theorem pieces_next (g : Nat → List UInt8 → Nat) (sz A h k : Nat) (l : List UInt8) : pieces g sz (l.drop A) h (k + 1) = g (pieces g sz (l.drop A) h k) ((l.drop (A + sz * k)).take sz) := by
  rw [pieces, List.drop_drop]
/-- As far as k pieces from the place A on. -/
def TRel (g : Nat → List UInt8 → Nat) (sz : Nat) (l : List UInt8) (A h : Nat) (w : World) (hv av : Value) (wr : World) : Prop :=
  ∃ k : Nat, A + sz * k ≤ l.length ∧ hv = .int .u64 (pieces g sz (l.drop A) h k : Nat) ∧ av = .int .i64 (A + sz * k : Nat) ∧ Below w.heap.size w wr

/-- What a word does to h, as the reference says it. -/
theorem word_facts (h : Nat) (hh : h < 18446744073709551616) (b : List UInt8) : ∃ r x y : Nat, rnd 0 (wval b) = r ∧ bits .xor .u64 (h : Int) (r : Int) = (x : Int) ∧ x < 18446744073709551616 ∧ 
    IntKind.u64.wrap (((rol x 27 : Nat) : Int) * 11400714785074694791) = (y : Int) ∧ IntKind.u64.wrap ((y : Int) + 9650029242287828579) = ((hword h b : Nat) : Int) := by
  have lr := rnd_lt 0 (wval b)
  refine ⟨_, h ^^^ rnd 0 (wval b), _, rfl, u64_xor_nat h _ hh lr, xor_lt _ _ hh lr, mul1_bits _, ?_⟩
  rw [p4_bits, hword_def h b _ rfl]
theorem half_facts (h : Nat) (hh : h < 18446744073709551616) (b : List UInt8) : ∃ r x y : Nat, IntKind.u64.wrap (((wval b : Nat) : Int) * 11400714785074694791) = (r : Int) ∧ bits .xor .u64 (h : Int) (r : Int) = (x : Int) ∧ x < 18446744073709551616 ∧ 
    IntKind.u64.wrap (((rol x 23 : Nat) : Int) * 14029467366897019727) = (y : Int) ∧ IntKind.u64.wrap ((y : Int) + 1609587929392839161) = ((hhalf h b : Nat) : Int) := by
  have lr := m64 (wval b * 11400714785074694791)
  refine ⟨_, h ^^^ (wval b * 11400714785074694791 % 18446744073709551616), _, mul1_bits _, u64_xor_nat h _ hh lr, xor_lt _ _ hh lr, mul2_bits _, ?_⟩
  rw [p3_bits, hhalf_def h b _ rfl]
theorem single_facts (h : Nat) (hh : h < 18446744073709551616) (c : UInt8) : ∃ r x : Nat, IntKind.u64.wrap ((c.toNat : Int) * 2870177450012600261) = (r : Int) ∧ bits .xor .u64 (h : Int) (r : Int) = (x : Int) ∧ x < 18446744073709551616 ∧ 
    IntKind.u64.wrap (((rol x 11 : Nat) : Int) * 11400714785074694791) = ((hsingle h [c] : Nat) : Int) := by
  have lr := m64 (wval [c] * 2870177450012600261)
  have e := mul5_bits (wval [c])
  rw [wval_one] at e
  rw [wval_one] at lr
  refine ⟨_, h ^^^ (c.toNat * 2870177450012600261 % 18446744073709551616), e, u64_xor_nat h _ hh lr, xor_lt _ _ hh lr, ?_⟩
  rw [mul1_bits, hsingle_def h [c] _ (by rw [wval_one])]
theorem bel_drewN {w a : World} (h : Below w.heap.size w a) (m : Nat) : Below w.heap.size w (a.drewN m) := below_drewN h m
end Go.Proofs.Ytlmkdadhdeielaa
