/-
  What a text that comes in pieces comes to: no Go in sight.
-/
import Derived.Test.YtlmkdadhdeielaaSteps
namespace Go.Proofs.Ytlmkdadhdeielaa
open Go.ChangeShapes Go.WideShapes Go.ChangeAt Go.RowKit
open Go.ChangeMaps (open_string shut_string)

/-! ### a text that comes in pieces -/
theorem pieces_app {α : Type} (g : α → List UInt8 → α) (sz : Nat) (l m : List UInt8) (a : α) : ∀ k, sz * k ≤ l.length → pieces g sz (l ++ m) a k = pieces g sz l a k
  | 0, _ => rfl
  | k + 1, h => by
    rw [Nat.mul_succ] at h
    rw [pieces, pieces, pieces_app g sz l m a k (by omega)]
    congr 1
    rw [List.drop_append_of_le_length (by omega), List.take_append_of_le_length (by rw [List.length_drop]; omega)]
/-- What is left behind the last step. -/
def rest (l : List UInt8) : List UInt8 := l.drop (32 * (l.length / 32))
/-- The four behind all steps. -/
def four4 (seed : Nat) (l : List UInt8) : F4 := pieces step4 32 l (new4 seed) (l.length / 32)
theorem rest_len (l : List UInt8) : (rest l).length = l.length % 32 := by
  unfold rest; rw [List.length_drop]; omega
theorem four4_fits (seed : Nat) (hs : seed < 18446744073709551616) (l : List UInt8) : Fits (four4 seed l) := pieces_pres Fits step4 step4_fits 32 l (new4 seed) (new4_fits seed hs) _
theorem four4_few (seed : Nat) (l : List UInt8) (h : l.length < 32) : four4 seed l = new4 seed := by
  unfold four4; rw [Nat.div_eq_of_lt h]; rfl
theorem rest_few (l : List UInt8) (h : l.length < 32) : rest l = l := by
  unfold rest; rw [Nat.div_eq_of_lt h]; rfl
/-- A piece that fills no step. -/
theorem rest_app (l m : List UInt8) (h : l.length % 32 + m.length < 32) : rest (l ++ m) = rest l ++ m := by
  unfold rest
  rw [List.length_append, show (l.length + m.length) / 32 = l.length / 32 from by omega, List.drop_append_of_le_length (by omega)]
theorem four4_app (seed : Nat) (l m : List UInt8) (h : l.length % 32 + m.length < 32) : four4 seed (l ++ m) = four4 seed l := by
  unfold four4
  rw [List.length_append, show (l.length + m.length) / 32 = l.length / 32 from by omega, pieces_app _ _ _ _ _ _ (by omega)]
/-- A piece that fills one. -/
theorem rest_full (l m : List UInt8) (h : l.length % 32 + m.length = 32) : rest (l ++ m) = [] := by
  apply List.eq_nil_of_length_eq_zero
  rw [rest_len, List.length_append]; omega
theorem four4_full (seed : Nat) (l m : List UInt8) (h : l.length % 32 + m.length = 32) : four4 seed (l ++ m) = step4 (four4 seed l) (rest l ++ m) := by
  unfold four4 rest
  rw [List.length_append, show (l.length + m.length) / 32 = l.length / 32 + 1 from by omega, pieces, pieces_app _ _ _ _ _ _ (by omega), List.drop_append_of_le_length (by omega)]
  congr 1
  exact List.take_of_length_le (by rw [List.length_append, List.length_drop]; omega)
/-- The seed with which the sum of what is left is that of all. -/
def lseed (seed : Nat) (l : List UInt8) : Nat :=
  if l.length < 32 then seed else (join4 (four4 seed l) + (l.length - l.length % 32) + 15576566623696951355) % 18446744073709551616
theorem lseed_lt (seed : Nat) (hs : seed < 18446744073709551616) (l : List UInt8) : lseed seed l < 18446744073709551616 := by
  unfold lseed
  split
  · exact hs
  · exact m64 _
theorem ahead_eq (n n' : Nat) (a a' : Nat) (r : List UInt8) (h : (a + n) % 18446744073709551616 = (a' + n') % 18446744073709551616) : ahead n (a, r) = ahead n' (a', r) := by
  unfold ahead most
  dsimp only
  rw [h]
theorem sum_left (seed : Nat) (l : List UInt8) : sum (lseed seed l) (rest l) = sum seed l := by
  by_cases h : l.length < 32
  · rw [rest_few l h]; unfold lseed; rw [if_pos h]
  · have h1 : (rest l).length < 32 := by rw [rest_len]; omega
    have h2 : lseed seed l = (join4 (four4 seed l) + (l.length - l.length % 32) + 15576566623696951355) % 18446744073709551616 := by unfold lseed; rw [if_neg h]
    have h3 : start seed l = (join4 (four4 seed l), rest l) := by unfold start; rw [if_neg h]; rfl
    have h4 : start (lseed seed l) (rest l) = ((lseed seed l + 2870177450012600261) % 18446744073709551616, rest l) := by unfold start; rw [if_pos h1]
    unfold sum
    rw [h3, h4, h2]
    generalize join4 (four4 seed l) = j
    refine congrArg mix (ahead_eq _ _ _ _ _ ?_)
    rw [rest_len]
    omega
/-- The kept bytes behind a piece. -/
theorem kept_app (k r m : List UInt8) (n : Nat) (hn : n ≤ k.length) (h : k.take n = r) : (k.take n ++ m ++ k.drop (n + m.length)).take (n + m.length) = r ++ m := by
  rw [List.take_append_of_le_length (by rw [List.length_append, List.length_take]; omega), List.take_of_length_le (by rw [List.length_append, List.length_take]; omega), h]
theorem kept_full (k r m : List UInt8) (n : Nat) (h : k.take n = r) (hk : k.length = n + m.length) : k.take n ++ m ++ k.drop (n + m.length) = r ++ m := by
  rw [← hk, List.drop_length, List.append_nil, h]
theorem kept_len (k m : List UInt8) (n : Nat) (h : n + m.length ≤ k.length) : (k.take n ++ m ++ k.drop (n + m.length)).length = k.length := by
  rw [List.length_append, List.length_append, List.length_take, List.length_drop]; omega
theorem lseed_bits (j n : Nat) : IntKind.u64.wrap (IntKind.u64.wrap ((j : Int) + IntKind.u64.wrap (n : Int)) - 2870177450012600261) = (((j + n + 15576566623696951355) % 18446744073709551616 : Nat) : Int) := by
  simp only [IntKind.wrap, IntKind.bits, IntKind.signed]; simp; omega
end Go.Proofs.Ytlmkdadhdeielaa
