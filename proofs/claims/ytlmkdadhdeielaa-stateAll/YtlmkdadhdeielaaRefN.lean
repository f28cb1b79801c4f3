/-
  The four, as the reference has them: their words, and their joining.
-/
import Derived.Test.YtlmkdadhdeielaaRefM
namespace Go.Proofs.Ytlmkdadhdeielaa
open Go.ChangeShapes Go.WideShapes Go.ChangeAt Go.RowKit
open Go.ChangeMaps (open_string shut_string)

def lane (f : F4) (i : Nat) : Nat := if i = 0 then f.a else if i = 1 then f.b else if i = 2 then f.c else f.d
theorem four_cases {i : Nat} (h : i < 4) : i = 0 ∨ i = 1 ∨ i = 2 ∨ i = 3 := by omega
theorem lane_cell (f : F4) (i : Nat) (h : i < 4) : (cells4 f)[i]? = some (.int .u64 (lane f i : Nat)) := by
  rcases four_cases h with rfl | rfl | rfl | rfl <;> rfl
theorem lane_hl (f : F4) (h i : Nat) (hi : i < 4) : hl f h (i + 1) = hlane (hl f h i) (lane f i) := by
  rcases four_cases hi with rfl | rfl | rfl | rfl
  · show hl f h 1 = _; rw [hl0, hl1]; rfl
  · show hl f h 2 = _; rw [hl1, hl2]; rfl
  · show hl f h 3 = _; rw [hl2, hl3]; rfl
  · show hl f h 4 = _; rw [hl3, hl4]; rfl
theorem lane_st (f : F4) (l : List UInt8) (i : Nat) (hi : i < 4) : (cells4 (st f l i)).setIfInBounds i (.int .u64 (rnd (lane (st f l i) i) (wval ((l.drop (8 * i)).take 8)) : Nat)) = cells4 (st f l (i + 1)) := by
  rcases four_cases hi with rfl | rfl | rfl | rfl
  · rw [st1, show 8 * 0 = 0 from rfl, List.drop_zero]; exact set_a _ _
  · rw [st2]; exact set_b _ _
  · rw [st3]; exact set_c _ _
  · rw [st4]; exact set_d _ _
theorem lane_lt (f : F4) (hf : Fits f) (i : Nat) : lane f i < 18446744073709551616 := by
  unfold lane
  split
  · exact hf.1
  · split
    · exact hf.2.1
    · split
      · exact hf.2.2.1
      · exact hf.2.2.2
theorem word_in (l : List UInt8) (A i : Nat) (hi : i < 4) : ((((l.drop A).take 32).drop (8 * i)).take 8) = (l.drop (A + 8 * i)).take 8 := by
  rw [List.drop_take, List.drop_drop, List.take_take, Nat.min_eq_left (by omega)]
theorem piecesF_next (f : F4) (l : List UInt8) (k : Nat) : pieces step4 32 l f (k + 1) = step4 (pieces step4 32 l f k) ((l.drop (32 * k)).take 32) := by
  rw [pieces]
theorem st_end (f : F4) (l : List UInt8) : st f l 4 = step4 f l := by simp only [st]
theorem st_begin (f : F4) (l : List UInt8) : st f l 0 = f := by simp only [st]
/-- The outer loop: behind k times 32 bytes. -/
def ORel (f : F4) (l : List UInt8) (w : World) (av : Value) (wr : World) : Prop :=
  ∃ k : Nat, 32 * k ≤ l.length ∧ av = .int .i64 (32 * k : Nat) ∧ Blk wr w.heap.size (cells4 (pieces step4 32 l f k)) 22 ∧ Below w.heap.size w wr
/-- The inner loop: behind i words of them. -/
def IRel (f : F4) (l : List UInt8) (A : Nat) (w : World) (av iv : Value) (wr : World) : Prop :=
  ∃ i : Nat, i ≤ 4 ∧ av = .int .i64 (A + 8 * i : Nat) ∧ iv = .int .i64 i ∧ Blk wr w.heap.size (cells4 (st f ((l.drop A).take 32) i)) 22 ∧ Below w.heap.size w wr
/-- The joining loop. -/
def KRel (f : F4) (h : Nat) (W : World) (hv iv : Value) (wr : World) : Prop := ∃ i m : Nat, i ≤ 4 ∧ iv = .int .i64 i ∧ hv = .int .u64 (hl f h i : Nat) ∧ wr = W.drewN m
theorem join_h (f : F4) : ∃ s1 s2 h : Nat, IntKind.u64.wrap (((rol f.a 1 : Nat) : Int) + ((rol f.b 7 : Nat) : Int)) = (s1 : Int) ∧ IntKind.u64.wrap ((s1 : Int) + ((rol f.c 12 : Nat) : Int)) = (s2 : Int) ∧
    IntKind.u64.wrap ((s2 : Int) + ((rol f.d 18 : Nat) : Int)) = (h : Int) ∧ h < 18446744073709551616 ∧ hl f h 4 = join4 f :=
  ⟨_, _, _, wrapAdd _ _, wrapAdd _ _, wrapAdd _ _, m64 _, hl_join f⟩
theorem hlane_facts (h l : Nat) (hh : h < 18446744073709551616) : ∃ r x y : Nat, rnd 0 l = r ∧ bits .xor .u64 (h : Int) (r : Int) = (x : Int) ∧ IntKind.u64.wrap ((x : Int) * 11400714785074694791) = (y : Int) ∧
    IntKind.u64.wrap ((y : Int) + 9650029242287828579) = ((hlane h l : Nat) : Int) := by
  have lr := rnd_lt 0 l
  refine ⟨_, h ^^^ rnd 0 l, _, rfl, u64_xor_nat h _ hh lr, mul1_bits _, ?_⟩
  rw [p4_bits, hlane_def h l _ rfl]
end Go.Proofs.Ytlmkdadhdeielaa
