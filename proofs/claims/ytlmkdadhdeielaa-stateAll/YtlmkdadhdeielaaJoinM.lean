/-
  what joins the four, step by step.
-/
import Derived.Test.YtlmkdadhdeielaaEachF
namespace Go.Proofs.Ytlmkdadhdeielaa
open Go.ChangeShapes Go.WideShapes Go.ChangeAt Go.RowKit
open Go.ChangeMaps (open_string shut_string)

def hl (f : F4) (h : Nat) (i : Nat) : Nat :=
  if i = 0 then h else if i = 1 then hlane h f.a else if i = 2 then hlane (hlane h f.a) f.b else if i = 3 then hlane (hlane (hlane h f.a) f.b) f.c else hlane (hlane (hlane (hlane h f.a) f.b) f.c) f.d
theorem hl0 (f : F4) (h : Nat) : hl f h 0 = h := by unfold hl; rw [if_pos rfl]
theorem hl1 (f : F4) (h : Nat) : hl f h 1 = hlane h f.a := by unfold hl; rw [if_neg (by decide), if_pos rfl]
theorem hl2 (f : F4) (h : Nat) : hl f h 2 = hlane (hlane h f.a) f.b := by unfold hl; rw [if_neg (by decide), if_neg (by decide), if_pos rfl]
theorem hl3 (f : F4) (h : Nat) : hl f h 3 = hlane (hlane (hlane h f.a) f.b) f.c := by unfold hl; rw [if_neg (by decide), if_neg (by decide), if_neg (by decide), if_pos rfl]
theorem hl4 (f : F4) (h : Nat) : hl f h 4 = hlane (hlane (hlane (hlane h f.a) f.b) f.c) f.d := by unfold hl; rw [if_neg (by decide), if_neg (by decide), if_neg (by decide), if_neg (by decide)]
theorem hl_join (f : F4) : hl f ((((rol f.a 1 + rol f.b 7) % 18446744073709551616 + rol f.c 12) % 18446744073709551616 + rol f.d 18) % 18446744073709551616) 4 = join4 f := by
  rw [hl4]
  unfold join4
  with_reducible rfl
theorem hl_lt (f : F4) (h : Nat) (hh : h < 18446744073709551616) (i : Nat) : hl f h i < 18446744073709551616 := by
  unfold hl
  split
  · exact hh
  · split
    · exact hlane_lt _ _
    · split
      · exact hlane_lt _ _
      · split
        · exact hlane_lt _ _
        · exact hlane_lt _ _
end Go.Proofs.Ytlmkdadhdeielaa
