/-
  Packages as numbers, tables of packages, and queues of them in memory.
-/
import Derived.Test.YthjokhfjfiaaiaaPs
import Derived.Test.YthjokhfjfiaaiaaHeap
namespace Go.Proofs.Ythjokhfjfiaaiaa
open Go.ChangeShapes Go.WideShapes Go.ChangeAt Go.RowKit
open Go.ChangeMaps (open_string shut_string)

/-! ### packages: what they cost, and how often each class is in them, as one number -/
/-- A package in memory: what it costs, where its times lie, and what they are. -/
structure Pk where
  c : Nat
  b : Nat
  cap : Nat
  ts : List Nat
/-! ### packages in memory -/
def ni (l : List Nat) : List Value := ivs (l.map Int.ofNat)
theorem ni_len (l : List Nat) : (ni l).length = l.length := by simp [ni, ivs]
theorem ni_at (l : List Nat) (j : Nat) (hj : j < l.length) : (ni l)[j]? = some (.int .i64 (l[j] : Int)) := by simp [ni, ivs, iv, hj]
theorem ni_set (l : List Nat) (i z : Nat) : (ni l).set i (.int .i64 (z : Int)) = ni (l.set i z) := by unfold ni; rw [ivs_set, List.map_set]; rfl
def pcv (N : Nat) (p : Pk) : Value := .slice (some ⟨p.b, 0, none⟩) N p.cap
end Go.Proofs.Ythjokhfjfiaaiaa
