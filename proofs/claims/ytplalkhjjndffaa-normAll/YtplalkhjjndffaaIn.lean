/-
  Init makes a heap of any list of a thousand at the most.
-/
import Derived.Test.YtplalkhjjndffaaPopn
namespace Go.Proofs.Ytplalkhjjndffaa
open Go.ChangeShapes Go.WideShapes Go.ChangeAt Go.RowKit
open Go.ChangeMaps (open_string shut_string)

def InRel (A : Nat) (v : Value) (f : List Int) (l : List Nat) (n : Nat) (W : World) (sv : Value) (wr : World) : Prop :=
  ∃ (i : Nat) (l' : List Nat), i ≤ n / 2 ∧ sv = .int .i64 ((i : Int) - 1) ∧ Qun wr A v f l' ∧ l'.Perm l ∧ HeapFrom (ltf f) l' n i ∧ Chg (foot A v) W wr
set_option maxRecDepth 100000 in
set_option maxHeartbeats 1000000 in
/-- Init makes a heap of any list. -/
theorem init_any (A b cap n : Nat) (f : List Int) (l : List Nat) (W : World) (h : Qun W A (.slice (some ⟨b, 0, none⟩) n cap) f l) (hn : l.length = n) (hl : n ≤ 1000) (h0 : 0 < n) :
    Calls Try.prog 47 #[.iface 70 (.pointer (some ⟨A, 0, none⟩))] W fun e W' => e = .returned (.tuple #[]) ∧
      ∃ l', Qun W' A (.slice (some ⟨b, 0, none⟩) n cap) f l' ∧ l'.Perm l ∧ HeapFrom (ltf f) l' l'.length 0 ∧ Chg (foot A (.slice (some ⟨b, 0, none⟩) n cap)) W W' := by
  obtain ⟨c0, f0⟩ := qu_celln h
  have ml := method_lenn A _ W c0
  have LN := len_qn (some ⟨b, 0, none⟩) n cap W
  obtain ⟨m, hm⟩ : ∃ m, n / 2 = m := ⟨_, rfl⟩
  have hm' : (n : Int) / 2 = (m : Int) := by omega
  have hm'' : (n : Int).tdiv 2 = (m : Int) := by rw [Int.tdiv_eq_ediv_of_nonneg (by omega)]; exact hm'
  have HN := Hid.intro hn
  have HM := Hid.intro hm
  have hmn : m ≤ n := by omega
  clear hn hm
  go_enter Try.func47, Try.ntmps47
  go_wp2_with fail
  with_reducible refine LN.mono ?_
  rintro e w1 ⟨rfl, rfl⟩
  clear LN ml c0 f0
  go_wp2_with fail
  try simp only [hm', hm'']
  clear hm' hm''
  go_loopw [3] (fun sv wr => InRel A (.slice (some ⟨b, 0, none⟩) n cap) f l n w1 sv wr) (fun sv _ => (intOf sv + 1).toNat)
  case atStart => exact ⟨m, l, Nat.le_of_eq HM.out.symm, rfl, h, List.Perm.refl _, fun k h1 h2 h3 => by have := HM.out; omega, chg_refl _ _⟩
  case round =>
    clear h
    obtain ⟨i, l', hi, rfl, d1, d2, d3, d4⟩ := hrel
    have hl' := Hid.intro (d2.length_eq.trans HN.out)
    by_cases hz : i = 0
    · subst hz
      have e0 : ((0 : Nat) : Int) - 1 = -1 := rfl
      simp only [e0]
      clear e0
      go_wp2_with fail
      go_returns
      exact ⟨rfl, l', d1, d2, by rw [hl'.out]; exact d3, d4⟩
    · obtain ⟨j, hj⟩ : ∃ j, i = j + 1 := ⟨i - 1, by omega⟩
      subst hj
      have e1 : ((j + 1 : Nat) : Int) - 1 = (j : Int) := by omega
      have DN := down_atn A _ f l' n j wr d1 (dn_start (by rw [hl'.out]; exact Nat.le_refl _) d3) (by omega) (by rw [hl'.out]; exact Nat.le_refl _) (by rw [hl'.out]; exact h0) (by rw [hl'.out]; omega)
      simp only [e1]
      have hjn : j < n := by omega
      have HI : Hid (j ≤ n / 2) := by show j ≤ n / 2; omega
      clear e1 d1 d3 hi hz
      go_wp2_with fail
      with_reducible refine DN.mono ?_
      rintro e w2 ⟨r, rfl, l2, k1, k2, k3, k4, k5⟩
      clear DN k3
      go_wp2_with fail
      go_roundw
      case rel => exact ⟨j, l2, HI.out, rfl, k1, k2.trans d2, k4, chg_same d4 k5⟩
      case measure => simp [intOf]
end Go.Proofs.Ytplalkhjjndffaa
