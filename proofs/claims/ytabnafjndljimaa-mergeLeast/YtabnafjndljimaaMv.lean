/-
  Lengths that may be: the reference's MayLens.
-/
import Derived.Test.YtabnafjndljimaaPl
import Derived.Test.YtabnafjndljimaaFl
namespace Go.Proofs.Ytabnafjndljimaa
open Go.ChangeShapes Go.WideShapes Go.ChangeAt Go.RowKit
open Go.ChangeMaps (open_string shut_string)

theorem mS_succ (L : List Nat) (i : Nat) : mS L (i + 1) = mS L i + if 0 < at0 L i then 2 ^ (15 - at0 L i) else 0 := by
  unfold mS; rw [List.range_succ, List.map_append, List.sum_append]; simp
theorem mC_succ (L : List Nat) (i : Nat) : mC L (i + 1) = mC L i + if 0 < at0 L i then 1 else 0 := by
  unfold mC; rw [List.range_succ, List.map_append, List.sum_append]; simp
theorem pow_15 (l : Nat) : 2 ^ (15 - l) ≤ 32768 := Nat.le_trans (Nat.pow_le_pow_right (by omega) (by omega : 15 - l ≤ 15)) (by decide)
theorem mS_bd (L : List Nat) : ∀ i, mS L i ≤ i * 32768
  | 0 => by simp [mS]
  | i + 1 => by
    have h1 := mS_bd L i
    have h2 := pow_15 (at0 L i)
    rw [mS_succ, Nat.succ_mul]
    generalize mS L i = x at *
    generalize 2 ^ (15 - at0 L i) = z at *
    generalize i * 32768 = y at *
    split <;> omega
theorem mC_bd (L : List Nat) : ∀ i, mC L i ≤ i
  | 0 => by simp [mC]
  | i + 1 => by
    have := mC_bd L i
    rw [mC_succ]
    split <;> omega
def MlRel (L : List Nat) (w : World) (sv cv iv : Value) (wr : World) : Prop :=
  ∃ i : Nat, i ≤ 65 ∧ iv = .int .i64 i ∧ sv = .int .i64 (mS L i : Nat) ∧ cv = .int .i64 (mC L i : Nat) ∧ wr = w
set_option maxRecDepth 100000 in
set_option maxHeartbeats 2000000 in
theorem mayl_any (b cap : Nat) (L : List Nat) (w : World) (h : w.ownsRow 0 3 1 (.slice (some ⟨b, 0, none⟩) 65 cap) 65 (ni L)) (hb : ∀ c, c < 65 → at0 L c ≤ 15) (hm : mC L 65 = 0 ∨ mS L 65 = 32768 ∨ (mC L 65 = 1 ∧ mS L 65 = 16384)) :
    Calls Try.prog 17 #[.slice (some ⟨b, 0, none⟩) 65 cap] w fun e w' => e = .returned (.bool true) ∧ w' = w := by
  have H := Hid.intro h
  have HBD := Hid.intro hb
  have HM := Hid.intro hm
  clear h hb hm
  go_enter Try.func17, Try.ntmps17
  go_wp2_with fail
  go_loopw [3, 4, 5] (fun sv cv iv wr => MlRel L w sv cv iv wr) (fun _ _ iv _ => 65 - (intOf iv).toNat)
  case atStart => exact ⟨0, by omega, rfl, rfl, rfl, rfl⟩
  case round =>
    obtain ⟨i, hi, rfl, rfl, rfl, rfl⟩ := hrel
    have sb := mS_bd L i
    have cb := mC_bd L i
    by_cases hlt : i < 65
    · have cl := ni_cell H.out i hlt
      have l15 := HBD.out i hlt
      have S1 := Hid.intro (mS_succ L i)
      have C1 := Hid.intro (mC_succ L i)
      generalize mS L i = s at *
      generalize mC L i = c at *
      generalize at0 L i = l at *
      by_cases hl : 0 < l
      · rw [if_pos hl] at S1 C1
        obtain ⟨y, hy⟩ : ∃ y : Nat, (15 : Int) - (l : Int) = (y : Int) := ⟨15 - l, by omega⟩
        have hy' : 15 - l = y := by omega
        rw [hy'] at S1
        obtain ⟨z, hz⟩ : ∃ z : Nat, 2 ^ y = z := ⟨_, rfl⟩
        have hzi : (2 : Int) ^ y = (z : Int) := by rw [← hz]; simp
        have hzb : z ≤ 32768 := by rw [← hz]; exact Nat.le_trans (Nat.pow_le_pow_right (by omega) (by omega : y ≤ 15)) (by decide)
        rw [hz] at S1
        have hy64 : y < 16 := by omega
        clear hz hy'
        go_wp2_with fail
        go_roundw
        case rel => exact ⟨i + 1, by omega, by go_num, by rw [S1.out, Int.natCast_add], by rw [C1.out, Int.natCast_add]; rfl, rfl⟩
        case measure => simp [intOf]; omega
      · rw [if_neg hl, Nat.add_zero] at S1 C1
        go_wp2_with fail
        go_roundw
        case rel => exact ⟨i + 1, by omega, by go_num, by rw [S1.out]; rfl, by rw [C1.out]; rfl, rfl⟩
        case measure => simp [intOf]; omega
    · obtain rfl : i = 65 := by omega
      have hm := HM.out
      generalize mS L 65 = s at *
      generalize mC L 65 = c at *
      by_cases h1 : c = 0
      · subst h1
        go_wp2_with fail
        go_ret
        exact ⟨rfl, rfl⟩
      · have t1 : ((c : Int) == 0) = false := by simp; omega
        by_cases h2 : s = 32768
        · subst h2
          go_wp2_with fail
          go_ret
          exact ⟨rfl, rfl⟩
        · have t2 : ((s : Int) == 32768) = false := by simp; omega
          obtain ⟨rfl, rfl⟩ : c = 1 ∧ s = 16384 := by omega
          go_wp2_with fail
          go_ret
          exact ⟨rfl, rfl⟩
end Go.Proofs.Ytabnafjndljimaa
