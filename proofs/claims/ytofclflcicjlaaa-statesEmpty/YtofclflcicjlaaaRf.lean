/-
  The reference's MayNorm and freqs, of any numbers.
-/
import Derived.Test.YtofclflcicjlaaaRn
import Derived.BigQuiet
import Derived.Deep.QuietTactic
import Derived.Deep.RegionWith
import Derived.OwnWalk
namespace Go.Proofs.Ytofclflcicjlaaa
open Go.ChangeShapes Go.WideShapes Go.ChangeAt Go.RowKit
open Go.ChangeMaps (open_string shut_string)
def FrRel (f : List Int) (n : Nat) (w : World) (tv iv : Value) (wr : World) : Prop :=
  ∃ i : Nat, i ≤ n ∧ iv = .int .i64 i ∧ tv = .int .i64 (sm f i) ∧ (0 ≤ sm f i ∧ sm f i ≤ i * 16777216) ∧ (∀ y ∈ f.take i, 0 ≤ y ∧ y ≤ 16777216) ∧ wr = w
def frB (f : List Int) : Bool := okC 16777216 f && decide (0 < f.sum)
set_option maxRecDepth 100000 in
set_option maxHeartbeats 1000000 in
theorem rfreqs_any (a : Option Addr) (n cap : Nat) (f : List Int) (w : World) (h : RI w a n f) (hn : n ≤ 1000) :
    Calls Try.prog 19 #[.slice a n cap] w fun e w' => e = .returned (.bool (frB f)) ∧ w' = w := by
  have hl := h.1
  have HX := Hid.intro h
  have MB : Hid (∀ y ∈ f, ¬ (0 ≤ y ∧ y ≤ 16777216) → frB f = false) := fun y hy hn => by
    have : ¬ okC 16777216 f = true := fun k => hn (((okC_iff _ _).1 k).2 y hy)
    have : okC 16777216 f = false := by simpa using this
    unfold frB; rw [this]; rfl
  have MG : Hid ((∀ y ∈ f, 0 ≤ y ∧ y ≤ 16777216) → n = 65 → frB f = decide (0 < f.sum)) := fun hy hn => by
    unfold frB; rw [(okC_iff _ _).2 ⟨by omega, hy⟩, Bool.true_and]
  have ML : Hid (n ≠ 65 → frB f = false) := fun hn => by
    have : okC 16777216 f = false := by unfold okC; simp; intro k; omega
    unfold frB; rw [this]; rfl
  have SS := Hid.intro (sm_succ f)
  have SA := Hid.intro (sm_all f n (by omega))
  have S0 : Hid (sm f 0 = 0) := by show _ = _; simp [sm]
  have TS := Hid.intro (take_snoc f)
  have HL := Hid.intro hl
  clear h hl
  go_enter Try.func19, Try.ntmps19
  go_wp2_with fail
  go_loopw [3, 4] (fun tv iv wr => FrRel f n w tv iv wr) (fun _ iv _ => n - (intOf iv).toNat)
  case atStart => exact ⟨0, by omega, rfl, by rw [S0.out], by rw [S0.out]; simp, by simp, rfl⟩
  case round =>
    obtain ⟨i, hi, rfl, rfl, d1, d2, rfl⟩ := hrel
    by_cases hlt : i < n
    · have hif : i < f.length := by rw [HL.out]; exact hlt
      obtain ⟨x, rfl, cx⟩ := ri_fr HX.out i hlt
      have fa := fr_at f i hif
      have hm := List.getElem_mem hif
      have sc := SS.out i hif
      have ts := TS.out i hif
      rw [fa] at cx
      have MBi := fun h => MB.out _ hm h
      generalize f[i] = y at *
      clear fa hm hif
      by_cases hy0 : y < 0
      · have M := Hid.intro (MBi (by omega))
        clear MBi d2 ts sc d1
        go_wp2_with fail
        go_ret
        exact ⟨ret_bool M.out.symm, rfl⟩
      · by_cases hys : 16777216 < y
        · have M := Hid.intro (MBi (by omega))
          clear MBi d2 ts sc d1
          go_wp2_with fail
          go_ret
          exact ⟨ret_bool M.out.symm, rfl⟩
        · have D2 : Hid (∀ u ∈ f.take (i + 1), 0 ≤ u ∧ u ≤ 16777216) := fun u hu => by
            rw [ts] at hu
            rcases List.mem_append.1 hu with k | k
            · exact d2 u k
            · rw [List.mem_singleton.1 k]; omega
          have D1 : Hid (0 ≤ sm f (i + 1) ∧ sm f (i + 1) ≤ ((i + 1 : Nat) : Int) * 16777216) := by
            show _ ∧ _
            rw [sc]; omega
          have SC := Hid.intro sc
          have q1 := d1.1
          have q2 : sm f i ≤ 1000 * 16777216 := by omega
          clear MBi d2 ts sc d1
          generalize sm f i = u at *
          go_wp2_with fail
          go_roundw
          case rel => exact ⟨i + 1, by omega, by go_num, by rw [SC.out], D1.out, D2.out, rfl⟩
          case measure => simp [intOf]; omega
    · obtain rfl : i = n := by omega
      rw [SA.out] at d1 ⊢
      by_cases h65 : i = 65
      · have M := Hid.intro (MG.out (fun y hy => d2 y (by rw [List.take_of_length_le (by rw [HL.out]; exact Nat.le_refl _)]; exact hy)) h65)
        clear d2
        have t : ((i : Int) == 65) = true := by simp; omega
        generalize f.sum = u at *
        clear h65
        go_wp2_with fail
        go_ret
        exact ⟨ret_bool (by rw [M.out]), rfl⟩
      · have M := Hid.intro (ML.out h65)
        have t : ((i : Int) == 65) = false := by simp; omega
        clear d2 h65
        go_wp2_with fail
        go_ret
        exact ⟨ret_bool M.out.symm, rfl⟩
end Go.Proofs.Ytofclflcicjlaaa
