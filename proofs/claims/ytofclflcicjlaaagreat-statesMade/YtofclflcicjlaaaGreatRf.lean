/-
  The reference's MayNorm and freqs, of any numbers.
-/
import Derived.Test.YtofclflcicjlaaaGreatRn
import Derived.BigQuiet
import Derived.Deep.QuietTactic
import Derived.Deep.RegionWith
import Derived.OwnWalk
namespace Go.Proofs.YtofclflcicjlaaaGreat
open Go.ChangeShapes Go.WideShapes Go.ChangeAt Go.RowKit
open Go.ChangeMaps (open_string shut_string)

/-! ### the reference's small functions -/
set_option maxRecDepth 100000 in
set_option maxHeartbeats 1000000 in
theorem rmay_any (a : Option Addr) (n cap : Nat) (f : List Int) (z : Int) (w : World) (h : RI w a n f) (hn : n ≤ 1000) :
    Calls Tryz.prog 84 #[.slice a n cap, .int .i64 z] w fun e w' => e = .returned (.bool (may z f)) ∧ Below w.heap.size w w' := by
  have IL := islog_any z
  have hl := h.1
  by_cases h1 : lgB z = true
  · obtain ⟨s, e1, e2, s1, s2, e3, k12⟩ := one_shl z h1
    obtain ⟨z7, z12⟩ := (lgB_iff z).1 h1
    have M0 : may z f = (okC (s : Int) f && decide (f.sum = (s : Int))) := by unfold may; rw [h1, Bool.true_and, e1]
    rw [h1] at IL
    by_cases h2 : n = 65
    · subst h2
      have HX := Hid.intro h
      have MB : Hid (∀ y ∈ f, ¬ (0 ≤ y ∧ y ≤ (s : Int)) → may z f = false) := fun y hy hn => by
        rw [M0]
        have : ¬ okC (s : Int) f = true := fun k => hn (((okC_iff _ _).1 k).2 y hy)
        have : okC (s : Int) f = false := by simpa using this
        rw [this]; rfl
      have MG : Hid ((∀ y ∈ f, 0 ≤ y ∧ y ≤ (s : Int)) → may z f = decide (f.sum = (s : Int))) := fun hy => by
        rw [M0, (okC_iff _ _).2 ⟨hl, hy⟩, Bool.true_and]
      have SS := Hid.intro (sm_succ f)
      have SA := Hid.intro (sm_all f 65 (by omega))
      have S0 : Hid (sm f 0 = 0) := by show _ = _; simp [sm]
      have TS := Hid.intro (take_snoc f)
      have HL := Hid.intro hl
      clear h h1 M0 hl
      go_enter Tryz.func84, Tryz.ntmps84
      go_wp2_with fail
      with_reducible refine (IL _).mono ?_
      rintro e w1 ⟨rfl, hw1⟩
      subst hw1
      go_wp2_with fail
      go_loopw [5, 6] (fun tv iv wr => ∃ i : Nat, i ≤ 65 ∧ iv = .int .i64 i ∧ tv = .int .i64 (sm f i) ∧ (0 ≤ sm f i ∧ sm f i ≤ i * (s : Int)) ∧ (∀ y ∈ f.take i, 0 ≤ y ∧ y ≤ (s : Int)) ∧ Below w1.heap.size w1 wr) (fun _ iv _ => 65 - (intOf iv).toNat)
      case atStart => exact ⟨0, by omega, rfl, by rw [S0.out], by rw [S0.out]; simp, by simp, Below.refl _ _⟩
      case round =>
        obtain ⟨i, hi, rfl, rfl, d1, d2, d3⟩ := hrel
        by_cases hlt : i < 65
        · have hif : i < f.length := by rw [HL.out]; exact hlt
          obtain ⟨x, rfl, cx⟩ := ri_fr (ri_below HX.out d3) i hlt
          have fa := fr_at f i hif
          have hm := List.getElem_mem hif
          have sc := SS.out i hif
          have ts := TS.out i hif
          rw [fa] at cx
          have MBi := fun h => MB.out _ hm h
          generalize f[i] = y at *
          have i65 : (i : Int) < 65 := by omega
          have i0 : (0 : Int) ≤ (i : Int) := by omega
          clear fa hm hif
          by_cases hy0 : y < 0
          · have M := Hid.intro (MBi (by omega))
            clear MBi d2 ts sc d1
            go_wp2_with fail
            go_quiet (fail)
            go_wp2_with fail
            go_ret
            exact ⟨ret_bool M.out.symm, below_drewN d3 _⟩
          · by_cases hys : (s : Int) < y
            · have M := Hid.intro (MBi (by omega))
              have t1 : decide (y < 0) = false := by simpa using hy0
              have t2 : decide (y > (s : Int)) = true := by simpa using hys
              clear MBi d2 ts sc d1
              go_wp2_with fail
              go_quiet (fail)
              go_wp2_with fail
              go_ret
              exact ⟨ret_bool M.out.symm, below_drewN d3 _⟩
            · have D2 : Hid (∀ u ∈ f.take (i + 1), 0 ≤ u ∧ u ≤ (s : Int)) := fun u hu => by
                rw [ts] at hu
                rcases List.mem_append.1 hu with k | k
                · exact d2 u k
                · rw [List.mem_singleton.1 k]; omega
              have sb : (i : Int) * (s : Int) ≤ 65 * 4096 := by
                have : i * s ≤ 65 * 4096 := Nat.mul_le_mul hi s1
                have e : (i : Int) * (s : Int) = ((i * s : Nat) : Int) := by push_cast; rfl
                omega
              have D1 : Hid (0 ≤ sm f (i + 1) ∧ sm f (i + 1) ≤ ((i + 1 : Nat) : Int) * (s : Int)) := by
                show _ ∧ _
                rw [sc]
                have e : ((i + 1 : Nat) : Int) * (s : Int) = (i : Int) * (s : Int) + (s : Int) := by push_cast; rw [Int.add_mul, Int.one_mul]
                rw [e]; omega
              have SC := Hid.intro sc
              have q1 := d1.1
              have q2 : sm f i ≤ 65 * 4096 := by omega
              have t1 : decide (y < 0) = false := by simpa using hy0
              have t2 : decide (y > (s : Int)) = false := by simpa using hys
              clear MBi d2 ts sc d1 sb
              generalize sm f i = u at *
              go_wp2_with fail
              go_quiet (fail)
              go_wp2_with fail
              go_roundw
              case rel => exact ⟨i + 1, by omega, by go_num, by rw [SC.out], D1.out, D2.out, below_drewN d3 _⟩
              case measure => simp [intOf]; omega
        · obtain rfl : i = 65 := by omega
          rw [SA.out] at d1 ⊢
          have M := Hid.intro (MG.out (fun y hy => d2 y (by rw [List.take_of_length_le (by rw [HL.out]; exact Nat.le_refl _)]; exact hy)))
          clear d2
          generalize f.sum = u at *
          go_wp2_with fail
          go_ret
          exact ⟨ret_bool (by rw [M.out]; by_cases e : u = (s : Int) <;> simp [e]), d3⟩
    · have M : Hid (may z f = false) := by
        show _ = _
        have : okC (s : Int) f = false := by unfold okC; simp; intro k; omega
        rw [M0, this]; rfl
      have t : ((n : Int) != 65) = true := by simp; omega
      clear h M0 h1 hl
      go_enter Tryz.func84, Tryz.ntmps84
      go_wp2_with fail
      with_reducible refine (IL _).mono ?_
      rintro e w1 ⟨rfl, hw1⟩
      subst hw1
      go_wp2_with fail
      go_ret
      exact ⟨ret_bool M.out.symm, Below.refl _ _⟩
  · have hf : lgB z = false := by simpa using h1
    have M : Hid (may z f = false) := by show _ = _; unfold may; rw [hf]; rfl
    rw [hf] at IL
    clear h h1 hf hl
    go_enter Tryz.func84, Tryz.ntmps84
    go_wp2_with fail
    with_reducible refine (IL _).mono ?_
    rintro e w1 ⟨rfl, hw1⟩
    subst hw1
    go_wp2_with fail
    go_ret
    exact ⟨ret_bool M.out.symm, Below.refl _ _⟩

def FrRel (f : List Int) (n : Nat) (w : World) (tv iv : Value) (wr : World) : Prop :=
  ∃ i : Nat, i ≤ n ∧ iv = .int .i64 i ∧ tv = .int .i64 (sm f i) ∧ (0 ≤ sm f i ∧ sm f i ≤ i * 16777216) ∧ (∀ y ∈ f.take i, 0 ≤ y ∧ y ≤ 16777216) ∧ wr = w
def frB (f : List Int) : Bool := okC 16777216 f && decide (0 < f.sum)
set_option maxRecDepth 100000 in
set_option maxHeartbeats 1000000 in
theorem rfreqs_any (a : Option Addr) (n cap : Nat) (f : List Int) (w : World) (h : RI w a n f) (hn : n ≤ 1000) :
    Calls Tryz.prog 40 #[.slice a n cap] w fun e w' => e = .returned (.bool (frB f)) ∧ w' = w := by
  have hl := h.1
  have HX := Hid.intro h
  have MB : Hid (∀ y ∈ f, ¬ (0 ≤ y ∧ y ≤ 16777216) → frB f = false) := fun y hy hn => by
    have : ¬ okC 16777216 f = true := fun k => hn (((okC_iff _ _).1 k).2 y hy)
    have : okC 16777216 f = false := by simpa using this
    unfold frB; rw [this]; rfl
  have MG : Hid ((∀ y ∈ f, 0 ≤ y ∧ y ≤ 16777216) → n = 65 → frB f = decide (0 < f.sum)) := fun hy hn => by
    unfold frB; rw [(okC_iff _ _).2 ⟨by omega, hy⟩, Bool.true_and]
  have ML : Hid (n ≠ 65 → frB f = false) := fun hn => by
    have : okC 16777216 f = false := by unfold okC; simp; intro k; omega
    unfold frB; rw [this]; rfl
  have SS := Hid.intro (sm_succ f)
  have SA := Hid.intro (sm_all f n (by omega))
  have S0 : Hid (sm f 0 = 0) := by show _ = _; simp [sm]
  have TS := Hid.intro (take_snoc f)
  have HL := Hid.intro hl
  clear h hl
  go_enter Tryz.func40, Tryz.ntmps40
  go_wp2_with fail
  go_loopw [3, 4] (fun tv iv wr => FrRel f n w tv iv wr) (fun _ iv _ => n - (intOf iv).toNat)
  case atStart => exact ⟨0, by omega, rfl, by rw [S0.out], by rw [S0.out]; simp, by simp, rfl⟩
  case round =>
    obtain ⟨i, hi, rfl, rfl, d1, d2, rfl⟩ := hrel
    by_cases hlt : i < n
    · have hif : i < f.length := by rw [HL.out]; exact hlt
      obtain ⟨x, rfl, cx⟩ := ri_fr HX.out i hlt
      have fa := fr_at f i hif
      have hm := List.getElem_mem hif
      have sc := SS.out i hif
      have ts := TS.out i hif
      rw [fa] at cx
      have MBi := fun h => MB.out _ hm h
      generalize f[i] = y at *
      clear fa hm hif
      by_cases hy0 : y < 0
      · have M := Hid.intro (MBi (by omega))
        clear MBi d2 ts sc d1
        go_wp2_with fail
        go_ret
        exact ⟨ret_bool M.out.symm, rfl⟩
      · by_cases hys : 16777216 < y
        · have M := Hid.intro (MBi (by omega))
          clear MBi d2 ts sc d1
          go_wp2_with fail
          go_ret
          exact ⟨ret_bool M.out.symm, rfl⟩
        · have D2 : Hid (∀ u ∈ f.take (i + 1), 0 ≤ u ∧ u ≤ 16777216) := fun u hu => by
            rw [ts] at hu
            rcases List.mem_append.1 hu with k | k
            · exact d2 u k
            · rw [List.mem_singleton.1 k]; omega
          have D1 : Hid (0 ≤ sm f (i + 1) ∧ sm f (i + 1) ≤ ((i + 1 : Nat) : Int) * 16777216) := by
            show _ ∧ _
            rw [sc]; omega
          have SC := Hid.intro sc
          have q1 := d1.1
          have q2 : sm f i ≤ 1000 * 16777216 := by omega
          clear MBi d2 ts sc d1
          generalize sm f i = u at *
          go_wp2_with fail
          go_roundw
          case rel => exact ⟨i + 1, by omega, by go_num, by rw [SC.out], D1.out, D2.out, rfl⟩
          case measure => simp [intOf]; omega
    · obtain rfl : i = n := by omega
      rw [SA.out] at d1 ⊢
      by_cases h65 : i = 65
      · have M := Hid.intro (MG.out (fun y hy => d2 y (by rw [List.take_of_length_le (by rw [HL.out]; exact Nat.le_refl _)]; exact hy)) h65)
        clear d2
        have t : ((i : Int) == 65) = true := by simp; omega
        generalize f.sum = u at *
        clear h65
        go_wp2_with fail
        go_ret
        exact ⟨ret_bool (by rw [M.out]), rfl⟩
      · have M := Hid.intro (ML.out h65)
        have t : ((i : Int) == 65) = false := by simp; omega
        clear d2 h65
        go_wp2_with fail
        go_ret
        exact ⟨ret_bool M.out.symm, rfl⟩
end Go.Proofs.YtofclflcicjlaaaGreat
