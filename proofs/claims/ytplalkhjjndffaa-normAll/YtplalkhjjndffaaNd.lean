/-
  Logs, numbers of all classes, sums: what the small functions say of any list; each condition stands at its theorem.
-/
import Derived.Test.YtplalkhjjndffaaJm
import Derived.Test.YtplalkhjjndffaaBd
import Derived.Test.YtplalkhjjndffaaRo
import Derived.Deep.RegionWith
import Derived.OwnWalk
import Derived.BigQuiet
namespace Go.Proofs.Ytplalkhjjndffaa
open Go.ChangeShapes Go.WideShapes Go.ChangeAt Go.RowKit
open Go.ChangeMaps (open_string shut_string)

theorem ret_int {k : IntKind} {a b : Int} (h : a = b) : Ending.returned (.int k a) = .returned (.int k b) := by rw [h]
theorem ret_bool {a b : Bool} (h : a = b) : Ending.returned (.bool a) = .returned (.bool b) := by rw [h]
theorem hmf : ∀ (fn : Fn) (first cap : Array Value) (w : World), (Instr.makeFunc fn first cap).run Try.prog w = .ok (.func fn first cap) w := fun _ _ _ _ => rfl
/-! ### logs, classes, sums -/
def lgB (z : Int) : Bool := decide (7 ≤ z ∧ z ≤ 12)
theorem lgB_iff (z : Int) : lgB z = true ↔ 7 ≤ z ∧ z ≤ 12 := by unfold lgB; rw [decide_eq_true_eq]
theorem maylog_any (z : Int) (w : World) : Calls Try.prog 21 #[.int .i64 z] w fun e w' => e = .returned (.bool (lgB z)) ∧ w' = w := by
  by_cases h : 7 ≤ z
  · have B : Hid (lgB z = decide (z ≤ 12)) := by show _ = _; simp [lgB, h]
    go_enter Try.func21, Try.ntmps21
    go_wp2
    go_ret
    exact ⟨ret_bool B.out.symm, rfl⟩
  · have B : Hid (lgB z = false) := by show _ = _; simp [lgB, h]
    go_enter Try.func21, Try.ntmps21
    go_wp2
    go_ret
    exact ⟨ret_bool B.out.symm, rfl⟩
theorem islog_any (z : Int) (w : World) : Calls Try.prog 28 #[.int .i64 z] w fun e w' => e = .returned (.bool (lgB z)) ∧ w' = w := by
  by_cases h : 7 ≤ z
  · have B : Hid (lgB z = decide (z ≤ 12)) := by show _ = _; simp [lgB, h]
    go_enter Try.func28, Try.ntmps28
    go_wp2
    go_ret
    exact ⟨ret_bool B.out.symm, rfl⟩
  · have B : Hid (lgB z = false) := by show _ = _; simp [lgB, h]
    go_enter Try.func28, Try.ntmps28
    go_wp2
    go_ret
    exact ⟨ret_bool B.out.symm, rfl⟩
def bad (m z : Int) : Bool := decide (z < 0) || decide (m < z)
theorem wrong_any (A : Nat) (m z : Int) (w : World) (h0 : w.cell? ⟨A, 0, none⟩ = some (.int .i64 m)) : Calls Try.prog 37 #[.int .i64 z, .pointer (some ⟨A, 0, none⟩)] w fun e w' => e = .returned (.bool (bad m z)) ∧ w' = w := by
  by_cases h : z < 0
  · have B : Hid (bad m z = true) := by show _ = _; simp [bad, h]
    go_enter Try.func37, Try.ntmps37
    go_wp2
    go_ret
    exact ⟨ret_bool B.out.symm, rfl⟩
  · have B : Hid (bad m z = decide (m < z)) := by show _ = _; simp [bad, h]
    go_enter Try.func37, Try.ntmps37
    go_wp2
    go_ret
    exact ⟨ret_bool B.out.symm, rfl⟩
def IxRel (m : Int) (f : List Int) (w : World) (sv : Value) (wr : World) : Prop :=
  ∃ i : Nat, i ≤ f.length ∧ sv = .int .i64 i ∧ (∀ z ∈ f.take i, bad m z = false) ∧ wr = w
set_option maxRecDepth 100000 in
set_option maxHeartbeats 1000000 in
theorem index_any (A : Nat) (m : Int) (a : Option Addr) (n cap : Nat) (f : List Int) (w : World) (h : RI w a n f) (hn : n ≤ 100000) (hA : w.cell? ⟨A, 0, none⟩ = some (.int .i64 m)) :
    Calls Try.prog 46 #[.slice a n cap, .func (.func 37) #[] #[.pointer (some ⟨A, 0, none⟩)]] w fun e w' => ∃ k : Int, e = .returned (.int .i64 k) ∧ (decide (0 ≤ k) = f.any (bad m)) ∧ w' = w := by
  obtain ⟨h1, h2⟩ := h
  subst h1
  have HX := Hid.intro h2
  clear h2
  go_enter Try.func46, Try.ntmps46
  go_wp2_with fail
  go_loopw [8] (fun sv wr => IxRel m f w sv wr) (fun sv _ => f.length - (intOf sv).toNat)
  case atStart => exact ⟨0, by omega, rfl, by simp, rfl⟩
  case round =>
    obtain ⟨i, hi, rfl, d1, rfl⟩ := hrel
    by_cases hlt : i < f.length
    · obtain ⟨x, rfl, hx⟩ := HX.out (by omega)
      have cx := hx i hlt
      have WR := wrong_any A m f[i] wr hA
      have hm := List.getElem_mem hlt
      have ts := take_snoc f i hlt
      by_cases hb : bad m f[i] = true
      · have A : Hid (f.any (bad m) = true) := List.any_eq_true.2 ⟨_, hm, hb⟩
        rw [hb] at WR
        clear d1 hx hm ts hb
        generalize f[i] = z at *
        go_wp2_with fail
        with_reducible refine WR.mono ?_
        rintro e w1 ⟨rfl, rfl⟩
        clear WR
        go_wp2_with fail
        go_ret
        exact ⟨_, rfl, by rw [A.out]; simp, rfl⟩
      · have hb' : bad m f[i] = false := by simpa using hb
        have T2 : Hid (∀ z ∈ f.take (i + 1), bad m z = false) := fun z hz => by
          rw [ts] at hz
          rcases List.mem_append.1 hz with h | h
          · exact d1 z h
          · rw [List.mem_singleton.1 h]; exact hb'
        rw [hb'] at WR
        clear d1 hx hm ts hb hb'
        generalize f[i] = z at *
        go_wp2_with fail
        with_reducible refine WR.mono ?_
        rintro e w1 ⟨rfl, rfl⟩
        clear WR
        go_wp2_with fail
        go_roundw
        case rel => exact ⟨i + 1, by omega, by go_num, T2.out, rfl⟩
        case measure => simp [intOf]; omega
    · have A : Hid (f.any (bad m) = false) := by
        show _ = _
        rw [List.any_eq_false]
        intro z hz
        have := d1 z (by rw [List.take_of_length_le (by omega)]; exact hz)
        simp [this]
      clear d1
      go_wp2_with fail
      go_ret
      exact ⟨_, rfl, by rw [A.out]; decide, rfl⟩
theorem contains_any (A : Nat) (m : Int) (a : Option Addr) (n cap : Nat) (f : List Int) (w : World) (h : RI w a n f) (hn : n ≤ 100000) (hA : w.cell? ⟨A, 0, none⟩ = some (.int .i64 m)) :
    Calls Try.prog 38 #[.slice a n cap, .func (.func 37) #[] #[.pointer (some ⟨A, 0, none⟩)]] w fun e w' => e = .returned (.bool (f.any (bad m))) ∧ w' = w := by
  have IX := index_any A m a n cap f w h hn hA
  clear h
  go_enter Try.func38, Try.ntmps38
  go_wp2_with fail
  with_reducible refine IX.mono ?_
  rintro e w1 ⟨k, rfl, k1, rfl⟩
  have K1 := Hid.intro k1
  clear IX k1
  go_wp2_with fail
  go_ret
  exact ⟨ret_bool K1.out, rfl⟩
def okC (m : Int) (f : List Int) : Bool := decide (f.length = 65) && !(f.any (bad m))
theorem okC_iff (m : Int) (f : List Int) : okC m f = true ↔ f.length = 65 ∧ ∀ z ∈ f, 0 ≤ z ∧ z ≤ m := by
  unfold okC
  simp only [Bool.and_eq_true, decide_eq_true_eq, Bool.not_eq_true', List.any_eq_false, bad]
  constructor
  · rintro ⟨h1, h2⟩
    refine ⟨h1, fun z hz => ?_⟩
    have := h2 z hz
    simp only [Bool.or_eq_true, decide_eq_true_eq, not_or] at this
    omega
  · rintro ⟨h1, h2⟩
    refine ⟨h1, fun z hz => ?_⟩
    have := h2 z hz
    simp only [Bool.or_eq_true, decide_eq_true_eq, not_or]
    omega
set_option maxRecDepth 100000 in
set_option maxHeartbeats 1000000 in
theorem ofc_any (m : Int) (a : Option Addr) (n cap : Nat) (f : List Int) (w : World) (h : RI w a n f) (hn : n ≤ 100000) :
    Calls Try.prog 22 #[.slice a n cap, .int .i64 m] w fun e w' => e = .returned (.bool (okC m f)) ∧ Below w.heap.size w w' := by
  have hl := h.1
  have b1 : Below w.heap.size w (w.alloc (.cells #[.int .i64 m] 3)) := (Below.refl _ _).alloc (Nat.le_refl _) _
  have CF := contains_any w.heap.size m a n cap f (w.alloc (.cells #[.int .i64 m] 3)) (ri_below h b1) hn (by rw [blk_cell (blk_new w _ 3)]; rfl)
  have mf := hmf
  clear h
  by_cases h1 : n = 65
  · subst h1
    have B : Hid (okC m f = !(f.any (bad m))) := by show _ = _; unfold okC; simp [hl]
    have t1 : ((65 : Nat) : Int) = 65 := rfl
    generalize f.any (bad m) = z at *
    clear hl
    go_enter Try.func22, Try.ntmps22
    go_wp2_with fail
    with_reducible refine CF.mono ?_
    rintro e w1 ⟨rfl, rfl⟩
    clear CF
    go_wp2_with fail
    go_ret
    exact ⟨ret_bool B.out.symm, b1⟩
  · have B : Hid (okC m f = false) := by show _ = _; unfold okC; simp [hl, h1]
    have t1 : ((n : Int) == 65) = false := by simp; omega
    clear h1 CF
    go_enter Try.func22, Try.ntmps22
    go_wp2_with fail
    go_ret
    exact ⟨ret_bool B.out.symm, b1⟩
/-- Sums: of a beginning. -/
def sm (f : List Int) (i : Nat) : Int := (f.take i).sum
theorem sm_succ (f : List Int) (i : Nat) (h : i < f.length) : sm f (i + 1) = sm f i + f[i] := by unfold sm; rw [take_snoc f i h, List.sum_append]; simp
theorem sm_all (f : List Int) (n : Nat) (h : f.length ≤ n) : sm f n = f.sum := by unfold sm; rw [List.take_of_length_le h]
theorem sm_bd (m : Nat) (f : List Int) (hf : ∀ z ∈ f, 0 ≤ z ∧ z ≤ (m : Int)) : ∀ i, i ≤ f.length → 0 ≤ sm f i ∧ sm f i ≤ ((i * m : Nat) : Int) := by
  intro i
  induction i with
  | zero => intro _; simp [sm]
  | succ i ih =>
    intro hi
    have := ih (by omega)
    have b := hf f[i] (List.getElem_mem (by omega))
    rw [sm_succ f i (by omega), Nat.succ_mul]
    omega
def SumRel (M : Nat → Int) (n : Nat) (w : World) (tv iv : Value) (wr : World) : Prop :=
  ∃ i : Nat, i ≤ n ∧ iv = .int .i64 i ∧ tv = .int .i64 (M i) ∧ wr = w
set_option maxRecDepth 100000 in
set_option maxHeartbeats 1000000 in
theorem sum_any (a : Option Addr) (n cap : Nat) (f : List Int) (w : World) (h : RI w a n f) (hn : n ≤ 1000) (hf : ∀ z ∈ f, 0 ≤ z ∧ z ≤ 16777216) :
    Calls Try.prog 23 #[.slice a n cap] w fun e w' => e = .returned (.int .i64 f.sum) ∧ w' = w := by
  obtain ⟨h1, h2⟩ := h
  subst h1
  have HX := Hid.intro h2
  have HA := Hid.intro (sm_all f f.length (Nat.le_refl _))
  have HS := Hid.intro (sm_succ f)
  have HB := Hid.intro (sm_bd 16777216 f hf)
  have HF := Hid.intro hf
  have H0 : Hid (sm f 0 = 0) := by show _ = _; simp [sm]
  clear h2 hf
  generalize sm f = M at *
  go_enter Try.func23, Try.ntmps23
  go_wp2_with fail
  go_loopw [3, 8] (fun tv iv wr => SumRel M f.length w tv iv wr) (fun _ iv _ => f.length - (intOf iv).toNat)
  case atStart => exact ⟨0, by omega, rfl, by rw [H0.out], rfl⟩
  case round =>
    obtain ⟨i, hi, rfl, rfl, rfl⟩ := hrel
    by_cases hlt : i < f.length
    · obtain ⟨x, rfl, hx⟩ := HX.out (by omega)
      have cx := hx i hlt
      have sb := HB.out i hi
      have S1 := Hid.intro (HS.out i hlt)
      have fb := HF.out _ (List.getElem_mem hlt)
      have sb2 : M i ≤ 1000 * 16777216 := by
        have : i * 16777216 ≤ 1000 * 16777216 := Nat.mul_le_mul_right _ (by omega)
        omega
      generalize f[i] = z at *
      have sb0 := sb.1
      clear sb hx
      generalize M i = s at *
      go_wp2_with fail
      go_roundw
      case rel => exact ⟨i + 1, by omega, by go_num, by rw [S1.out], rfl⟩
      case measure => simp [intOf]; omega
    · obtain rfl : i = f.length := by omega
      go_wp2_with fail
      go_ret
      exact ⟨ret_int HA.out, rfl⟩
end Go.Proofs.Ytplalkhjjndffaa
