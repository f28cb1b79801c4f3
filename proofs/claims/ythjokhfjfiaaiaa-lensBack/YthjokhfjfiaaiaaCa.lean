/-
  shares and May: of whatever lengths.
-/
import Derived.Test.YthjokhfjfiaaiaaCm
import Derived.Test.YthjokhfjfiaaiaaSa
import Derived.Test.YthjokhfjfiaaiaaMy
import Derived.Test.YthjokhfjfiaaiaaJm
namespace Go.Proofs.Ythjokhfjfiaaiaa
open Go.ChangeShapes Go.WideShapes Go.ChangeAt Go.RowKit
open Go.ChangeMaps (open_string shut_string)

def ShRel (C M : Nat → Nat) (w : World) (cv sv iv : Value) (wr : World) : Prop :=
  ∃ i : Nat, i ≤ 65 ∧ iv = .int .i64 i ∧ cv = .int .i64 (C i : Nat) ∧ sv = .int .i64 (M i : Nat) ∧ wr = w
theorem ri_at {W : World} {a : Option Addr} {n : Nat} {f : List Int} (h : RI W a n f) (i : Nat) (hi : i < n) : ∃ x, a = some x ∧ W.cell? (x.add i) = some (.int .i64 (fr f i)) := by
  obtain ⟨x, hx, hc⟩ := h.2 (by omega)
  have hl := h.1
  exact ⟨x, hx, by rw [hc i (by omega), fr_at f i (by omega)]⟩
theorem half (l : Nat) (h : l ≤ 15) : (32768 : Int) / 2 ^ l = ((2 ^ (15 - l) : Nat) : Int) := by
  have : ∀ l : Nat, l < 16 → (32768 : Int) / 2 ^ l = ((2 ^ (15 - l) : Nat) : Int) := by decide
  exact this l (by omega)
set_option maxRecDepth 100000 in
set_option maxHeartbeats 2000000 in
theorem shares_any (a : Option Addr) (cap : Nat) (f : List Int) (w : World) (h : RI w a 65 f) (hf : ∀ z ∈ f, 0 ≤ z ∧ z ≤ 15) :
    Calls Try.prog 35 #[.slice a 65 cap] w fun e w' => e = .returned (.tuple #[.int .i64 (mC (nat f) 65 : Nat), .int .i64 (mS (nat f) 65 : Nat)]) ∧ w' = w := by
  have H := Hid.intro h
  have HA := Hid.intro (nat_at f hf)
  have HB := Hid.intro (nat_bd f hf)
  obtain ⟨L, hL⟩ : ∃ L, nat f = L := ⟨_, rfl⟩
  rw [hL] at HA HB ⊢
  clear h hf hL
  have M0 : mS L 0 = 0 := rfl
  have C0 : mC L 0 = 0 := rfl
  have MS := mS_succ L
  have CS := mC_succ L
  have MB := mS_bd L
  have CB := mC_bd L
  generalize mS L = M at *
  generalize mC L = C at *
  have M0 := Hid.intro M0
  have C0 := Hid.intro C0
  have MS := Hid.intro MS
  have CS := Hid.intro CS
  have MB := Hid.intro MB
  have CB := Hid.intro CB
  go_enter Try.func35, Try.ntmps35
  go_wp2_with fail
  go_loopw [2, 3, 8] (fun cv sv iv wr => ShRel C M w cv sv iv wr) (fun _ _ iv _ => 65 - (intOf iv).toNat)
  case atStart => exact ⟨0, by omega, rfl, by rw [C0.out]; rfl, by rw [M0.out]; rfl, rfl⟩
  case round =>
    obtain ⟨i, hi, rfl, rfl, rfl, rfl⟩ := hrel
    have sb := MB.out i
    have cb := CB.out i
    by_cases hlt : i < 65
    · obtain ⟨x, rfl, cl⟩ := ri_at H.out i hlt
      rw [HA.out i] at cl
      have l15 := HB.out i
      have S1 := Hid.intro (MS.out i)
      have C1 := Hid.intro (CS.out i)
      generalize M i = s at *
      generalize C i = c at *
      generalize at0 L i = l at *
      by_cases hl : 0 < l
      · rw [if_pos hl] at S1 C1
        have hz := half l l15
        obtain ⟨z, hz2⟩ : ∃ z : Nat, 2 ^ (15 - l) = z := ⟨_, rfl⟩
        have hzb : z ≤ 32768 := by rw [← hz2]; exact pow_15 l
        rw [hz2] at S1 hz
        clear hz2
        go_wp2_with fail
        go_roundw
        case rel => exact ⟨i + 1, by omega, by go_num, by rw [C1.out, Int.natCast_add]; rfl, by rw [S1.out, Int.natCast_add], rfl⟩
        case measure => simp [intOf]; omega
      · rw [if_neg hl, Nat.add_zero] at S1 C1
        go_wp2_with fail
        go_roundw
        case rel => exact ⟨i + 1, by omega, by go_num, by rw [C1.out, Nat.add_zero], by rw [S1.out, Nat.add_zero], rfl⟩
        case measure => simp [intOf]; omega
    · obtain rfl : i = 65 := by omega
      go_wp2_with fail
      go_ret2
      exact ⟨rfl, rfl⟩
theorem may_no65 {f : List Int} (h : ¬ f.length = 65) : mayL f = false := by unfold mayL; simp [h]
theorem may_bad {f : List Int} (h : f.any badl = true) : mayL f = false := by unfold mayL; simp [h]
theorem may_ok {f : List Int} (h : f.length = 65) (k : f.any badl = false) : mayL f = okL (nat f) := by unfold mayL; simp [h, k]
set_option maxRecDepth 100000 in
set_option maxHeartbeats 1000000 in
theorem may_any (a : Option Addr) (n cap : Nat) (f : List Int) (w : World) (h : RI w a n f) (hn : n ≤ 100000) :
    Calls Try.prog 21 #[.slice a n cap] w fun e w' => e = .returned (.bool (mayL f)) ∧ w' = w := by
  by_cases h1 : n = 65
  · subst h1
    have CF := contains_any a 65 cap f w h hn
    by_cases h2 : f.any badl = true
    · rw [h2] at CF
      have M := Hid.intro (may_bad h2)
      clear h h2
      go_enter Try.func21, Try.ntmps21
      go_wp2_with fail
      with_reducible refine CF.mono ?_
      rintro e w1 ⟨rfl, rfl⟩
      clear CF
      go_wp2_with fail
      go_ret
      exact ⟨ret_bool M.out.symm, rfl⟩
    · have h2' : f.any badl = false := by simpa using h2
      rw [h2'] at CF
      have SH := shares_any a cap f w h ((any_no f).1 h2')
      have MO := may_ok h.1 h2'
      have mm := mS_mC (nat f) 65
      obtain ⟨s5, hs5⟩ : ∃ s, mS (nat f) 65 = s := ⟨_, rfl⟩
      obtain ⟨c5, hc5⟩ : ∃ s, mC (nat f) 65 = s := ⟨_, rfl⟩
      unfold okL at MO
      rw [hs5, hc5] at MO SH mm
      have M := Hid.intro MO
      clear h h2 h2' hs5 hc5 MO
      by_cases c0 : c5 = 0
      · subst c0
        go_enter Try.func21, Try.ntmps21
        go_wp2_with fail
        with_reducible refine CF.mono ?_
        rintro e w1 ⟨rfl, rfl⟩
        clear CF
        go_wp2_with fail
        with_reducible refine SH.mono ?_
        rintro e w1 ⟨rfl, rfl⟩
        clear SH
        go_wp2_with fail
        go_ret
        exact ⟨ret_bool (by rw [M.out]; rfl), rfl⟩
      · by_cases c1 : c5 = 1
        · subst c1
          go_enter Try.func21, Try.ntmps21
          go_wp2_with fail
          with_reducible refine CF.mono ?_
          rintro e w1 ⟨rfl, rfl⟩
          clear CF
          go_wp2_with fail
          with_reducible refine SH.mono ?_
          rintro e w1 ⟨rfl, rfl⟩
          clear SH
          go_wp2_with fail
          go_ret
          refine ⟨ret_bool ?_, rfl⟩
          rw [M.out]
          by_cases e : s5 = 16384
          · subst e; rfl
          · have : ¬ s5 = 32768 := by omega
            have e2 : ¬ (s5 : Int) = 16384 := by omega
            simp [e, this, e2]
        · have t0 : ((c5 : Int) == 0) = false := by simp; omega
          have t1 : ((c5 : Int) == 1) = false := by simp; omega
          clear mm
          have M2 : Hid (mayL f = decide (s5 = 32768)) := by show _ = _; rw [M.out]; simp [c0, c1]
          clear M c0 c1
          go_enter Try.func21, Try.ntmps21
          go_wp2_with fail
          with_reducible refine CF.mono ?_
          rintro e w1 ⟨rfl, rfl⟩
          clear CF
          go_wp2_with fail
          with_reducible refine SH.mono ?_
          rintro e w1 ⟨rfl, rfl⟩
          clear SH
          go_wp2_with fail
          go_ret
          refine ⟨ret_bool ?_, rfl⟩
          rw [M2.out]
          by_cases e : s5 = 32768
          · subst e; rfl
          · have e2 : ¬ (s5 : Int) = 32768 := by omega
            simp [e, e2]
  · have M := Hid.intro (may_no65 (f := f) (by rw [h.1]; exact h1))
    have t : ((n : Int) == 65) = false := by simp; omega
    have t2 : ((n : Int) != 65) = true := by simp; omega
    clear h
    go_enter Try.func21, Try.ntmps21
    go_wp2_with fail
    go_ret
    exact ⟨ret_bool M.out.symm, rfl⟩
end Go.Proofs.Ythjokhfjfiaaiaa
