/-
  Package chance, the encoder: Direct, bit by bit.
-/
import Derived.Test.YtbmjehpkcelogaaBy
namespace Go.Proofs.Ytbmjehpkcelogaa
open Go.ChangeShapes Go.WideShapes Go.ChangeAt Go.RowKit
open Go.ChangeMaps (open_string shut_string)
/-- How many bits a Direct of n puts. -/
def cl (n : Int) : Nat := if n < 0 then 0 else if 64 < n then 64 else n.toNat
theorem cl_le (n : Int) : cl n ≤ 64 := by unfold cl; split <;> (try split) <;> omega
theorem cl_nat (m : Nat) (h : m ≤ 64) : cl m = m := by unfold cl; split <;> (try split) <;> omega
/-- Range is as large as it must be. -/
def Rg (st : Nat × Nat × Nat) : Prop := 16777216 ≤ st.2.2 ∧ st.2.2 ≤ 4294967295
theorem rg_dir (b : Bool) (st : Nat × Nat × Nat) (h : Rg st) : Rg (dirS b st) ∧ (dirS b st).1 ≤ st.1 + 2 := by
  obtain ⟨k, L, R⟩ := st
  obtain ⟨h1, h2⟩ := h
  simp only at h1 h2
  obtain ⟨a, b'⟩ := gr_big (R / 2) (by omega) (by omega)
  have := gr_le (R / 2)
  cases b <;> simp only [dirS, nar, Rg, if_true, Bool.false_eq_true, if_false] <;> exact ⟨⟨a, by omega⟩, by omega⟩
theorem rg_bit (p : Int) (b : Bool) (st : Nat × Nat × Nat) (h : Rg st) : Rg (bitS p b st) ∧ (bitS p b st).1 ≤ st.1 + 2 := by
  obtain ⟨k, L, R⟩ := st
  obtain ⟨h1, h2⟩ := h
  simp only at h1 h2
  obtain ⟨b1, b2⟩ := bel_lt p R h1
  cases b
  · obtain ⟨a, b'⟩ := gr_big (R - bel p R) (by omega) (by omega)
    have := gr_le (R - bel p R)
    simp only [bitS, nar, Rg, Bool.false_eq_true, if_false]
    exact ⟨⟨a, by omega⟩, by omega⟩
  · obtain ⟨a, b'⟩ := gr_big (bel p R) (by omega) (by omega)
    have := gr_le (bel p R)
    simp only [bitS, nar, Rg, if_true]
    exact ⟨⟨a, by omega⟩, by omega⟩
theorem rg_dirN (v : Nat) : ∀ (n : Nat) (st : Nat × Nat × Nat), Rg st → Rg (dirN v n st) ∧ (dirN v n st).1 ≤ st.1 + 2 * n
  | 0, st, h => ⟨h, by simp [dirN]⟩
  | n + 1, st, h => by
    obtain ⟨a, b⟩ := rg_dir (v.testBit n) st h
    obtain ⟨c, d⟩ := rg_dirN v n _ a
    refine ⟨c, ?_⟩
    rw [dirN]; omega
theorem iv_rg {st : Nat × Nat × Nat} (h : Iv st) : Rg st := ⟨h.1, by have := h.2.1; omega⟩

theorem and_one (y : Nat) (h : y < 18446744073709551616) : bits .and .u64 (y : Int) 1 = ((y % 2 : Nat) : Int) := by
  rw [show (1 : Int) = ((1 : Nat) : Int) from rfl, u64_and_nat _ _ h (by decide), Nat.and_one_is_mod]
theorem direct_one {F : Value → Value → Value → Array Value} {o : Nat} {t : TypeId} (hF : Fit F o) (A : Nat) (v : Value) (j L R x : Nat) (W : World) (h : En F t W A v j L R) (hR : 16777216 ≤ R) (hj : j ≤ 100000) (hx : x < 18446744073709551616) :
    Calls Try.prog 12 #[ptrO A o, .int .u64 x, .int .i64 1] W (EnPost F t A v (dirS (x.testBit 0) (j, L, R)).1 (dirS (x.testBit 0) (j, L, R)).2.1 (dirS (x.testBit 0) (j, L, R)).2.2 W) := by
  have WI := within_any 0 1 64 W 1 (by omega)
  have Z := half_any hF A v j L R W h
  have hR2 := h.2.2.2
  have ha := and_one x hx
  rw [Nat.testBit_zero]
  rcases (by omega : x % 2 = 1 ∨ x % 2 = 0) with h1 | h1
  · have N := narrow_any hF A v j L R (R / 2) (R / 2) W h (by omega) (by omega) (by omega) hj
    rw [decide_eq_true h1]
    simp only [dirS, if_true]
    unfold nar
    simp only
    rw [h1] at ha
    clear hR hR2
    generalize R / 2 = q at *
    unfold ptrO at *
    go_enter Try.func12, Try.ntmps12
    go_wp2_with (first | (go_at_call 28; refine WI.mono ?_; rintro e w1 ⟨rfl, rfl⟩) | (go_at_call 30; refine Z.mono ?_; rintro e w1 ⟨rfl, rfl⟩))
    refine N.mono ?_
    rintro e w1 ⟨rfl, k⟩
    go_wp2
    go_end0
    exact ⟨rfl, k⟩
  · have N := narrow_any hF A v j L R 0 (R / 2) W h (by omega) (by omega) (by omega) hj
    rw [decide_eq_false (by omega : ¬ x % 2 = 1)]
    simp only [dirS, Bool.false_eq_true, if_false]
    unfold nar
    simp only
    rw [Nat.add_zero] at N
    rw [h1] at ha
    clear hR hR2
    generalize R / 2 = q at *
    unfold ptrO at *
    go_enter Try.func12, Try.ntmps12
    go_wp2_with (first | (go_at_call 28; refine WI.mono ?_; rintro e w1 ⟨rfl, rfl⟩) | (go_at_call 30; refine Z.mono ?_; rintro e w1 ⟨rfl, rfl⟩))
    refine N.mono ?_
    rintro e w1 ⟨rfl, k⟩
    go_wp2
    go_end0
    exact ⟨rfl, k⟩

/-- Bits put one by one. -/
def PeRel (F : Value → Value → Value → Array Value) (t : TypeId) (A : Nat) (v : Value) (x m : Nat) (st : Nat × Nat × Nat) (W : World) (iv : Value) (wr : World) : Prop :=
  ∃ (q : Nat) (v' : Value) (s : Nat × Nat × Nat), q ≤ m ∧ iv = .int .i64 ((q : Int) - 1) ∧ En F t wr A v' s.1 s.2.1 s.2.2 ∧ dirN x q s = dirN x m st ∧ Rg s ∧ s.1 + 2 * q ≤ st.1 + 2 * m ∧ Chg (foot A v) W wr ∧ Moved W v v'
set_option maxRecDepth 100000 in
set_option maxHeartbeats 1000000 in
theorem putEach_any {F : Value → Value → Value → Array Value} {o : Nat} {t : TypeId} (hF : Fit F o) (A : Nat) (v : Value) (x m : Nat) (st : Nat × Nat × Nat) (W : World) (h : En F t W A v st.1 st.2.1 st.2.2) (hR : Rg st) (hj : st.1 ≤ 99000) (hm : m ≤ 64) (hx : x < 18446744073709551616) :
    Calls Try.prog 29 #[.int .u64 x, .int .i64 m, .func (.func 12) #[ptrO A o] #[]] W (EnPost F t A v (dirN x m st).1 (dirN x m st).2.1 (dirN x m st).2.2 W) := by
  have HX := Hid.intro hx
  clear hx
  unfold ptrO
  go_enter Try.func29, Try.ntmps29
  go_wp2_with fail
  go_loopw [6] (fun iv wr => PeRel F t A v x m st W iv wr) (fun iv _ => (intOf iv + 1).toNat)
  case atStart => exact ⟨m, v, st, Nat.le_refl _, by go_num, h, rfl, hR, Nat.le_refl _, chg_refl _ _, fun k hk => .inl hk⟩
  case round =>
    clear h
    obtain ⟨q, v1, s, hq, rfl, d1, d2, d3, d4, d5, d6⟩ := hrel
    rcases Nat.eq_zero_or_pos q with h0 | h0
    · subst h0
      have hn : ¬ (0 : Int) ≤ ((0 : Nat) : Int) - 1 := by omega
      go_wp2
      go_end0
      rw [← d2]
      exact ⟨rfl, v1, d1, d5, d6⟩
    · obtain ⟨i, rfl⟩ : ∃ i, q = i + 1 := ⟨q - 1, by omega⟩
      have hqi : (((i + 1 : Nat) : Int) - 1) = (i : Int) := by omega
      rw [hqi]
      have hd : ((x : Int) / 2 ^ i) = ((x / 2 ^ i : Nat) : Int) := by simp
      have D := direct_one hF A v1 s.1 s.2.1 s.2.2 (x / 2 ^ i) wr d1 d3.1 (by omega) (Nat.lt_of_le_of_lt (Nat.div_le_self _ _) HX.out)
      have hb : (x / 2 ^ i).testBit 0 = x.testBit i := by rw [Nat.testBit_div_two_pow]; simp
      rw [hb] at D
      have R3 := Hid.intro (rg_dir (x.testBit i) s d3)
      have D2 : Hid (dirN x i (dirS (x.testBit i) s) = dirN x m st) := d2
      have RW := Hid.intro (And.intro d5 d6)
      generalize x / 2 ^ i = y at *
      clear d3 d2 hb d5 d6
      unfold ptrO at D
      go_wp2_with fail
      refine D.mono ?_
      rintro e w1 ⟨rfl, v2, k1, k2, k3⟩
      go_wp2
      go_roundw
      case rel =>
        refine ⟨i, v2, dirS (x.testBit i) s, by omega, by go_num, k1, D2.out, R3.out.1, by have := R3.out.2; omega, chg_trans RW.out.1 k2 ?_, ?_⟩
        · rintro k hk (e | e)
          · exact .inl e
          · exact (RW.out.2 k e).elim (fun h => .inr h) (fun h => by omega)
        · intro k e
          rcases k3 k e with h | h
          · exact RW.out.2 k h
          · exact .inr (Nat.le_trans (chg_size RW.out.1) h)
      case measure => simp [intOf]
set_option maxRecDepth 100000 in
theorem direct_any {F : Value → Value → Value → Array Value} {o : Nat} {t : TypeId} (hF : Fit F o) (A : Nat) (v : Value) (st : Nat × Nat × Nat) (x : Nat) (n : Int) (W : World) (h : En F t W A v st.1 st.2.1 st.2.2) (hR : Rg st) (hj : st.1 ≤ 99000) (hx : x < 18446744073709551616) :
    Calls Try.prog 12 #[ptrO A o, .int .u64 x, .int .i64 n] W (EnPost F t A v (dirN x (cl n) st).1 (dirN x (cl n) st).2.1 (dirN x (cl n) st).2.2 W) := by
  by_cases h1 : n = 1
  · subst h1
    exact direct_one hF A v st.1 st.2.1 st.2.2 x W h hR.1 (by omega) hx
  · have WI := within_any 0 n 64 W ((cl n : Nat) : Int) (by unfold cl; (repeat' split) <;> omega)
    have PE := putEach_any hF A v x (cl n) st W h hR hj (cl_le n) hx
    have hne : ¬ ((cl n : Nat) : Int) = 1 := by unfold cl; (repeat' split) <;> omega
    have hcl := cl_le n
    clear hx
    generalize cl n = m at *
    unfold ptrO at *
    go_enter Try.func12, Try.ntmps12
    go_wp2_with (first | (go_at_call 28; refine WI.mono ?_; rintro e w1 ⟨rfl, rfl⟩))
    refine PE.mono ?_
    rintro e w1 ⟨rfl, k⟩
    go_wp2
    refine bodyPost_ret (results_none rfl _ _ _) rfl ?_
    exact ⟨rfl, k⟩
end Go.Proofs.Ytbmjehpkcelogaa
