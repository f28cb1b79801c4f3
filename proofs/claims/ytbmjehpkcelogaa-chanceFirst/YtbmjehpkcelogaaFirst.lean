/-
  Proved: ChanceFirst returns true for every input, and leaves what was there as it was; no condition.
-/
import Derived.Test.YtbmjehpkcelogaaRows
import Derived.WalkKit
import Derived.ProofKit
import Derived.OpenShut
import Derived.OwnWalk
import Derived.Below
import Derived.BigQuiet
import Derived.Deep.QuietTactic
import Derived.Test.YtbmjehpkcelogaaLw
import Derived.ShutString
namespace Go.Proofs.Ytbmjehpkcelogaa.chanceFirst
open Go.ChangeShapes Go.WideShapes Go.ChangeAt Go.RowKit
open Go.ChangeMaps (open_string shut_string)
set_option linter.unusedVariables false      -- a walk need not use every 'w<i>' (that an integer argument fits its kind)

theorem own : ownKnob Try.prog.godebug = none := by kernel_rfl

def FRel (w : World) (A B v k : Nat) (iv : Value) (wr : World) : Prop :=
  ∃ (m : Nat) (u : Value) (st : Nat × Nat × Nat), m ≤ k ∧ iv = .int .i64 ((m : Int) - 1) ∧ EO w wr A (.slice none 0 0) st0 ∧ EO w wr B u st ∧ dirN v m st = dirN v k st0 ∧ st.1 + 2 * m ≤ 2 * k ∧ Apart A (.slice none 0 0) B u ∧ Below w.heap.size w wr
set_option maxRecDepth 100000 in
set_option maxHeartbeats 2000000 in
theorem walk (a0 : Int) (a1 : Int) (w0 : (Lit.int .u8 a0).wf = true) (w1 : (Lit.int .u8 a1).wf = true) (w : World) :
    Calls Try.prog 8 #[.int .u8 a0, .int .u8 a1] w fun e w' => e = .returned (.bool true) ∧ Below w.heap.size w w' := by
  have h0 := bounds_u8 w0
  have h1 := bounds_u8 w1
  obtain ⟨v, rfl⟩ : ∃ v : Nat, a0 = v := ⟨a0.toNat, by omega⟩
  have hv : v < 256 := by omega
  obtain ⟨k, hk⟩ : ∃ k : Nat, k = (a1 % 8).toNat := ⟨_, rfl⟩
  have hkq : a1 % 8 = (k : Int) := by omega
  have hk1 : k < 8 := by omega
  clear hk w0 w1
  go_enter Try.func8, Try.ntmps8
  go_wp2_with fail
  refine (new_own (Below.refl _ w)).mono ?_
  rintro e x1 ⟨A, rfl, A0, d1, b1, _⟩
  unfold ptr
  go_wp2_with fail
  refine (new_own b1).mono ?_
  rintro e x2 ⟨B, rfl, B0, e1, b2, c2⟩
  have d2 := eo_kept d1 c2 (fun _ _ h => h)
  have AB := apart_nil (A := A) (B := B) (by have := eo_lt d1 A (.inl rfl); omega)
  clear d1 b1 c2 A0 B0
  unfold ptr
  go_wp2_with fail
  rw [hkq]
  go_loopw [8] (fun iv wr => FRel w A B v k iv wr) (fun iv _ => (intOf iv + 1).toNat)
  case atStart => exact ⟨k, _, st0, Nat.le_refl _, by go_num, d2, e1, rfl, by simp [st0], AB, b2⟩
  case round =>
    clear d2 e1 AB b2
    obtain ⟨m, u, st, hm, rfl, d2, e1, s1, s2, AB, b2⟩ := hrel
    rcases Nat.eq_zero_or_pos m with h0 | h0
    · subst h0
      have hn : ¬ (0 : Int) ≤ ((0 : Nat) : Int) - 1 := by omega
      have hFu : 2 * k ≤ 14 := by omega
      obtain ⟨F, hF⟩ : ∃ F, F = dirN v k st0 := ⟨_, rfl⟩
      have hst : st = F := by rw [hF, ← s1]; rfl
      subst hst
      have iF : Iv st := by rw [hF]; exact (dirN_ok v k _ iv0).1
      have hFu : st.1 ≤ 14 := by rw [hF]; have := dirN_up v k st0; simp only [st0] at this ⊢; omega
      have hf := fin_byt st iF
      have t0 : Hid (gDir (byt st) (cl 0) 0 st0 false = (0, 0, st0, false)) := rfl
      have t1 : Hid (gDir (byt st) (cl (k : Int)) 0 st0 false = (v % 2 ^ k, 0, st, false)) := by
        have := tell_dir (byt st) v st hf k 0 st0 iv0 (by rw [← hF]; exact sub_refl _)
        rw [cl_nat k (by omega)]
        rw [this, ← hF]; exact Hid.intro (by simp)
      have t2 := Hid.intro (end_byt st iF)
      have hz : (byt st).length ≤ 100000 := by rw [byt_len]; omega
      have hlow := low64 v k (by omega) (by omega)
      have D1 := direct_own A _ st0 v (k : Int) d2 b2 (by decide) (by omega) st (by rw [cl_nat k (by omega)]; exact hF.symm)
      have HF := Hid.intro hF
      have E1 := Hid.intro e1
      have LOW := Hid.intro hlow
      have HV := Hid.intro hv
      have HZ := Hid.intro hz
      unfold ptr at D1
      clear s1 s2 hF hf iF d2 e1 hlow hv hz
      go_wp2_with fail
      refine D1.mono ?_
      rintro e x3 ⟨rfl, v3, d3, b3, c3, m3⟩
      have e3 := eo_kept E1.out c3 (fun k g h => AB k h g)
      have AB3 := apart_moved AB m3 (eo_lt E1.out)
      clear D1 AB b2 c3 m3 E1
      have D2 := direct_own A v3 st v 0 d3 b3 (by omega) (by have := HV.out; omega) st rfl
      have E3 := Hid.intro e3
      unfold ptr at D2
      clear d3 e3
      go_wp2_with fail
      refine D2.mono ?_
      rintro e x4 ⟨rfl, v4, d4, b4, c4, m4⟩
      have e4 := eo_kept E3.out c4 (fun k g h => AB3 k h g)
      have AB4 := apart_moved AB3 m4 (eo_lt E3.out)
      clear D2 AB3 b3 c4 m4 E3
      have D3 := direct_own A v4 st 1 (-3) d4 b4 (by omega) (by omega) st rfl
      have E4 := Hid.intro e4
      unfold ptr at D3
      clear d4 e4
      go_wp2_with fail
      refine D3.mono ?_
      rintro e x5 ⟨rfl, v5, d5, b5, c5, m5⟩
      have e5 := eo_kept E4.out c5 (fun k g h => AB4 k h g)
      have AB5 := apart_moved AB4 m5 (eo_lt E4.out)
      clear D3 AB4 b4 c5 m5 E4
      have B1 := bytes_own A v5 st d5 b5 (by omega)
      unfold ptr at B1
      go_wp2_with fail
      refine B1.mono ?_
      rintro e x6 ⟨rfl, b6, c6⟩
      have d6 := eo_kept d5 c6 (fun _ _ h => h)
      have e6 := eo_kept e5 c6 (fun _ _ h => h)
      clear B1 b5 c6 d5 e5
      go_wp2_with fail
      refine (from_own (bs (byt st)) b6).mono ?_
      rintro e x7 ⟨D, rfl, D0, f7, b7, c7⟩
      have d7 := eo_kept d6 c7 (fun _ _ h => h)
      have e7 := eo_kept e6 c7 (fun _ _ h => h)
      have AD : Apart A v5 D (.slice none 0 0) := by
        intro j hj hj2
        have h1 := eo_lt d6 j hj
        rcases hj2 with rfl | hj2
        · omega
        · simp [Value.ownBlock] at hj2
      have BD : Apart B u D (.slice none 0 0) := by
        intro j hj hj2
        have h1 := eo_lt e6 j hj
        rcases hj2 with rfl | hj2
        · omega
        · simp [Value.ownBlock] at hj2
      clear d6 e6 b6 c7 D0
      have G1 := ddir_own D (bs (byt st)) _ st0 false 0 f7 b7 (by decide) (by rw [size_bs]; exact HZ.out) 0 0 st0 false (by rw [bs_data]; exact t0.out)
      unfold ptr at G1 ⊢
      go_wp2_with fail
      refine G1.mono ?_
      rintro e x8 ⟨rfl, u8, f8, b8, c8, m8⟩
      have d8 := eo_kept d7 c8 (fun k g h => AD k g h)
      have e8 := eo_kept e7 c8 (fun k g h => BD k g h)
      have AD8 := apart_symm (apart_moved (apart_symm AD) m8 (eo_lt d7))
      have BD8 := apart_symm (apart_moved (apart_symm BD) m8 (eo_lt e7))
      clear G1 f7 d7 e7 b7 c8 m8 AD BD
      have G2 := ddir_own D (bs (byt st)) u8 st0 false k f8 b8 (by decide) (by rw [size_bs]; exact HZ.out) (v % 2 ^ k) 0 st false (by rw [bs_data]; exact t1.out)
      unfold ptr at G2
      generalize hvk : v % 2 ^ k = vk at *
      go_wp2_with fail
      refine G2.mono ?_
      rintro e x9 ⟨rfl, u9, f9, b9, c9, m9⟩
      have d9 := eo_kept d8 c9 (fun k g h => AD8 k g h)
      have e9 := eo_kept e8 c9 (fun k g h => BD8 k g h)
      clear G2 f8 d8 e8 b8 c9 m9 AD8 BD8
      have B2 := bytes_own A v5 st d9 b9 (by omega)
      unfold ptr at B2
      go_wp2_with fail
      refine B2.mono ?_
      rintro e x10 ⟨rfl, b10, c10⟩
      have e10 := eo_kept e9 c10 (fun _ _ h => h)
      have f10 := do_kept f9 c10 (fun _ _ h => h)
      clear B2 d9 e9 f9 b9 c10
      have B3 := bytes_own B u st e10 b10 (by omega)
      unfold ptr at B3
      go_wp2_with fail
      refine B3.mono ?_
      rintro e x11 ⟨rfl, b11, c11⟩
      have f11 := do_kept f10 c11 (fun _ _ h => h)
      clear B3 e10 f10 b10 c11
      have E0 := fun (w : World) => err_any 0 w (by decide)
      have EE := dend_own D (bs (byt st)) u9 st false f11 b11 (by omega) (by rw [size_bs]; exact HZ.out) 0 false (by rw [bs_data]; exact t2.out)
      unfold ptr at EE
      have hlow2 := LOW.out
      clear f11 b11
      go_wp2_with (first | (go_at_call 22; refine (E0 _).mono ?_; rintro e w9 ⟨rfl, rfl⟩) | (go_at_call 25; refine EE.mono ?_; rintro e w9 ⟨rfl, _, b12, _⟩) | (go_at_call 10; refine (awake_own b12).mono ?_; rintro e w10 ⟨rfl, b13⟩))
      go_ret
      exact ⟨rfl, b13⟩
    · obtain ⟨q, rfl⟩ : ∃ q, m = q + 1 := ⟨m - 1, by omega⟩
      have hq : (((q + 1 : Nat) : Int) - 1) = (q : Int) := by omega
      rw [hq]
      have DO := direct_own B u st (v / 2 ^ q % 2) 1 e1 b2 (by omega) (by omega) (dirS (v.testBit q) st) (dir_low v q st)
      have hand : bits .and .u64 ((v : Int) / 2 ^ q) 1 = ((v / 2 ^ q % 2 : Nat) : Int) := by
        rw [show ((v : Int) / 2 ^ q) = ((v / 2 ^ q : Nat) : Int) from by simp]
        exact and_one _ (by have := Nat.div_le_self v (2 ^ q); omega)
      have HUP := dirS_up (v.testBit q) st
      have S1 : Hid (dirN v q (dirS (v.testBit q) st) = dirN v k st0) := s1
      have D2 := Hid.intro d2
      unfold ptr at DO
      generalize v / 2 ^ q % 2 = b at *
      generalize dirS (v.testBit q) st = st' at *
      clear e1 s1 d2
      go_wp2_with fail
      refine DO.mono ?_
      rintro e x3 ⟨rfl, u3, e3, b3, c3, m3⟩
      have d3 := eo_kept D2.out c3 (fun k g h => AB k g h)
      have AB3 := apart_symm (apart_moved (apart_symm AB) m3 (eo_lt D2.out))
      clear DO AB b2 c3 m3 D2
      go_wp2_with fail
      go_roundw
      case rel => exact ⟨q, u3, st', by omega, rfl, d3, e3, S1.out, by omega, AB3, b3⟩
      case measure => simp [intOf]

/-! ### THE ROW's STEP: WRITTEN OUT: LEAVE IT -/
set_option maxRecDepth 100000 in
theorem lifted (os : Os) (started : os.Started) (H : Type) (enc : TypeId × Value → H) :
    ReturnsInHanded {} Try.checked os 8 .any (Rows.chanceFirstSpec.pre6 enc Try.prog Try.f8 Rows.chanceFirstRow.domain false) (Rows.chanceFirstSpec.post enc Try.prog Try.f8 false true false false) := by
  refine returnsInHanded_of_change (C := Try.checked) own started (by kernel_rfl) Try.func8
    (ChangeSpec.witness6 (enc := enc) (C := Try.checked) false ⟨#[], #[.int .u8 0, .int .u8 0], []⟩ 8 (by kernel_rfl) (by kernel_rfl) (by kernel_rfl) (by kernel_rfl)) ?_
  intro W base args ds gs before hval0 hW hcnd _
  have hval : ∀ (j : Nat) t v, Try.f8.params[j]? = some t → args[j]? = some v → Value.okWide Try.prog W .any base t v := hval0
  have hW' := hW
  obtain ⟨p, q, hA0, hV, rfl, hfz, hnd⟩ := hW
  have hA : DataW.TrodAll enc Try.prog W 0 (fun _ => true) true Try.f8.params.toList args.toList ds p := hA0
  rw [Try.params8] at hA hval
  obtain ⟨v0, vs0, d0, ds0, p0, q0, hargs, rfl, rfl, h0, r0⟩ := trodAll_cons hA
  obtain ⟨v1, vs1, d1, ds1, p1, q1, rfl, rfl, rfl, h1, r1⟩ := trodAll_cons r0
  obtain ⟨rfl, rfl, rfl⟩ := trodAll_nil r1
  obtain rfl : args = #[v0, v1] := by cases args; simp_all
  obtain ⟨rfl, rfl⟩ := trodVars_none hV
  obtain ⟨a0, rfl, rfl, rfl, w0⟩ := open_int Try.underlying5 (hval 0 5 v0 rfl rfl) h0
  obtain ⟨a1, rfl, rfl, rfl, w1⟩ := open_int Try.underlying5 (hval 1 5 v1 rfl rfl) h1
  clear hA0 hval0
  refine (walk a0 a1 w0 w1 W).mono fun e W' ⟨he, bel⟩ => ?_
  subst he
  exact ⟨_, rfl, _, _, _, [], _, [], hW', (trodAll_cons_mk (shut_bool Try.underlying4 _) trodAll_mk0), (trodAll_cons_mk (shut_int Try.underlying5 w0) (trodAll_cons_mk (shut_int Try.underlying5 w1) trodAll_mk0)), rfl, bel.frame _, fun h => by cases h⟩

theorem over : Rows.chanceFirstRow.holds Try.pinned (OpenSpec.ofChange Rows.chanceFirstSpec) :=
  OpenClaim.holds_of_wide 8 Try.f8 rfl rfl rfl rfl rfl rfl rfl ⟨rfl, rfl, rfl, rfl, rfl⟩ rfl rfl rfl rfl rfl (by kernel_rfl) Try.func8 (by kernel_rfl)
    (of_decide_eq_true (by kernel_rfl)) (by unfold Func.isWrapper; first | (rw [if_pos (by decide +kernel)]; kernel_rfl) | (rw [if_neg (by decide +kernel)]; exact ⟨rfl, rfl⟩))
    (fun os started H enc _ => lifted os started H enc)

/-- ████ THE STATEMENT ████ -/
theorem proved : Rows.ChanceFirstSaid :=
  over
end Go.Proofs.Ytbmjehpkcelogaa.chanceFirst

namespace Go.Proofs.Ytbmjehpkcelogaa
theorem chanceFirst_holds : Rows.ChanceFirstSaid := chanceFirst.proved
#print axioms chanceFirst_holds
end Go.Proofs.Ytbmjehpkcelogaa
