/-
  Proved: ChanceLong returns true for every input, and leaves what was there as it was; no condition.
-/
import Derived.Test.YtbmjehpkcelogaaRows
import Derived.WalkKit
import Derived.ProofKit
import Derived.OpenShut
import Derived.BigQuiet
import Derived.Deep.QuietTactic
import Derived.Test.YtbmjehpkcelogaaOw
import Derived.ShutString
namespace Go.Proofs.Ytbmjehpkcelogaa.chanceLong
open Go.ChangeShapes Go.WideShapes Go.ChangeAt Go.RowKit
open Go.ChangeMaps (open_string shut_string)
set_option linter.unusedVariables false      -- a walk need not use every 'w<i>' (that an integer argument fits its kind)

theorem own : ownKnob Try.prog.godebug = none := by kernel_rfl

/-- The range behind so many likely bits. -/
def lk : Nat → Nat
  | 0 => 4294967295
  | n + 1 => bel 4095 (lk n)
theorem lk_bound : ∀ n, lk n ≤ 4294967295 ∧ 4294967295 ≤ lk n + n * 1052672
  | 0 => ⟨Nat.le_refl _, by simp [lk]⟩
  | n + 1 => by
    obtain ⟨h1, h2⟩ := lk_bound n
    have e : lk (n + 1) = lk n / 4096 * 4095 := by rw [lk, bel]; rfl
    rw [e]
    omega
theorem lk_step (n : Nat) (h : n < 1000) : bitS 4095 true (0, 0, lk n) = (0, 0, lk (n + 1)) := by
  obtain ⟨h1, h2⟩ := lk_bound (n + 1)
  have h3 : ¬ lk (n + 1) < 16777216 := by omega
  have e : bel 4095 (lk n) = lk (n + 1) := rfl
  simp only [bitS, if_true, e, nar, gr, if_neg h3]
  simp
/-- How many bytes, and the range, behind so many bits without a chance. -/
def dkN : Nat → Nat × Nat → Nat × Nat
  | 0, s => s
  | n + 1, s => dkN n (s.1 + gr (s.2 / 2), s.2 / 2 * 256 ^ gr (s.2 / 2))
theorem dirS_dk (b : Bool) (st : Nat × Nat × Nat) : (dirS b st).1 = st.1 + gr (st.2.2 / 2) ∧ (dirS b st).2.2 = st.2.2 / 2 * 256 ^ gr (st.2.2 / 2) := by
  unfold dirS
  cases b <;> simp [nar]
theorem dirN_dk (v : Nat) : ∀ (n : Nat) (st : Nat × Nat × Nat), (dirN v n st).1 = (dkN n (st.1, st.2.2)).1 ∧ (dirN v n st).2.2 = (dkN n (st.1, st.2.2)).2
  | 0, st => ⟨rfl, rfl⟩
  | n + 1, st => by
    obtain ⟨h1, h2⟩ := dirS_dk (v.testBit n) st
    obtain ⟨h3, h4⟩ := dirN_dk v n (dirS (v.testBit n) st)
    rw [h1, h2] at h3 h4
    exact ⟨h3, h4⟩
theorem dkN_from : ∀ (n k R : Nat), dkN n (k, R) = (k + (dkN n (0, R)).1, (dkN n (0, R)).2)
  | 0, k, R => rfl
  | n + 1, k, R => by
    rw [dkN, dkN, dkN_from n (k + _), dkN_from n (0 + _)]
    simp only
    congr 1
    omega
theorem dk_first : dkN 64 (0, 4294967295) = (8, 4294967040) := by decide +kernel
theorem dk_next : dkN 64 (0, 4294967040) = (8, 4294967040) := by decide +kernel
theorem long_step (v i : Nat) (st : Nat × Nat × Nat) (h : st.1 = 8 * i) (hr : st.2.2 = 4294967295 ∨ st.2.2 = 4294967040) :
    (dirN v 64 st).1 = 8 * (i + 1) ∧ ((dirN v 64 st).2.2 = 4294967295 ∨ (dirN v 64 st).2.2 = 4294967040) := by
  obtain ⟨h1, h2⟩ := dirN_dk v 64 st
  rw [dkN_from] at h1 h2
  rw [h1, h2, h]
  rcases hr with hr | hr
  · rw [hr, dk_first]; exact ⟨by omega, .inr rfl⟩
  · rw [hr, dk_next]; exact ⟨by omega, .inr rfl⟩
theorem apart_nil {A B : Nat} (h : A ≠ B) : Apart A (.slice none 0 0) B (.slice none 0 0) := by
  rintro k (rfl | e) (g | g)
  · exact h g
  · simp [Value.ownBlock] at g
  · simp [Value.ownBlock] at e
  · simp [Value.ownBlock] at e
def L1 (w : World) (A B : Nat) (k : Nat) (iv : Value) (wr : World) : Prop :=
  ∃ (i : Nat) (v : Value), i ≤ k ∧ iv = .int .i64 i ∧ EO w wr A v (0, 0, lk i) ∧ EO w wr B (.slice none 0 0) st0 ∧ Apart A v B (.slice none 0 0) ∧ Below w.heap.size w wr
def L2 (w : World) (A B : Nat) (v : Value) (stA : Nat × Nat × Nat) (q : Nat) (iv : Value) (wr : World) : Prop :=
  ∃ (i : Nat) (u : Value) (st : Nat × Nat × Nat), i ≤ q ∧ iv = .int .i64 i ∧ EO w wr A v stA ∧ EO w wr B u st ∧ st.1 = 8 * i ∧ (st.2.2 = 4294967295 ∨ st.2.2 = 4294967040) ∧ Apart A v B u ∧ Below w.heap.size w wr
set_option maxRecDepth 100000 in
set_option maxHeartbeats 2000000 in
theorem walk (a0 : Int) (a1 : Int) (w0 : (Lit.int .u16 a0).wf = true) (w1 : (Lit.int .u64 a1).wf = true) (w : World) :
    Calls Try.prog 6 #[.int .u16 a0, .int .u64 a1] w fun e w' => e = .returned (.bool true) ∧ Below w.heap.size w w' := by
  have h0 := bounds_u16 w0
  have h1 := bounds_u64 w1
  obtain ⟨x, rfl⟩ : ∃ x : Nat, a1 = x := ⟨a1.toNat, by omega⟩
  have hx : x < 18446744073709551616 := by omega
  obtain ⟨k, hk⟩ : ∃ k : Nat, k = (a0 % 1000).toNat := ⟨_, rfl⟩
  have hkq : a0 % 1000 = (k : Int) := by omega
  have hk1 : k < 1000 := by omega
  obtain ⟨q, hq⟩ : ∃ q : Nat, q = k / 64 := ⟨_, rfl⟩
  have hqq : (k : Int) / 64 = (q : Int) := by omega
  have hq1 : q ≤ 15 := by omega
  clear hk hq w0 w1 h1
  go_enter Try.func6, Try.ntmps6
  go_wp2_with fail
  refine (new_own (Below.refl _ w)).mono ?_
  rintro e x1 ⟨A, rfl, A0, d1, b1, _⟩
  unfold ptr
  go_wp2_with fail
  refine (new_own b1).mono ?_
  rintro e x2 ⟨B, rfl, B0, e1, b2, c2⟩
  have d2 := eo_kept d1 c2 (fun _ _ h => h)
  have AB := apart_nil (A := A) (B := B) (by have := eo_lt d1 A (.inl rfl); omega)
  clear d1 b1 c2 A0 B0
  unfold ptr
  go_wp2_with fail
  rw [hkq]
  go_loopw [8] (fun iv wr => L1 w A B k iv wr) (fun iv _ => (k - intOf iv).toNat)
  case atStart => exact ⟨0, _, Nat.zero_le _, rfl, d2, e1, AB, b2⟩
  case round =>
    clear d2 e1 AB b2
    obtain ⟨i, v, hi, rfl, d2, e1, AB, b2⟩ := hrel
    by_cases hik : i < k
    · have hd : decide ((i : Int) < (k : Int)) = true := decide_eq_true (by omega)
      have BO := bit_own A v _ 4095 1 d2 b2 (show (0 : Nat) ≤ 99000 by decide) (0, 0, lk (i + 1)) (lk_step i (by omega))
      unfold ptr at BO
      have E1 := Hid.intro e1
      clear e1 d2 hkq hqq
      go_wp2_with fail
      refine BO.mono ?_
      rintro e x3 ⟨rfl, v3, d3, b3, c3, m3⟩
      have e3 := eo_kept E1.out c3 (fun k g h => AB k h g)
      have AB3 := apart_moved AB m3 (eo_lt E1.out)
      clear BO AB b2 c3 m3 E1
      go_wp2_with fail
      go_roundw
      case rel => exact ⟨i + 1, v3, by omega, by go_num, d3, e3, AB3, b3⟩
      case measure => simp [intOf]; omega
    · obtain rfl : i = k := by omega
      have hd : decide ((i : Int) < (i : Int)) = false := decide_eq_false (by omega)
      go_wp2_with fail
      obtain ⟨sa, hsa, hsa1⟩ : ∃ sa, sa = ((0, 0, lk i) : Nat × Nat × Nat) ∧ sa.1 = 0 := ⟨_, rfl, rfl⟩
      rw [← hsa] at d2
      clear hsa hd hik hi
      go_loopw [9] (fun iv wr => L2 w A B v sa q iv wr) (fun iv _ => (q - intOf iv).toNat)
      case atStart => exact ⟨0, _, st0, Nat.zero_le _, rfl, d2, e1, rfl, .inl rfl, AB, b2⟩
      case round =>
        clear d2 e1 AB b2
        obtain ⟨j, u, st, hj, rfl, d2, e1, s1, s2, AB, b2⟩ := hrel
        by_cases hjq : j < q
        · have hd : decide ((j : Int) < (q : Int)) = true := decide_eq_true (by omega)
          obtain ⟨st', hst⟩ : ∃ st', st' = dirN x 64 st := ⟨_, rfl⟩
          have LS := long_step x j st s1 s2
          rw [← hst] at LS
          have DO := direct_own B u st x 64 e1 b2 (by omega) hx st' hst.symm
          unfold ptr at DO
          have D2 := Hid.intro d2
          have LS := Hid.intro LS
          have HX := Hid.intro hx
          clear e1 d2 hkq s1 s2 hst hx
          go_wp2_with fail
          refine DO.mono ?_
          rintro e x3 ⟨rfl, u3, e3, b3, c3, m3⟩
          have d3 := eo_kept D2.out c3 (fun k g h => AB k g h)
          have AB3 := apart_symm (apart_moved (apart_symm AB) m3 (eo_lt D2.out))
          clear DO AB b2 c3 m3 D2
          go_wp2_with fail
          go_roundw
          case rel => exact ⟨j + 1, u3, st', by omega, by go_num, d3, e3, LS.out.1, LS.out.2, AB3, b3⟩
          case measure => simp [intOf]; omega
        · obtain rfl : j = q := by omega
          have hd : decide ((j : Int) < (j : Int)) = false := decide_eq_false (by omega)
          have BA := bytes_own A v sa d2 b2 (by omega)
          have hla : (bs (byt sa)).size = 5 := by rw [size_bs, byt_len]; omega
          have hlb : (bs (byt st)).size = 5 + 8 * j := by rw [size_bs, byt_len]; omega
          have hk90 : st.1 ≤ 90000 := by omega
          generalize bs (byt sa) = ba at *
          generalize hbb : bs (byt st) = bb at *
          have HX := Hid.intro hx
          clear s1 s2 hx hkq
          unfold ptr at BA
          go_wp2_with fail
          refine BA.mono ?_
          rintro e x3 ⟨rfl, b3, c3⟩
          have e3 := eo_kept e1 c3 (fun _ _ h => h)
          have BB := bytes_own B u st e3 b3 hk90
          rw [hbb] at BB
          unfold ptr at BB
          clear d2 e1 b2 BA c3 hbb AB
          go_wp2_with fail
          refine BB.mono ?_
          rintro e x4 ⟨rfl, b4, c4⟩
          clear e3 b3 BB c4
          have hc1 : (5 : Int) + (j : Int) * 8 = ((5 + 8 * j : Nat) : Int) := by omega
          have hbn : (bs []).toList = [] := by simp [bs]
          have hb1 : (5 : Int) + 8 * (j : Int) - 1 ≤ 5 + 8 * j := by omega
          have hb2 : (5 : Int) + 8 * (j : Int) ≤ 5 + 8 * j + 1 := by omega
          have N1 := fun (w : World) => bit_nil 1 1 w
          have N2 := fun (w : World) => direct_nil 1 1 w
          have N3 := fun (w : World) => dbit_nil 1 w
          have N4 := fun (w : World) => ddir_nil 1 w
          have N5 := fun (w : World) => bytes_nil w
          have E6 := fun (w : World) => err_any 6 w (by decide)
          go_wp2_with (first | (go_at_call 14; refine (N1 _).mono ?_; rintro e w9 ⟨rfl, rfl⟩) | (go_at_call 12; refine (N2 _).mono ?_; rintro e w9 ⟨rfl, rfl⟩) | (go_at_call 23; refine (N3 _).mono ?_; rintro e w9 ⟨rfl, rfl⟩) | (go_at_call 20; refine (N4 _).mono ?_; rintro e w9 ⟨rfl, rfl⟩) | (go_at_call 16; refine (N5 _).mono ?_; rintro e w9 ⟨rfl, rfl⟩) | (go_at_call 22; refine (E6 _).mono ?_; rintro e w9 ⟨rfl, rfl⟩))
          refine (end_nil x4).mono ?_
          rintro e x5 ⟨rfl, c5⟩
          have b5 := below_no b4 c5
          clear c5
          go_wp2_with (first | (go_at_call 22; refine (E6 _).mono ?_; rintro e w9 ⟨rfl, rfl⟩))
          refine (awake_own b5).mono ?_
          rintro e x6 ⟨rfl, b6⟩
          go_wp2
          go_ret
          exact ⟨rfl, b6⟩

/-! ### THE ROW's STEP: WRITTEN OUT: LEAVE IT -/
set_option maxRecDepth 100000 in
theorem lifted (os : Os) (started : os.Started) (H : Type) (enc : TypeId × Value → H) :
    ReturnsInHanded {} Try.checked os 6 .any (Rows.chanceLongSpec.pre6 enc Try.prog Try.f6 Rows.chanceLongRow.domain false) (Rows.chanceLongSpec.post enc Try.prog Try.f6 false true false false) := by
  refine returnsInHanded_of_change (C := Try.checked) own started (by kernel_rfl) Try.func6
    (ChangeSpec.witness6 (enc := enc) (C := Try.checked) false ⟨#[], #[.int .u16 0, .int .u64 0], []⟩ 8 (by kernel_rfl) (by kernel_rfl) (by kernel_rfl) (by kernel_rfl)) ?_
  intro W base args ds gs before hval0 hW hcnd _
  have hval : ∀ (j : Nat) t v, Try.f6.params[j]? = some t → args[j]? = some v → Value.okWide Try.prog W .any base t v := hval0
  have hW' := hW
  obtain ⟨p, q, hA0, hV, rfl, hfz, hnd⟩ := hW
  have hA : DataW.TrodAll enc Try.prog W 0 (fun _ => true) true Try.f6.params.toList args.toList ds p := hA0
  rw [Try.params6] at hA hval
  obtain ⟨v0, vs0, d0, ds0, p0, q0, hargs, rfl, rfl, h0, r0⟩ := trodAll_cons hA
  obtain ⟨v1, vs1, d1, ds1, p1, q1, rfl, rfl, rfl, h1, r1⟩ := trodAll_cons r0
  obtain ⟨rfl, rfl, rfl⟩ := trodAll_nil r1
  obtain rfl : args = #[v0, v1] := by cases args; simp_all
  obtain ⟨rfl, rfl⟩ := trodVars_none hV
  obtain ⟨a0, rfl, rfl, rfl, w0⟩ := open_int Try.underlying55 (hval 0 55 v0 rfl rfl) h0
  obtain ⟨a1, rfl, rfl, rfl, w1⟩ := open_int Try.underlying28 (hval 1 28 v1 rfl rfl) h1
  clear hA0 hval0
  refine (walk a0 a1 w0 w1 W).mono fun e W' ⟨he, bel⟩ => ?_
  subst he
  exact ⟨_, rfl, _, _, _, [], _, [], hW', (trodAll_cons_mk (shut_bool Try.underlying4 _) trodAll_mk0), (trodAll_cons_mk (shut_int Try.underlying55 w0) (trodAll_cons_mk (shut_int Try.underlying28 w1) trodAll_mk0)), rfl, bel.frame _, fun h => by cases h⟩

theorem over : Rows.chanceLongRow.holds Try.pinned (OpenSpec.ofChange Rows.chanceLongSpec) :=
  OpenClaim.holds_of_wide 6 Try.f6 rfl rfl rfl rfl rfl rfl rfl ⟨rfl, rfl, rfl, rfl, rfl⟩ rfl rfl rfl rfl rfl (by kernel_rfl) Try.func6 (by kernel_rfl)
    (of_decide_eq_true (by kernel_rfl)) (by unfold Func.isWrapper; first | (rw [if_pos (by decide +kernel)]; kernel_rfl) | (rw [if_neg (by decide +kernel)]; exact ⟨rfl, rfl⟩))
    (fun os started H enc _ => lifted os started H enc)

/-- ████ THE STATEMENT ████ -/
theorem proved : Rows.ChanceLongSaid :=
  over
end Go.Proofs.Ytbmjehpkcelogaa.chanceLong

namespace Go.Proofs.Ytbmjehpkcelogaa
theorem chanceLong_holds : Rows.ChanceLongSaid := chanceLong.proved
#print axioms chanceLong_holds
end Go.Proofs.Ytbmjehpkcelogaa
