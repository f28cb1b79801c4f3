/-
  Each step leads two numbers to two: mixed ones differ where they did, so do rounds of two words.
-/
import Derived.Test.YtejljifdghfljaaRows
import Derived.WalkKit
import Derived.ProofKit
import Derived.OpenShut
import Derived.BigQuiet
import Derived.Deep.QuietTactic
import Derived.Test.YtejljifdghfljaaSum
import Derived.ShutString
namespace Go.Proofs.Ytejljifdghfljaa.xxhSteps
open Go.ChangeShapes Go.WideShapes Go.ChangeAt Go.RowKit
open Go.ChangeMaps (open_string shut_string)
set_option linter.unusedVariables false      -- a walk need not use every 'w<i>' (that an integer argument fits its kind)

theorem own : ownKnob Try.prog.godebug = none := by kernel_rfl

theorem ne_cast {x y : Nat} (h : ¬ x = y) : ((x : Int) == (y : Int)) = false := by simp; omega
set_option maxRecDepth 100000 in
set_option maxHeartbeats 1000000 in
theorem core (a b c : Nat) (ha : a < 18446744073709551616) (hb : b < 18446744073709551616) (w : World) :
    Calls Try.prog 5 #[.int .u64 a, .int .u64 b, .int .u64 c] w fun e w' => e = .returned (.bool true) ∧ Below w.heap.size w w' := by
  have m1 := fun w => mix_any a ha w
  have m2 := fun w => mix_any b hb w
  have r1 := fun w => round_any c a w
  have r2 := fun w => round_any c b w
  have r3 := fun w => round_any a c w
  have r4 := fun w => round_any b c w
  have aw := awake_own (Below.refl w.heap.size w)
  have f1 : Hid (mix a = mix b ↔ a = b) := ⟨mix_inj a b ha hb, fun h => by rw [h]⟩
  have f2 : Hid (rnd c a = rnd c b ↔ a = b) := ⟨rnd_inj' a b c ha hb, fun h => by rw [h]⟩
  have f3 : Hid (rnd a c = rnd b c ↔ a = b) := ⟨rnd_inj a b c ha hb, fun h => by rw [h]⟩
  generalize mix a = x1 at *
  generalize mix b = x2 at *
  generalize rnd c a = y1 at *
  generalize rnd c b = y2 at *
  generalize rnd a c = z1 at *
  generalize rnd b c = z2 at *
  clear ha hb
  by_cases h : a = b
  · obtain rfl := h
    obtain rfl : x1 = x2 := f1.out.2 rfl
    obtain rfl : y1 = y2 := f2.out.2 rfl
    obtain rfl : z1 = z2 := f3.out.2 rfl
    clear f1 f2 f3
    go_enter Try.func5, Try.ntmps5
    go_wp2_with (first | (go_at_call 13; with_reducible refine (m1 _).mono ?_; rintro e w1 ⟨rfl, rfl⟩) | (go_at_call 11; with_reducible refine (r1 _).mono ?_; rintro e w1 ⟨rfl, rfl⟩) | (go_at_call 11; with_reducible refine (r3 _).mono ?_; rintro e w1 ⟨rfl, rfl⟩) | (go_at_call 8; with_reducible refine aw.mono ?_; rintro e w1 ⟨rfl, hb1⟩) | go_in)
    go_ret
    exact ⟨rfl, by assumption⟩
  · have n1 := ne_cast (fun e => h (f1.out.1 e))
    have n2 := ne_cast (fun e => h (f2.out.1 e))
    have n3 := ne_cast (fun e => h (f3.out.1 e))
    have n4 := ne_cast h
    replace h := hidI h
    clear f1 f2 f3
    go_enter Try.func5, Try.ntmps5
    go_wp2_with (first | (go_at_call 13; with_reducible refine (m1 _).mono ?_; rintro e w1 ⟨rfl, rfl⟩) | (go_at_call 13; with_reducible refine (m2 _).mono ?_; rintro e w1 ⟨rfl, rfl⟩) | (go_at_call 11; with_reducible refine (r1 _).mono ?_; rintro e w1 ⟨rfl, rfl⟩) | (go_at_call 11; with_reducible refine (r2 _).mono ?_; rintro e w1 ⟨rfl, rfl⟩) | (go_at_call 11; with_reducible refine (r3 _).mono ?_; rintro e w1 ⟨rfl, rfl⟩) | (go_at_call 11; with_reducible refine (r4 _).mono ?_; rintro e w1 ⟨rfl, rfl⟩) | (go_at_call 8; with_reducible refine aw.mono ?_; rintro e w1 ⟨rfl, hb1⟩) | go_in)
    go_ret
    exact ⟨rfl, by assumption⟩

theorem walk (a0 : Int) (a1 : Int) (a2 : Int) (w0 : (Lit.int .u64 a0).wf = true) (w1 : (Lit.int .u64 a1).wf = true) (w2 : (Lit.int .u64 a2).wf = true) (w : World) :
    Calls Try.prog 5 #[.int .u64 a0, .int .u64 a1, .int .u64 a2] w fun e w' => e = .returned (.bool true) ∧ Below w.heap.size w w' := by
  have h0 := bounds_u64 w0
  have h1 := bounds_u64 w1
  have h2 := bounds_u64 w2
  obtain ⟨a, rfl⟩ := Int.eq_ofNat_of_zero_le h0.1
  obtain ⟨b, rfl⟩ := Int.eq_ofNat_of_zero_le h1.1
  obtain ⟨c, rfl⟩ := Int.eq_ofNat_of_zero_le h2.1
  exact core a b c (by omega) (by omega) w

/-! ### THE ROW's STEP: WRITTEN OUT: LEAVE IT -/
set_option maxRecDepth 100000 in
theorem lifted (os : Os) (started : os.Started) (H : Type) (enc : TypeId × Value → H) :
    ReturnsInHanded {} Try.checked os 5 .any (Rows.xxhStepsSpec.pre6 enc Try.prog Try.f5 Rows.xxhStepsRow.domain false) (Rows.xxhStepsSpec.post enc Try.prog Try.f5 false true false false) := by
  refine returnsInHanded_of_change (C := Try.checked) own started (by kernel_rfl) Try.func5
    (ChangeSpec.witness6 (enc := enc) (C := Try.checked) false ⟨#[], #[.int .u64 0, .int .u64 0, .int .u64 0], []⟩ 8 (by kernel_rfl) (by kernel_rfl) (by kernel_rfl) (by kernel_rfl)) ?_
  intro W base args ds gs before hval0 hW hcnd _
  have hval : ∀ (j : Nat) t v, Try.f5.params[j]? = some t → args[j]? = some v → Value.okWide Try.prog W .any base t v := hval0
  have hW' := hW
  obtain ⟨p, q, hA0, hV, rfl, hfz, hnd⟩ := hW
  have hA : DataW.TrodAll enc Try.prog W 0 (fun _ => true) true Try.f5.params.toList args.toList ds p := hA0
  rw [Try.params5] at hA hval
  obtain ⟨v0, vs0, d0, ds0, p0, q0, hargs, rfl, rfl, h0, r0⟩ := trodAll_cons hA
  obtain ⟨v1, vs1, d1, ds1, p1, q1, rfl, rfl, rfl, h1, r1⟩ := trodAll_cons r0
  obtain ⟨v2, vs2, d2, ds2, p2, q2, rfl, rfl, rfl, h2, r2⟩ := trodAll_cons r1
  obtain ⟨rfl, rfl, rfl⟩ := trodAll_nil r2
  obtain rfl : args = #[v0, v1, v2] := by cases args; simp_all
  obtain ⟨rfl, rfl⟩ := trodVars_none hV
  obtain ⟨a0, rfl, rfl, rfl, w0⟩ := open_int Try.underlying22 (hval 0 22 v0 rfl rfl) h0
  obtain ⟨a1, rfl, rfl, rfl, w1⟩ := open_int Try.underlying22 (hval 1 22 v1 rfl rfl) h1
  obtain ⟨a2, rfl, rfl, rfl, w2⟩ := open_int Try.underlying22 (hval 2 22 v2 rfl rfl) h2
  clear hA0 hval0
  refine (walk a0 a1 a2 w0 w1 w2 W).mono fun e W' ⟨he, bel⟩ => ?_
  subst he
  exact ⟨_, rfl, _, _, _, [], _, [], hW', (trodAll_cons_mk (shut_bool Try.underlying4 _) trodAll_mk0), (trodAll_cons_mk (shut_int Try.underlying22 w0) (trodAll_cons_mk (shut_int Try.underlying22 w1) (trodAll_cons_mk (shut_int Try.underlying22 w2) trodAll_mk0))), rfl, bel.frame _, fun h => by cases h⟩

theorem over : Rows.xxhStepsRow.holds Try.pinned (OpenSpec.ofChange Rows.xxhStepsSpec) :=
  OpenClaim.holds_of_wide 5 Try.f5 rfl rfl rfl rfl rfl rfl rfl ⟨rfl, rfl, rfl, rfl, rfl⟩ rfl rfl rfl rfl rfl (by kernel_rfl) Try.func5 (by kernel_rfl)
    (of_decide_eq_true (by kernel_rfl)) (by unfold Func.isWrapper; first | (rw [if_pos (by decide +kernel)]; kernel_rfl) | (rw [if_neg (by decide +kernel)]; exact ⟨rfl, rfl⟩))
    (fun os started H enc _ => lifted os started H enc)

/-- ████ THE STATEMENT ████ -/
theorem proved : Rows.XxhStepsSaid :=
  over
end Go.Proofs.Ytejljifdghfljaa.xxhSteps

namespace Go.Proofs.Ytejljifdghfljaa
theorem xxhSteps_holds : Rows.XxhStepsSaid := xxhSteps.proved
#print axioms xxhSteps_holds
end Go.Proofs.Ytejljifdghfljaa
