/-
  ZigSigns returns true for every input, and what it was handed reads as before; no condition.
-/
import Derived.Test.YtogiigkhkfcpjaaRows
import Derived.WalkKit
import Derived.ProofKit
import Derived.OpenShut
import Derived.Test.YtogiigkhkfcpjaaZigB
namespace Go.Proofs.Ytogiigkhkfcpjaa.zigSigns
open Go.ChangeShapes Go.WideShapes Go.ChangeAt Go.RowKit
set_option linter.unusedVariables false      -- a walk need not use every 'w<i>' (that an integer argument fits its kind)

theorem own : ownKnob Try.prog.godebug = none := by kernel_rfl

theorem jok_low (c r : Int) (h0 : 0 ≤ c) (h1 : c < 2) (hr : 0 ≤ r) : jok c r = (r == 0) := by
  unfold jok
  by_cases e : c = 0
  · simp [e]; rfl
  · have : c = 1 := by omega
    subst this
    have : hi 1 = 1 := by decide
    rw [if_neg (by omega), this, Bool.eq_iff_iff]; simp; omega
theorem jok_high (c r : Int) (h0 : 2 ≤ c) (h1 : c ≤ 64) (hr : 0 ≤ r) : jok c r = (r / 2 ^ ((max c 1).toNat - 1) == 0) := by
  have e : (max c 1).toNat - 1 = c.toNat - 1 := by omega
  have hp : (0 : Int) < 2 ^ (c.toNat - 1) := Int.pow_pos (by omega)
  unfold jok hi
  rw [e, if_neg (by omega), Bool.eq_iff_iff]
  simp only [decide_eq_true_eq, beq_iff_eq]
  constructor
  · intro h; exact Int.ediv_eq_zero_of_lt hr h.2.2
  · intro h; exact ⟨by omega, h1, by have := Int.lt_mul_of_ediv_lt hp (by omega : r / 2 ^ (c.toNat - 1) < 1); omega⟩
theorem jok_out (c r : Int) (h : c < 0 ∨ 64 < c) : jok c r = false := by
  unfold jok
  rw [if_neg (by omega)]; simp; omega


set_option maxHeartbeats 1000000 in
theorem core (a0 a1 a2 : Int) (w : World) (n0 : 0 ≤ a0) (n0' : a0 ≤ 4294967295) (n2 : 0 ≤ a2) (n2' : a2 ≤ 18446744073709551615) :
    Calls Try.prog 5 #[.int .u32 a0, .int .i64 a1, .int .u64 a2] w fun e w' => e = .returned (.bool true) ∧ Below w.heap.size w w' := by
  have m1 : zmap a0 = 2 * a0 := zmap_pos _ (by omega)
  have m2 : zmap (-a0 - 1) = 2 * a0 + 1 := by rw [zmap_neg _ (by omega)]; omega
  have m3 : zmap (-9223372036854775808) = 18446744073709551615 := by decide
  have m4 : zmap 9223372036854775807 = 18446744073709551614 := by decide
  have m5 : blen 18446744073709551615 = 64 := by decide +kernel
  have hfd : ∀ (x y : Value) (w : World), (Instr.field 24 (.agg #[x, y]) 0).run Try.prog w = .ok x w := fun _ _ _ => by kernel_rfl
  by_cases c1 : a1 < 0
  · have j : jok a1 a2 = false := jok_out _ _ (.inl c1)
    go_enter Try.func5, Try.ntmps5
    go_wp2_with (first | (go_at_call 8; refine (join_any _ _ _ n2 n2').mono ?_; rintro e w' ⟨rfl, hb⟩) | (go_at_call 10; refine (map_any _ _ (by omega) (by omega)).mono ?_; rintro e w3 ⟨rfl, rfl⟩) | (go_at_call 14; refine (split_any _ _ (by decide) (by decide)).mono ?_; rintro e w2 ⟨rfl, hb2⟩) | (go_at_call 16; refine (awake_any _).mono ?_; rintro e w4 ⟨rfl, hb4⟩))
    go_ret
    exact ⟨rfl, (hb.trans (hb2.mono hb.size)).trans (hb4.mono (Nat.le_trans hb.size hb2.size))⟩
  · by_cases c2 : 64 < a1
    · have j : jok a1 a2 = false := jok_out _ _ (.inr c2)
      go_enter Try.func5, Try.ntmps5
      go_wp2_with (first | (go_at_call 8; refine (join_any _ _ _ n2 n2').mono ?_; rintro e w' ⟨rfl, hb⟩) | (go_at_call 10; refine (map_any _ _ (by omega) (by omega)).mono ?_; rintro e w3 ⟨rfl, rfl⟩) | (go_at_call 14; refine (split_any _ _ (by decide) (by decide)).mono ?_; rintro e w2 ⟨rfl, hb2⟩) | (go_at_call 16; refine (awake_any _).mono ?_; rintro e w4 ⟨rfl, hb4⟩))
      go_ret
      exact ⟨rfl, (hb.trans (hb2.mono hb.size)).trans (hb4.mono (Nat.le_trans hb.size hb2.size))⟩
    · by_cases c3 : a1 < 2
      · have j : jok a1 a2 = (a2 == 0) := jok_low _ _ (by omega) c3 n2
        by_cases c4 : (a2 == 0) = true
        all_goals
          simp only [c4] at j
          go_enter Try.func5, Try.ntmps5
          go_wp2_with (first | (go_at_call 8; refine (join_any _ _ _ n2 n2').mono ?_; rintro e w' ⟨rfl, hb⟩) | (go_at_call 10; refine (map_any _ _ (by omega) (by omega)).mono ?_; rintro e w3 ⟨rfl, rfl⟩) | (go_at_call 14; refine (split_any _ _ (by decide) (by decide)).mono ?_; rintro e w2 ⟨rfl, hb2⟩) | (go_at_call 16; refine (awake_any _).mono ?_; rintro e w4 ⟨rfl, hb4⟩))
          go_ret
          exact ⟨rfl, (hb.trans (hb2.mono hb.size)).trans (hb4.mono (Nat.le_trans hb.size hb2.size))⟩
      · have j : jok a1 a2 = (a2 / 2 ^ ((max a1 1).toNat - 1) == 0) := jok_high _ _ (by omega) (by omega) n2
        by_cases c4 : (a2 / 2 ^ ((max a1 1).toNat - 1) == 0) = true
        all_goals
          simp only [c4] at j
          go_enter Try.func5, Try.ntmps5
          go_wp2_with (first | (go_at_call 8; refine (join_any _ _ _ n2 n2').mono ?_; rintro e w' ⟨rfl, hb⟩) | (go_at_call 10; refine (map_any _ _ (by omega) (by omega)).mono ?_; rintro e w3 ⟨rfl, rfl⟩) | (go_at_call 14; refine (split_any _ _ (by decide) (by decide)).mono ?_; rintro e w2 ⟨rfl, hb2⟩) | (go_at_call 16; refine (awake_any _).mono ?_; rintro e w4 ⟨rfl, hb4⟩))
          go_ret
          exact ⟨rfl, (hb.trans (hb2.mono hb.size)).trans (hb4.mono (Nat.le_trans hb.size hb2.size))⟩
theorem walk (a0 : Int) (a1 : Int) (a2 : Int) (w0 : (Lit.int .u32 a0).wf = true) (w1 : (Lit.int .i64 a1).wf = true) (w2 : (Lit.int .u64 a2).wf = true) (w : World) :
    Calls Try.prog 5 #[.int .u32 a0, .int .i64 a1, .int .u64 a2] w fun e w' => e = .returned (.bool true) ∧ Below w.heap.size w w' := by
  have n0 := bounds_u32 w0
  have n2 := bounds_u64 w2
  exact core a0 a1 a2 w n0.1 n0.2 n2.1 n2.2

/-! ### THE ROW's STEP: WRITTEN OUT: LEAVE IT -/
set_option maxRecDepth 100000 in
theorem lifted (os : Os) (started : os.Started) (H : Type) (enc : TypeId × Value → H) :
    ReturnsInHanded {} Try.checked os 5 .any (Rows.zigSignsSpec.pre6 enc Try.prog Try.f5 Rows.zigSignsRow.domain false) (Rows.zigSignsSpec.post enc Try.prog Try.f5 false true false false) := by
  refine returnsInHanded_of_change (C := Try.checked) own started (by kernel_rfl) Try.func5
    (ChangeSpec.witness6 (enc := enc) (C := Try.checked) false ⟨#[], #[.int .u32 0, .int .i64 0, .int .u64 0], []⟩ 8 (by kernel_rfl) (by kernel_rfl) (by kernel_rfl) (by kernel_rfl)) ?_
  intro W base args ds gs before hval0 hW hcnd _
  have hval : ∀ (j : Nat) t v, Try.f5.params[j]? = some t → args[j]? = some v → Value.okWide Try.prog W .any base t v := hval0
  have hW' := hW
  obtain ⟨p, q, hA0, hV, rfl, hfz, hnd⟩ := hW
  have hA : DataW.TrodAll enc Try.prog W 0 (fun _ => true) true Try.f5.params.toList args.toList ds p := hA0
  rw [Try.params5] at hA hval
  obtain ⟨v0, vs0, d0, ds0, p0, q0, hargs, rfl, rfl, h0, r0⟩ := trodAll_cons hA
  obtain ⟨v1, vs1, d1, ds1, p1, q1, rfl, rfl, rfl, h1, r1⟩ := trodAll_cons r0
  obtain ⟨v2, vs2, d2, ds2, p2, q2, rfl, rfl, rfl, h2, r2⟩ := trodAll_cons r1
  obtain ⟨rfl, rfl, rfl⟩ := trodAll_nil r2
  obtain rfl : args = #[v0, v1, v2] := by cases args; simp_all
  obtain ⟨rfl, rfl⟩ := trodVars_none hV
  obtain ⟨a0, rfl, rfl, rfl, w0⟩ := open_int Try.underlying36 (hval 0 36 v0 rfl rfl) h0
  obtain ⟨a1, rfl, rfl, rfl, w1⟩ := open_int Try.underlying3 (hval 1 3 v1 rfl rfl) h1
  obtain ⟨a2, rfl, rfl, rfl, w2⟩ := open_int Try.underlying22 (hval 2 22 v2 rfl rfl) h2
  clear hA0 hval0
  refine (walk a0 a1 a2 w0 w1 w2 W).mono fun e W' ⟨he, bel⟩ => ?_
  subst he
  exact ⟨_, rfl, _, _, _, [], _, [], hW', (trodAll_cons_mk (shut_bool Try.underlying4 _) trodAll_mk0), (trodAll_cons_mk (shut_int Try.underlying36 w0) (trodAll_cons_mk (shut_int Try.underlying3 w1) (trodAll_cons_mk (shut_int Try.underlying22 w2) trodAll_mk0))), rfl, bel.frame _, fun h => by cases h⟩

theorem over : Rows.zigSignsRow.holds Try.pinned (OpenSpec.ofChange Rows.zigSignsSpec) :=
  OpenClaim.holds_of_wide 5 Try.f5 rfl rfl rfl rfl rfl rfl rfl ⟨rfl, rfl, rfl, rfl, rfl⟩ rfl rfl rfl rfl rfl (by kernel_rfl) Try.func5 (by kernel_rfl)
    (of_decide_eq_true (by kernel_rfl)) (by unfold Func.isWrapper; first | (rw [if_pos (by decide +kernel)]; kernel_rfl) | (rw [if_neg (by decide +kernel)]; exact ⟨rfl, rfl⟩))
    (fun os started H enc _ => lifted os started H enc)

/-- ████ THE STATEMENT ████ -/
theorem proved : Rows.ZigSignsSaid :=
  over
end Go.Proofs.Ytogiigkhkfcpjaa.zigSigns

namespace Go.Proofs.Ytogiigkhkfcpjaa
theorem zigSigns_holds : Rows.ZigSignsSaid := zigSigns.proved
#print axioms zigSigns_holds
end Go.Proofs.Ytogiigkhkfcpjaa
