/-
  ZigRests returns true for every input, and what it was handed reads as before; no condition.
-/
import Derived.Test.YtogiigkhkfcpjaaRows
import Derived.WalkKit
import Derived.ProofKit
import Derived.OpenShut
import Derived.Test.YtogiigkhkfcpjaaZigB
namespace Go.Proofs.Ytogiigkhkfcpjaa.zigRests
open Go.ChangeShapes Go.WideShapes Go.ChangeAt Go.RowKit
set_option linter.unusedVariables false      -- a walk need not use every 'w<i>' (that an integer argument fits its kind)

theorem own : ownKnob Try.prog.godebug = none := by kernel_rfl

theorem bt {w a b : World} (h : Below w.heap.size w a) (k : Below a.heap.size a b) : Below w.heap.size w b := h.trans (k.mono h.size)

theorem facts (K H R : Int) (k0 : 0 ≤ K) (k1 : K < 63) (hH : H = hi (2 + K)) (r0 : 0 ≤ R) (r1 : R < H) :
    2 ≤ H ∧ H ≤ 9223372036854775808 ∧ H % 2 = 0 ∧ jok (2 + K) (R - R % 2) = true ∧ jok (2 + K) (R - R % 2 + 1) = true ∧ jok (2 + K) H = false ∧
      0 < jval (2 + K) (R - R % 2) ∧ jval (2 + K) (R - R % 2) ≤ 9223372036854775807 ∧ jval (2 + K) (R - R % 2 + 1) = -jval (2 + K) (R - R % 2) - 1 := by
  have e : H = 2 * hi (1 + K) := by rw [hH, show 2 + K = (1 + K) + 1 from by omega, hi_succ _ (by omega)]
  have p := hi_pos (1 + K)
  have l := hi_le (2 + K) (by omega)
  rw [← hH] at l
  have j : ∀ r, r < H → jok (2 + K) r = true := by
    intro r h
    unfold jok
    rw [if_neg (by omega), decide_eq_true_eq, ← hH]; omega
  have j1 := j (R - R % 2) (by omega)
  have j2 := j (R - R % 2 + 1) (by omega)
  have v1 : jval (2 + K) (R - R % 2) = (H + (R - R % 2)) / 2 := by
    unfold jval zback; rw [if_pos j1, if_neg (by omega), ← hH, if_neg (by omega)]
  have v2 : jval (2 + K) (R - R % 2 + 1) = -((H + (R - R % 2 + 1)) / 2) - 1 := by
    unfold jval zback; rw [if_pos j2, if_neg (by omega), ← hH, if_pos (by omega)]
  refine ⟨by omega, l, by omega, j1, j2, ?_, by omega, by omega, by omega⟩
  unfold jok
  rw [if_neg (by omega), ← hH]
  simp

set_option maxHeartbeats 1000000 in
theorem core (a0 a1 : Int) (w : World) (n0 : 0 ≤ a0) (n0' : a0 ≤ 255) (n2 : 0 ≤ a1) (n2' : a1 ≤ 18446744073709551615) :
    Calls Try.prog 7 #[.int .u8 a0, .int .u64 a1] w fun e w' => e = .returned (.bool true) ∧ Below w.heap.size w w' := by
  obtain ⟨K, hK⟩ : ∃ K, a0 % 63 = K := ⟨_, rfl⟩
  have k0 : 0 ≤ K := by omega
  have k1 : K < 63 := by omega
  obtain ⟨H, hH⟩ : ∃ H, H = hi (2 + K) := ⟨_, rfl⟩
  have hw : IntKind.u64.wrap (2 ^ ((2 + K).toNat - 1)) = H := by rw [hH]; exact wrap_hi _ (by omega)
  have hp : 0 < H := by rw [hH]; exact hi_pos _
  obtain ⟨R, hR⟩ : ∃ R, a1 % H = R := ⟨_, rfl⟩
  have r0 : 0 ≤ R := by rw [← hR]; exact Int.emod_nonneg _ (by omega)
  have r1 : R < H := by rw [← hR]; exact Int.emod_lt_of_pos _ hp
  obtain ⟨f1, f2, f3, f4, f5, f6, f7, f8, f9⟩ := facts K H R k0 k1 hH r0 r1
  obtain ⟨J, hJ⟩ : ∃ J, jval (2 + K) (R - R % 2) = J := ⟨_, rfl⟩
  rw [hJ] at f7 f8 f9
  have hz : ¬ H = 0 := by omega
  have E : Hid (H % 2 = 0) := f3
  clear hH f3
  go_enter Try.func7, Try.ntmps7
  go_wp2_with (first | (go_at_call 8; refine (join_any _ _ _ (by omega) (by omega)).mono ?_; rintro e w' ⟨rfl, hb⟩) | (go_at_call 16; refine (awake_any _).mono ?_; rintro e w4 ⟨rfl, hb4⟩))
  go_ret
  exact ⟨rfl, by repeat (first | assumption | refine bt ?_ (by assumption))⟩
theorem walk (a0 : Int) (a1 : Int) (w0 : (Lit.int .u8 a0).wf = true) (w1 : (Lit.int .u64 a1).wf = true) (w : World) :
    Calls Try.prog 7 #[.int .u8 a0, .int .u64 a1] w fun e w' => e = .returned (.bool true) ∧ Below w.heap.size w w' := by
  have n0 := bounds_u8 w0
  have n2 := bounds_u64 w1
  exact core a0 a1 w n0.1 n0.2 n2.1 n2.2

/-! ### THE ROW's STEP: WRITTEN OUT: LEAVE IT -/
set_option maxRecDepth 100000 in
theorem lifted (os : Os) (started : os.Started) (H : Type) (enc : TypeId × Value → H) :
    ReturnsInHanded {} Try.checked os 7 .any (Rows.zigRestsSpec.pre6 enc Try.prog Try.f7 Rows.zigRestsRow.domain false) (Rows.zigRestsSpec.post enc Try.prog Try.f7 false true false false) := by
  refine returnsInHanded_of_change (C := Try.checked) own started (by kernel_rfl) Try.func7
    (ChangeSpec.witness6 (enc := enc) (C := Try.checked) false ⟨#[], #[.int .u8 0, .int .u64 0], []⟩ 8 (by kernel_rfl) (by kernel_rfl) (by kernel_rfl) (by kernel_rfl)) ?_
  intro W base args ds gs before hval0 hW hcnd _
  have hval : ∀ (j : Nat) t v, Try.f7.params[j]? = some t → args[j]? = some v → Value.okWide Try.prog W .any base t v := hval0
  have hW' := hW
  obtain ⟨p, q, hA0, hV, rfl, hfz, hnd⟩ := hW
  have hA : DataW.TrodAll enc Try.prog W 0 (fun _ => true) true Try.f7.params.toList args.toList ds p := hA0
  rw [Try.params7] at hA hval
  obtain ⟨v0, vs0, d0, ds0, p0, q0, hargs, rfl, rfl, h0, r0⟩ := trodAll_cons hA
  obtain ⟨v1, vs1, d1, ds1, p1, q1, rfl, rfl, rfl, h1, r1⟩ := trodAll_cons r0
  obtain ⟨rfl, rfl, rfl⟩ := trodAll_nil r1
  obtain rfl : args = #[v0, v1] := by cases args; simp_all
  obtain ⟨rfl, rfl⟩ := trodVars_none hV
  obtain ⟨a0, rfl, rfl, rfl, w0⟩ := open_int Try.underlying5 (hval 0 5 v0 rfl rfl) h0
  obtain ⟨a1, rfl, rfl, rfl, w1⟩ := open_int Try.underlying22 (hval 1 22 v1 rfl rfl) h1
  clear hA0 hval0
  refine (walk a0 a1 w0 w1 W).mono fun e W' ⟨he, bel⟩ => ?_
  subst he
  exact ⟨_, rfl, _, _, _, [], _, [], hW', (trodAll_cons_mk (shut_bool Try.underlying4 _) trodAll_mk0), (trodAll_cons_mk (shut_int Try.underlying5 w0) (trodAll_cons_mk (shut_int Try.underlying22 w1) trodAll_mk0)), rfl, bel.frame _, fun h => by cases h⟩

theorem over : Rows.zigRestsRow.holds Try.pinned (OpenSpec.ofChange Rows.zigRestsSpec) :=
  OpenClaim.holds_of_wide 7 Try.f7 rfl rfl rfl rfl rfl rfl rfl ⟨rfl, rfl, rfl, rfl, rfl⟩ rfl rfl rfl rfl rfl (by kernel_rfl) Try.func7 (by kernel_rfl)
    (of_decide_eq_true (by kernel_rfl)) (by unfold Func.isWrapper; first | (rw [if_pos (by decide +kernel)]; kernel_rfl) | (rw [if_neg (by decide +kernel)]; exact ⟨rfl, rfl⟩))
    (fun os started H enc _ => lifted os started H enc)

/-- ████ THE STATEMENT ████ -/
theorem proved : Rows.ZigRestsSaid :=
  over
end Go.Proofs.Ytogiigkhkfcpjaa.zigRests

namespace Go.Proofs.Ytogiigkhkfcpjaa
theorem zigRests_holds : Rows.ZigRestsSaid := zigRests.proved
#print axioms zigRests_holds
end Go.Proofs.Ytogiigkhkfcpjaa
