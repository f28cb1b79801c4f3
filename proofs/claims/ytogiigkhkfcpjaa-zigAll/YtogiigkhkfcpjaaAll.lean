/-
  ZigAll returns true for every input, and what it was handed reads as before; no condition.
-/
import Derived.Test.YtogiigkhkfcpjaaRows
import Derived.WalkKit
import Derived.ProofKit
import Derived.OpenShut
import Derived.Lib.SmallJoins
import Derived.Test.YtogiigkhkfcpjaaRefB
namespace Go.Proofs.Ytogiigkhkfcpjaa.zigAll
open Go.ChangeShapes Go.WideShapes Go.ChangeAt Go.RowKit Go.Joins
set_option linter.unusedVariables false

theorem own : ownKnob Try.prog.godebug = none := by kernel_rfl
theorem cells24 : Try.prog.cellsOf 24 = 2 := by kernel_rfl
theorem bt {w a b : World} (h : Below w.heap.size w a) (k : Below a.heap.size a b) : Below w.heap.size w b := h.trans (k.mono h.size)
theorem ba {w a : World} (h : Below w.heap.size w a) (o : Obj) : Below w.heap.size w (a.alloc o) := h.alloc h.size o

theorem lt_of_below {w w1 : World} {o : Obj} (h : Below (w.alloc o).heap.size (w.alloc o) w1) : w.heap.size < w1.heap.size := by
  have := h.size; simp at this; omega

set_option maxHeartbeats 2000000 in
theorem core (v u c r : Int) (w : World) (v1 : -9223372036854775808 ≤ v) (v2 : v ≤ 9223372036854775807) (u1 : 0 ≤ u) (u2 : u ≤ 18446744073709551615) (r1 : 0 ≤ r) (r2 : r ≤ 18446744073709551615) :
    Calls Try.prog 3 #[.int .i64 v, .int .u64 u, .agg #[.int .i64 c, .int .u64 r]] w fun e w' => e = .returned (.bool true) ∧ Below w.heap.size w w' := by
  go_enter Try.func3, Try.ntmps3
  go_wp2_with (first | (go_at_call 8; refine (join_any _ _ _ r1 r2).mono ?_; rintro e w' ⟨rfl, hb⟩; obtain ⟨hc, hf⟩ := bcell hb) | (go_at_call 9; refine (refJoin_any _ _ _ r1 r2).mono ?_; rintro e w' ⟨rfl, hb⟩) | (go_at_call 10; refine (map_any _ _ v1 v2).mono ?_; rintro e w3 ⟨rfl, rfl⟩) | (go_at_call 11; refine (refMap_any _ _ v1 v2).mono ?_; rintro e w3 ⟨rfl, rfl⟩) | (go_at_call 12; refine (back_any _ _ u1 u2).mono ?_; rintro e w3 ⟨rfl, rfl⟩) | (go_at_call 13; refine (refBack_any _ _ u1 u2).mono ?_; rintro e w3 ⟨rfl, rfl⟩) | (go_at_call 14; refine (split_any _ _ v1 v2).mono ?_; rintro e w' ⟨rfl, hb⟩; obtain ⟨hc, hf⟩ := bcell hb; have hz := lt_of_below hb) | (go_at_call 15; refine (refSplit_any _ _ v1 v2).mono ?_; rintro e w' ⟨rfl, hb⟩; obtain ⟨hc, hf⟩ := bcell hb) | (go_at_call 16; refine (awake_any _).mono ?_; rintro e w4 ⟨rfl, hb4⟩))
  go_ret
  exact ⟨rfl, by repeat (first | assumption | exact Below.refl _ _ | refine ba ?_ _ | refine bt ?_ (by assumption))⟩
theorem walk (a0 a1 c r : Int) (w0 : (Lit.int .i64 a0).wf = true) (w1 : (Lit.int .u64 a1).wf = true) (w2 : (Lit.int .i64 c).wf = true) (w3 : (Lit.int .u64 r).wf = true) (w : World) :
    Calls Try.prog 3 #[.int .i64 a0, .int .u64 a1, .agg #[.int .i64 c, .int .u64 r]] w fun e w' => e = .returned (.bool true) ∧ Below w.heap.size w w' := by
  have n0 := bounds_i64 w0
  have n1 := bounds_u64 w1
  have n3 := bounds_u64 w3
  exact core a0 a1 c r w n0.1 n0.2 n1.1 n1.2 n3.1 n3.2

/-! ### THE ROW's STEP: WRITTEN OUT: LEAVE IT -/
set_option maxRecDepth 100000 in
theorem lifted (os : Os) (started : os.Started) (H : Type) (enc : TypeId × Value → H) :
    ReturnsInHanded {} Try.checked os 3 .any (Rows.zigAllSpec.pre6 enc Try.prog Try.f3 Rows.zigAllRow.domain false) (Rows.zigAllSpec.post enc Try.prog Try.f3 false true false false) := by
  refine returnsInHanded_of_change (C := Try.checked) own started (by kernel_rfl) Try.func3
    (ChangeSpec.witness6 (enc := enc) (C := Try.checked) false ⟨#[], #[.int .i64 0, .int .u64 0, .agg #[.int .i64 0, .int .u64 0]], []⟩ 8 (by kernel_rfl) (by kernel_rfl) (by kernel_rfl) (by kernel_rfl)) ?_
  intro W base args ds gs before hval0 hW hcnd _
  have hval : ∀ (j : Nat) t v, Try.f3.params[j]? = some t → args[j]? = some v → Value.okWide Try.prog W .any base t v := hval0
  have hW' := hW
  obtain ⟨p, q, hA0, hV, rfl, hfz, hnd⟩ := hW
  have hA : DataW.TrodAll enc Try.prog W 0 (fun _ => true) true Try.f3.params.toList args.toList ds p := hA0
  rw [Try.params3] at hA hval
  obtain ⟨v0, vs0, d0, ds0, p0, q0, hargs, rfl, rfl, h0, r0⟩ := trodAll_cons hA
  obtain ⟨v1, vs1, d1, ds1, p1, q1, rfl, rfl, rfl, h1, r1⟩ := trodAll_cons r0
  obtain ⟨v2, vs2, d2, ds2, p2, q2, rfl, rfl, rfl, h2, r2⟩ := trodAll_cons r1
  obtain ⟨rfl, rfl, rfl⟩ := trodAll_nil r2
  obtain rfl : args = #[v0, v1, v2] := by cases args; simp_all
  obtain ⟨rfl, rfl⟩ := trodVars_none hV
  obtain ⟨a0, rfl, rfl, rfl, w0⟩ := open_int Try.underlying2 (hval 0 2 v0 rfl rfl) h0
  obtain ⟨a1, rfl, rfl, rfl, w1⟩ := open_int Try.underlying22 (hval 1 22 v1 rfl rfl) h1
  obtain ⟨c0, c1, y0, y1, m, rfl, rfl, rfl, hy0, hy1⟩ := open_agg2 Try.underlying24 (by kernel_rfl) cells24 (hval 2 24 v2 rfl rfl) h2
  obtain ⟨c, e0, rfl, w2⟩ := DataW.trod_int Try.underlying3 hy0
  obtain ⟨r, e1, rfl, w3⟩ := DataW.trod_int Try.underlying22 hy1
  simp at e0 e1
  subst e0 e1
  clear hA0 hval0
  refine (walk a0 a1 c r w0 w1 w2 w3 W).mono fun e W' ⟨he, bel⟩ => ?_
  subst he
  have reads : ∀ sp : Nat → Bool, DataW.Trod enc Try.prog W' 0 sp true 24 (.agg #[.int .i64 c, .int .u64 r]) (.agg [.lit (.int .i64 c), .lit (.int .u64 r)]) [] := fun sp =>
    shut_agg2 (y0 := (.lit (.int .i64 c), [])) (y1 := (.lit (.int .u64 r), [])) Try.underlying24 (by kernel_rfl) cells24 ⟨1, by simp [DataW.trod, Try.underlying3, w2]⟩ ⟨1, by simp [DataW.trod, Try.underlying22, w3]⟩
  exact ⟨_, rfl, _, _, _, [], _, [], hW', (trodAll_cons_mk (shut_bool Try.underlying4 _) trodAll_mk0), (trodAll_cons_mk (shut_int Try.underlying2 w0) (trodAll_cons_mk (shut_int Try.underlying22 w1) (trodAll_cons_mk (reads _) trodAll_mk0))), rfl, bel.frame _, fun h => by cases h⟩

theorem over : Rows.zigAllRow.holds Try.pinned (OpenSpec.ofChange Rows.zigAllSpec) :=
  OpenClaim.holds_of_wide 3 Try.f3 rfl rfl rfl rfl rfl rfl rfl ⟨rfl, rfl, rfl, rfl, rfl⟩ rfl rfl rfl rfl rfl (by kernel_rfl) Try.func3 (by kernel_rfl)
    (of_decide_eq_true (by kernel_rfl)) (by unfold Func.isWrapper; first | (rw [if_pos (by decide +kernel)]; kernel_rfl) | (rw [if_neg (by decide +kernel)]; exact ⟨rfl, rfl⟩))
    (fun os started H enc _ => lifted os started H enc)

/-- ████ THE STATEMENT ████ -/
theorem proved : Rows.ZigAllSaid :=
  over
end Go.Proofs.Ytogiigkhkfcpjaa.zigAll

namespace Go.Proofs.Ytogiigkhkfcpjaa
theorem zigAll_holds : Rows.ZigAllSaid := zigAll.proved
#print axioms zigAll_holds
end Go.Proofs.Ytogiigkhkfcpjaa
