/-
  VintAll returns true for every input, and what it was handed reads as before; no condition.
-/
import Derived.Test.YtpngpilgbiddgaaRows
import Derived.WalkKit
import Derived.ProofKit
import Derived.OpenShut
import Derived.Test.YtpngpilgbiddgaaRefC
import Derived.BigQuiet
import Derived.Deep.QuietTactic
import Derived.Test.YtpngpilgbiddgaaGet
import Derived.ShutString
namespace Go.Proofs.Ytpngpilgbiddgaa.vintAll
open Go.ChangeShapes Go.WideShapes Go.ChangeAt Go.RowKit
open Go.ChangeMaps (open_string shut_string)
set_option linter.unusedVariables false      -- a walk need not use every 'w<i>' (that an integer argument fits its kind)

theorem own : ownKnob Try.prog.godebug = none := by kernel_rfl

theorem bt {w a b : World} (h : Below w.heap.size w a) (k : Below a.heap.size a b) : Below w.heap.size w b := h.trans (k.mono h.size)

def Tail (w : World) (B : Nat) (W : World) : Prop := Below w.heap.size w W ∧ B + 1 < W.heap.size
theorem six_keep {w a b : World} {B : Nat} {p q r p' q' r' : Value} (h : (a.cell? ⟨B, 0, none⟩ = some p ∧ a.cell? ⟨B, 1, none⟩ = some q ∧ a.cell? ⟨B, 2, none⟩ = some r ∧ a.cell? ⟨B + 1, 0, none⟩ = some p' ∧ a.cell? ⟨B + 1, 1, none⟩ = some q' ∧ a.cell? ⟨B + 1, 2, none⟩ = some r') ∧ Tail w B a) (k : Below a.heap.size a b) :
    (b.cell? ⟨B, 0, none⟩ = some p ∧ b.cell? ⟨B, 1, none⟩ = some q ∧ b.cell? ⟨B, 2, none⟩ = some r ∧ b.cell? ⟨B + 1, 0, none⟩ = some p' ∧ b.cell? ⟨B + 1, 1, none⟩ = some q' ∧ b.cell? ⟨B + 1, 2, none⟩ = some r') ∧ Tail w B b := by
  obtain ⟨⟨h0, h1, h2, h3, h4, h5⟩, hb, hl⟩ := h
  have e0 : ∀ j, b.cell? ⟨B, j, none⟩ = a.cell? ⟨B, j, none⟩ := fun j => k.cell (p := ⟨B, j, none⟩) (by show B < _; omega)
  have e1 : ∀ j, b.cell? ⟨B + 1, j, none⟩ = a.cell? ⟨B + 1, j, none⟩ := fun j => k.cell (p := ⟨B + 1, j, none⟩) (by show B + 1 < _; omega)
  refine ⟨⟨?_, ?_, ?_, ?_, ?_, ?_⟩, bt hb k, Nat.lt_of_lt_of_le hl k.size⟩
  · rw [e0]; exact h0
  · rw [e0]; exact h1
  · rw [e0]; exact h2
  · rw [e1]; exact h3
  · rw [e1]; exact h4
  · rw [e1]; exact h5
theorem six_init {w w' : World} (hb : Below w.heap.size w w') (p q r p' q' r' : Value) :
    ((((w'.alloc (.cells #[p, q, r] 28)).alloc (.cells #[p', q', r'] 28)).drew.cell? ⟨w'.heap.size, 0, none⟩ = some p ∧ ((w'.alloc (.cells #[p, q, r] 28)).alloc (.cells #[p', q', r'] 28)).drew.cell? ⟨w'.heap.size, 1, none⟩ = some q ∧ ((w'.alloc (.cells #[p, q, r] 28)).alloc (.cells #[p', q', r'] 28)).drew.cell? ⟨w'.heap.size, 2, none⟩ = some r ∧ ((w'.alloc (.cells #[p, q, r] 28)).alloc (.cells #[p', q', r'] 28)).drew.cell? ⟨w'.heap.size + 1, 0, none⟩ = some p' ∧ ((w'.alloc (.cells #[p, q, r] 28)).alloc (.cells #[p', q', r'] 28)).drew.cell? ⟨w'.heap.size + 1, 1, none⟩ = some q' ∧ ((w'.alloc (.cells #[p, q, r] 28)).alloc (.cells #[p', q', r'] 28)).drew.cell? ⟨w'.heap.size + 1, 2, none⟩ = some r') ∧ Tail w w'.heap.size ((w'.alloc (.cells #[p, q, r] 28)).alloc (.cells #[p', q', r'] 28)).drew) := by
  have o : ∀ j, ((w'.alloc (.cells #[p, q, r] 28)).alloc (.cells #[p', q', r'] 28)).drew.cell? ⟨w'.heap.size, j, none⟩ = #[p, q, r][j]? := fun j => by
    show ((w'.alloc (.cells #[p, q, r] 28)).alloc (.cells #[p', q', r'] 28)).cell? ⟨w'.heap.size, j, none⟩ = _
    rw [World.cell?_alloc_past _ _ _ (by simp), World.cell?_alloc_at _ _ _ _ rfl]
  have n : ∀ j, ((w'.alloc (.cells #[p, q, r] 28)).alloc (.cells #[p', q', r'] 28)).drew.cell? ⟨w'.heap.size + 1, j, none⟩ = #[p', q', r'][j]? := fun j => by
    show ((w'.alloc (.cells #[p, q, r] 28)).alloc (.cells #[p', q', r'] 28)).cell? ⟨w'.heap.size + 1, j, none⟩ = _
    rw [World.cell?_alloc_at _ _ _ _ (by simp)]
  refine ⟨⟨?_, ?_, ?_, ?_, ?_, ?_⟩, ((hb.alloc hb.size _).alloc (by simp; have := hb.size; omega) _).drew, ?_⟩
  · rw [o]; rfl
  · rw [o]; rfl
  · rw [o]; rfl
  · rw [n]; rfl
  · rw [n]; rfl
  · rw [n]; rfl
  · show _ < ((w'.alloc (.cells #[p, q, r] 28)).alloc (.cells #[p', q', r'] 28)).heap.size; simp

set_option maxRecDepth 100000 in
set_option maxHeartbeats 8000000 in
theorem core (n : Nat) (s : ByteArray) (a : Int) (w : World) (hn : n < 18446744073709551616) (hs : s.size ≤ 9223372036854775807) :
    Calls Try.prog 3 #[.int .u64 n, .string s, .int .i64 a] w fun e w' => e = .returned (.bool true) ∧ Below w.heap.size w w' := by
  by_cases h1 : 100 < s.size
  · go_enter Try.func3, Try.ntmps3
    go_wp2_with (first | (go_at_call 9; refine (awake_any _).mono ?_; rintro e w' ⟨rfl, hb⟩) | go_in)
    go_ret
    exact ⟨rfl, by assumption⟩
  · obtain ⟨x, y, z, hR⟩ : ∃ x y z, getAt numb s.data.toList a = (x, y, z) := ⟨_, _, _, rfl⟩
    obtain ⟨x2, y2, z2, hR2⟩ : ∃ x y z, getAt getw s.data.toList a = (x, y, z) := ⟨_, _, _, rfl⟩
    have g1 : ∀ w, Calls Try.prog 10 #[.string s, .int .i64 a] w fun e w' => e = .returned (.tuple #[.int .u64 x, .int .i64 y, .int .i64 z]) ∧ w = w' := fun w => (get_any s a w (by omega) x y z hR).mono (fun _ _ h => ⟨h.1, h.2.symm⟩)
    have g2 : ∀ w, Calls Try.prog 11 #[.string s, .int .i64 a] w fun e w' => e = .returned (.tuple #[.int .u64 x2, .int .i64 y2, .int .i64 z2]) ∧ w = w' := fun w => (getword_any s a w (by omega) x2 y2 z2 hR2).mono (fun _ _ h => ⟨h.1, h.2.symm⟩)
    have ez : ∀ (k : Nat) w, Calls Try.prog 18 #[.int .i64 k] w fun e w' => e = .returned (.int .i64 k) ∧ w = w' := fun k w => (err_any k w).mono (fun _ _ h => ⟨h.1, h.2.symm⟩)
    have g3 := fun w => refGetv_any s a w (by omega)
    have g4 := fun w => refGetw_any s a w (by omega)
    rw [hR] at g3
    rw [hR2] at g4
    simp only [agg3] at g3 g4
    have p1 := fun w => put_any n hn w
    have p2 := fun w => refPut_any n hn w
    have p3 := fun w => word_any n hn w
    have p4 := fun w => refWord_any n hn w
    generalize bs (vb n) = P at *
    generalize bs (wd n) = Q at *
    clear hR hR2 hn
    go_enter Try.func3, Try.ntmps3
    go_wp2_with (first | (go_at_call 10; refine (g1 _).mono ?_; rintro e w1 ⟨rfl, rfl⟩) | (go_at_call 11; refine (g2 _).mono ?_; rintro e w1 ⟨rfl, rfl⟩) | (go_at_call 12; refine (g3 _).mono ?_; rintro e w1 ⟨rfl, hb1⟩) | (go_at_call 13; refine (g4 _).mono ?_; rintro e w2 ⟨rfl, hb2⟩; have hbw : Below w.heap.size w w2 := bt hb1 hb2) | go_in)
    go_region_held3 (fun W => (W.cell? ⟨w2.heap.size, 0, none⟩ = some (.int .u64 x) ∧ W.cell? ⟨w2.heap.size, 1, none⟩ = some (.int .i64 y) ∧ W.cell? ⟨w2.heap.size, 2, none⟩ = some (.int .i64 z) ∧ W.cell? ⟨w2.heap.size + 1, 0, none⟩ = some (.int .u64 x2) ∧ W.cell? ⟨w2.heap.size + 1, 1, none⟩ = some (.int .i64 y2) ∧ W.cell? ⟨w2.heap.size + 1, 2, none⟩ = some (.int .i64 z2)) ∧ Tail w w2.heap.size W) (first | exact six_init hbw _ _ _ _ _ _ | exact six_keep (by assumption) (by assumption) | assumption) (first | (go_at_call 14; refine (p1 _).mono ?_; rintro e w4 ⟨rfl, hb4⟩) | (go_at_call 15; refine (p2 _).mono ?_; rintro e w4 ⟨rfl, hb4⟩) | (go_at_call 16; refine (p3 _).mono ?_; rintro e w4 ⟨rfl, hb4⟩) | (go_at_call 17; refine (p4 _).mono ?_; rintro e w4 ⟨rfl, hb4⟩) | (go_at_call 18; refine (ez z _).mono ?_; rintro e w4 ⟨rfl, rfl⟩) | (go_at_call 18; refine (ez z2 _).mono ?_; rintro e w4 ⟨rfl, rfl⟩) | (go_at_call 9; refine (awake_any _).mono ?_; rintro e w4 ⟨rfl, hb4⟩))
    all_goals
      have hT : ∃ p : Prop, p ∧ Tail w w2.heap.size w4 := ⟨_, by assumption⟩
      obtain ⟨_, _, hT⟩ := hT
      go_wp2
      go_ret
      exact ⟨rfl, hT.1⟩
theorem walk (a0 : Int) (a1 : ByteArray) (a2 : Int) (w0 : (Lit.int .u64 a0).wf = true) (w1 : a1.size ≤ maxLen) (w2 : (Lit.int .i64 a2).wf = true) (w : World) :
    Calls Try.prog 3 #[.int .u64 a0, .string a1, .int .i64 a2] w fun e w' => e = .returned (.bool true) ∧ Below w.heap.size w w' := by
  unfold maxLen at w1
  have n0 := bounds_u64 w0
  obtain ⟨n, rfl⟩ := Int.eq_ofNat_of_zero_le n0.1
  exact core n a1 a2 w (by omega) w1

/-! ### THE ROW's STEP: WRITTEN OUT: LEAVE IT -/
set_option maxRecDepth 100000 in
theorem lifted (os : Os) (started : os.Started) (H : Type) (enc : TypeId × Value → H) :
    ReturnsInHanded {} Try.checked os 3 .any (Rows.vintAllSpec.pre6 enc Try.prog Try.f3 Rows.vintAllRow.domain false) (Rows.vintAllSpec.post enc Try.prog Try.f3 false true false false) := by
  refine returnsInHanded_of_change (C := Try.checked) own started (by kernel_rfl) Try.func3
    (ChangeSpec.witness6 (enc := enc) (C := Try.checked) false ⟨#[], #[.int .u64 0, .string ByteArray.empty, .int .i64 0], []⟩ 8 (by kernel_rfl) (by kernel_rfl) (by kernel_rfl) (by kernel_rfl)) ?_
  intro W base args ds gs before hval0 hW hcnd _
  have hval : ∀ (j : Nat) t v, Try.f3.params[j]? = some t → args[j]? = some v → Value.okWide Try.prog W .any base t v := hval0
  have hW' := hW
  obtain ⟨p, q, hA0, hV, rfl, hfz, hnd⟩ := hW
  have hA : DataW.TrodAll enc Try.prog W 0 (fun _ => true) true Try.f3.params.toList args.toList ds p := hA0
  rw [Try.params3] at hA hval
  obtain ⟨v0, vs0, d0, ds0, p0, q0, hargs, rfl, rfl, h0, r0⟩ := trodAll_cons hA
  obtain ⟨v1, vs1, d1, ds1, p1, q1, rfl, rfl, rfl, h1, r1⟩ := trodAll_cons r0
  obtain ⟨v2, vs2, d2, ds2, p2, q2, rfl, rfl, rfl, h2, r2⟩ := trodAll_cons r1
  obtain ⟨rfl, rfl, rfl⟩ := trodAll_nil r2
  obtain rfl : args = #[v0, v1, v2] := by cases args; simp_all
  obtain ⟨rfl, rfl⟩ := trodVars_none hV
  obtain ⟨a0, rfl, rfl, rfl, w0⟩ := open_int Try.underlying22 (hval 0 22 v0 rfl rfl) h0
  obtain ⟨a1, rfl, rfl, rfl, w1⟩ := open_string Try.underlying9 (hval 1 9 v1 rfl rfl) h1
  obtain ⟨a2, rfl, rfl, rfl, w2⟩ := open_int Try.underlying3 (hval 2 3 v2 rfl rfl) h2
  clear hA0 hval0
  refine (walk a0 a1 a2 w0 w1 w2 W).mono fun e W' ⟨he, bel⟩ => ?_
  subst he
  exact ⟨_, rfl, _, _, _, [], _, [], hW', (trodAll_cons_mk (shut_bool Try.underlying4 _) trodAll_mk0), (trodAll_cons_mk (shut_int Try.underlying22 w0) (trodAll_cons_mk (shut_string Try.underlying9 w1) (trodAll_cons_mk (shut_int Try.underlying3 w2) trodAll_mk0))), rfl, bel.frame _, fun h => by cases h⟩

theorem over : Rows.vintAllRow.holds Try.pinned (OpenSpec.ofChange Rows.vintAllSpec) :=
  OpenClaim.holds_of_wide 3 Try.f3 rfl rfl rfl rfl rfl rfl rfl ⟨rfl, rfl, rfl, rfl, rfl⟩ rfl rfl rfl rfl rfl (by kernel_rfl) Try.func3 (by kernel_rfl)
    (of_decide_eq_true (by kernel_rfl)) (by unfold Func.isWrapper; first | (rw [if_pos (by decide +kernel)]; kernel_rfl) | (rw [if_neg (by decide +kernel)]; exact ⟨rfl, rfl⟩))
    (fun os started H enc _ => lifted os started H enc)

/-- ████ THE STATEMENT ████ -/
theorem proved : Rows.VintAllSaid :=
  over
end Go.Proofs.Ytpngpilgbiddgaa.vintAll

namespace Go.Proofs.Ytpngpilgbiddgaa
theorem vintAll_holds : Rows.VintAllSaid := vintAll.proved
#print axioms vintAll_holds
end Go.Proofs.Ytpngpilgbiddgaa
