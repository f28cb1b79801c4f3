/-
  Sums of few bytes that all know, of three texts, and of their first byte; by another seed another sum.
-/
import Derived.Test.YtejljifdghfljaaRows
import Derived.WalkKit
import Derived.ProofKit
import Derived.OpenShut
import Derived.Deep.RegionHeld3
import Derived.BigQuiet
import Derived.Deep.QuietTactic
import Derived.Test.YtejljifdghfljaaTwo
import Derived.ShutString
namespace Go.Proofs.Ytejljifdghfljaa.xxhFew
open Go.ChangeShapes Go.WideShapes Go.ChangeAt Go.RowKit
open Go.ChangeMaps (open_string shut_string)
set_option linter.unusedVariables false      -- a walk need not use every 'w<i>' (that an integer argument fits its kind)

theorem own : ownKnob Try.prog.godebug = none := by kernel_rfl

theorem sum_at (a v : Nat) (ha : a < 18446744073709551616) (s : ByteArray) (A V : Int) (hv : sum a s.data.toList = v) (hA : (a : Int) = A) (hV : (v : Int) = V) (W : World) :
    Calls Try.prog 9 #[.int .u64 A, .string s] W fun e w' => e = .returned (.int .u64 V) ∧ Below W.heap.size W w' := by
  rw [← hA, ← hV, ← hv]
  exact sum_own (Below.refl W.heap.size W) a ha s
set_option maxRecDepth 100000 in
set_option maxHeartbeats 1000000 in
theorem core (n : Nat) (hn : n < 256) (w : World) :
    Calls Try.prog 7 #[.int .u8 n] w fun e w' => e = .returned (.bool true) ∧ Below w.heap.size w w' := by
  have hc : n % 3 = 0 ∨ n % 3 = 1 ∨ n % 3 = 2 := by omega
  have aw := fun W => awake_own (Below.refl W.heap.size W)
  have ca := sum_at 0 15154266338359012955 (by decide) ⟨#[97]⟩ 0 15154266338359012955 known1 rfl rfl
  rcases hc with h | h | h
  · have e1 : (n : Int) % 3 = 0 := by omega
    have c := sum_at 0 2031985117650215289 (by decide) ⟨#[97, 115]⟩ 0 2031985117650215289 few0 rfl rfl
    have c1 := sum_at 1 (sum 1 [97, 115]) (by decide) ⟨#[97, 115]⟩ 1 ((sum 1 [97, 115] : Nat) : Int) rfl rfl rfl
    have hne := few0n
    generalize sum 1 [97, 115] = z at *
    have ne1 : ((z : Int) != 2031985117650215289) = true := by simp; omega
    clear hne
    have hS := two_init w #[.string ⟨#[97, 115]⟩, .string ⟨#[97, 115, 100]⟩, .string ⟨#[97, 115, 100, 102]⟩] #[.int .u64 2031985117650215289, .int .u64 7141644468929262483, .int .u64 4708639809588864798] 9 22 0 0 (.string ⟨#[97, 115]⟩) (.int .u64 2031985117650215289) rfl rfl
    have hx : (⟨#[97, 115]⟩ : ByteArray).extract 0 1 = ⟨#[97]⟩ := by decide +kernel
    have hz : (⟨#[97, 115]⟩ : ByteArray).size = 2 := by rfl
    go_enter Try.func7, Try.ntmps7
    go_wp2
    generalize (w.alloc (.cells #[.string ⟨#[97, 115]⟩, .string ⟨#[97, 115, 100]⟩, .string ⟨#[97, 115, 100, 102]⟩] 9)).alloc (.cells #[.int .u64 2031985117650215289, .int .u64 7141644468929262483, .int .u64 4708639809588864798] 22) = W at *
    replace hS := two_drew hS
    clear h
    generalize (⟨#[97, 115]⟩ : ByteArray) = s at *
    go_region_held3 (fun W => (W.cell? ⟨w.heap.size, 0, none⟩ = some (.string s) ∧ W.cell? ⟨w.heap.size + 1, 0, none⟩ = some (.int .u64 2031985117650215289)) ∧ Tail w w.heap.size W) (first | exact hS | exact two_keep (by assumption) (by assumption) | assumption) (first | (go_at_call 9; with_reducible refine (c _).mono ?_; rintro e w4 ⟨rfl, hb4⟩) | (go_at_call 9; with_reducible refine (ca _).mono ?_; rintro e w4 ⟨rfl, hb4⟩) | (go_at_call 9; with_reducible refine (c1 _).mono ?_; rintro e w4 ⟨rfl, hb4⟩) | (go_at_call 8; refine (aw _).mono ?_; rintro e w4 ⟨rfl, hb4⟩))
    all_goals
      have hT : ∃ p : Prop, p ∧ Tail w w.heap.size w4 := ⟨_, by assumption⟩
      obtain ⟨_, _, hT⟩ := hT
      go_wp2
      go_ret
      exact ⟨rfl, hT.1⟩
  · have e1 : (n : Int) % 3 = 1 := by omega
    have c := sum_at 0 7141644468929262483 (by decide) ⟨#[97, 115, 100]⟩ 0 7141644468929262483 few1 rfl rfl
    have c1 := sum_at 1 (sum 1 [97, 115, 100]) (by decide) ⟨#[97, 115, 100]⟩ 1 ((sum 1 [97, 115, 100] : Nat) : Int) rfl rfl rfl
    have hne := few1n
    generalize sum 1 [97, 115, 100] = z at *
    have ne1 : ((z : Int) != 7141644468929262483) = true := by simp; omega
    clear hne
    have hS := two_init w #[.string ⟨#[97, 115]⟩, .string ⟨#[97, 115, 100]⟩, .string ⟨#[97, 115, 100, 102]⟩] #[.int .u64 2031985117650215289, .int .u64 7141644468929262483, .int .u64 4708639809588864798] 9 22 1 1 (.string ⟨#[97, 115, 100]⟩) (.int .u64 7141644468929262483) rfl rfl
    have hx : (⟨#[97, 115, 100]⟩ : ByteArray).extract 0 1 = ⟨#[97]⟩ := by decide +kernel
    have hz : (⟨#[97, 115, 100]⟩ : ByteArray).size = 3 := by rfl
    go_enter Try.func7, Try.ntmps7
    go_wp2
    generalize (w.alloc (.cells #[.string ⟨#[97, 115]⟩, .string ⟨#[97, 115, 100]⟩, .string ⟨#[97, 115, 100, 102]⟩] 9)).alloc (.cells #[.int .u64 2031985117650215289, .int .u64 7141644468929262483, .int .u64 4708639809588864798] 22) = W at *
    replace hS := two_drew hS
    clear h
    generalize (⟨#[97, 115, 100]⟩ : ByteArray) = s at *
    go_region_held3 (fun W => (W.cell? ⟨w.heap.size, 1, none⟩ = some (.string s) ∧ W.cell? ⟨w.heap.size + 1, 1, none⟩ = some (.int .u64 7141644468929262483)) ∧ Tail w w.heap.size W) (first | exact hS | exact two_keep (by assumption) (by assumption) | assumption) (first | (go_at_call 9; with_reducible refine (c _).mono ?_; rintro e w4 ⟨rfl, hb4⟩) | (go_at_call 9; with_reducible refine (ca _).mono ?_; rintro e w4 ⟨rfl, hb4⟩) | (go_at_call 9; with_reducible refine (c1 _).mono ?_; rintro e w4 ⟨rfl, hb4⟩) | (go_at_call 8; refine (aw _).mono ?_; rintro e w4 ⟨rfl, hb4⟩))
    all_goals
      have hT : ∃ p : Prop, p ∧ Tail w w.heap.size w4 := ⟨_, by assumption⟩
      obtain ⟨_, _, hT⟩ := hT
      go_wp2
      go_ret
      exact ⟨rfl, hT.1⟩
  · have e1 : (n : Int) % 3 = 2 := by omega
    have c := sum_at 0 4708639809588864798 (by decide) ⟨#[97, 115, 100, 102]⟩ 0 4708639809588864798 few2 rfl rfl
    have c1 := sum_at 1 (sum 1 [97, 115, 100, 102]) (by decide) ⟨#[97, 115, 100, 102]⟩ 1 ((sum 1 [97, 115, 100, 102] : Nat) : Int) rfl rfl rfl
    have hne := few2n
    generalize sum 1 [97, 115, 100, 102] = z at *
    have ne1 : ((z : Int) != 4708639809588864798) = true := by simp; omega
    clear hne
    have hS := two_init w #[.string ⟨#[97, 115]⟩, .string ⟨#[97, 115, 100]⟩, .string ⟨#[97, 115, 100, 102]⟩] #[.int .u64 2031985117650215289, .int .u64 7141644468929262483, .int .u64 4708639809588864798] 9 22 2 2 (.string ⟨#[97, 115, 100, 102]⟩) (.int .u64 4708639809588864798) rfl rfl
    have hx : (⟨#[97, 115, 100, 102]⟩ : ByteArray).extract 0 1 = ⟨#[97]⟩ := by decide +kernel
    have hz : (⟨#[97, 115, 100, 102]⟩ : ByteArray).size = 4 := by rfl
    go_enter Try.func7, Try.ntmps7
    go_wp2
    generalize (w.alloc (.cells #[.string ⟨#[97, 115]⟩, .string ⟨#[97, 115, 100]⟩, .string ⟨#[97, 115, 100, 102]⟩] 9)).alloc (.cells #[.int .u64 2031985117650215289, .int .u64 7141644468929262483, .int .u64 4708639809588864798] 22) = W at *
    replace hS := two_drew hS
    clear h
    generalize (⟨#[97, 115, 100, 102]⟩ : ByteArray) = s at *
    go_region_held3 (fun W => (W.cell? ⟨w.heap.size, 2, none⟩ = some (.string s) ∧ W.cell? ⟨w.heap.size + 1, 2, none⟩ = some (.int .u64 4708639809588864798)) ∧ Tail w w.heap.size W) (first | exact hS | exact two_keep (by assumption) (by assumption) | assumption) (first | (go_at_call 9; with_reducible refine (c _).mono ?_; rintro e w4 ⟨rfl, hb4⟩) | (go_at_call 9; with_reducible refine (ca _).mono ?_; rintro e w4 ⟨rfl, hb4⟩) | (go_at_call 9; with_reducible refine (c1 _).mono ?_; rintro e w4 ⟨rfl, hb4⟩) | (go_at_call 8; refine (aw _).mono ?_; rintro e w4 ⟨rfl, hb4⟩))
    all_goals
      have hT : ∃ p : Prop, p ∧ Tail w w.heap.size w4 := ⟨_, by assumption⟩
      obtain ⟨_, _, hT⟩ := hT
      go_wp2
      go_ret
      exact ⟨rfl, hT.1⟩

theorem walk (a0 : Int) (w0 : (Lit.int .u8 a0).wf = true) (w : World) :
    Calls Try.prog 7 #[.int .u8 a0] w fun e w' => e = .returned (.bool true) ∧ Below w.heap.size w w' := by
  have h0 := bounds_u8 w0
  obtain ⟨a, rfl⟩ := Int.eq_ofNat_of_zero_le h0.1
  exact core a (by omega) w

/-! ### THE ROW's STEP: WRITTEN OUT: LEAVE IT -/
set_option maxRecDepth 100000 in
theorem lifted (os : Os) (started : os.Started) (H : Type) (enc : TypeId × Value → H) :
    ReturnsInHanded {} Try.checked os 7 .any (Rows.xxhFewSpec.pre6 enc Try.prog Try.f7 Rows.xxhFewRow.domain false) (Rows.xxhFewSpec.post enc Try.prog Try.f7 false true false false) := by
  refine returnsInHanded_of_change (C := Try.checked) own started (by kernel_rfl) Try.func7
    (ChangeSpec.witness6 (enc := enc) (C := Try.checked) false ⟨#[], #[.int .u8 0], []⟩ 8 (by kernel_rfl) (by kernel_rfl) (by kernel_rfl) (by kernel_rfl)) ?_
  intro W base args ds gs before hval0 hW hcnd _
  have hval : ∀ (j : Nat) t v, Try.f7.params[j]? = some t → args[j]? = some v → Value.okWide Try.prog W .any base t v := hval0
  have hW' := hW
  obtain ⟨p, q, hA0, hV, rfl, hfz, hnd⟩ := hW
  have hA : DataW.TrodAll enc Try.prog W 0 (fun _ => true) true Try.f7.params.toList args.toList ds p := hA0
  rw [Try.params7] at hA hval
  obtain ⟨v0, vs0, d0, ds0, p0, q0, hargs, rfl, rfl, h0, r0⟩ := trodAll_cons hA
  obtain ⟨rfl, rfl, rfl⟩ := trodAll_nil r0
  obtain rfl : args = #[v0] := by cases args; simp_all
  obtain ⟨rfl, rfl⟩ := trodVars_none hV
  obtain ⟨a0, rfl, rfl, rfl, w0⟩ := open_int Try.underlying5 (hval 0 5 v0 rfl rfl) h0
  clear hA0 hval0
  refine (walk a0 w0 W).mono fun e W' ⟨he, bel⟩ => ?_
  subst he
  exact ⟨_, rfl, _, _, _, [], _, [], hW', (trodAll_cons_mk (shut_bool Try.underlying4 _) trodAll_mk0), (trodAll_cons_mk (shut_int Try.underlying5 w0) trodAll_mk0), rfl, bel.frame _, fun h => by cases h⟩

theorem over : Rows.xxhFewRow.holds Try.pinned (OpenSpec.ofChange Rows.xxhFewSpec) :=
  OpenClaim.holds_of_wide 7 Try.f7 rfl rfl rfl rfl rfl rfl rfl ⟨rfl, rfl, rfl, rfl, rfl⟩ rfl rfl rfl rfl rfl (by kernel_rfl) Try.func7 (by kernel_rfl)
    (of_decide_eq_true (by kernel_rfl)) (by unfold Func.isWrapper; first | (rw [if_pos (by decide +kernel)]; kernel_rfl) | (rw [if_neg (by decide +kernel)]; exact ⟨rfl, rfl⟩))
    (fun os started H enc _ => lifted os started H enc)

/-- ████ THE STATEMENT ████ -/
theorem proved : Rows.XxhFewSaid :=
  over
end Go.Proofs.Ytejljifdghfljaa.xxhFew

namespace Go.Proofs.Ytejljifdghfljaa
theorem xxhFew_holds : Rows.XxhFewSaid := xxhFew.proved
#print axioms xxhFew_holds
end Go.Proofs.Ytejljifdghfljaa
