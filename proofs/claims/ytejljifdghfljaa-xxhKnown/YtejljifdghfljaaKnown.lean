/-
  Sums that all know, of four texts.
-/
import Derived.Test.YtejljifdghfljaaRows
import Derived.WalkKit
import Derived.ProofKit
import Derived.OpenShut
import Derived.Deep.RegionHeld3
import Derived.BigQuiet
import Derived.Deep.QuietTactic
import Derived.Test.YtejljifdghfljaaTwo
import Derived.ShutString
namespace Go.Proofs.Ytejljifdghfljaa.xxhKnown
open Go.ChangeShapes Go.WideShapes Go.ChangeAt Go.RowKit
open Go.ChangeMaps (open_string shut_string)
set_option linter.unusedVariables false      -- a walk need not use every 'w<i>' (that an integer argument fits its kind)

theorem own : ownKnob Try.prog.godebug = none := by kernel_rfl

set_option maxRecDepth 100000 in
set_option maxHeartbeats 1000000 in
theorem core (n : Nat) (hn : n < 256) (w : World) :
    Calls Try.prog 4 #[.int .u8 n] w fun e w' => e = .returned (.bool true) ∧ Below w.heap.size w w' := by
  have hc : n % 4 = 0 ∨ n % 4 = 1 ∨ n % 4 = 2 ∨ n % 4 = 3 := by omega
  have aw := fun W => awake_own (Below.refl W.heap.size W)
  rcases hc with h | h | h | h
  · have e1 : (n : Int) % 4 = 0 := by omega
    have c := fun W => sum_own (Below.refl W.heap.size W) 0 (by decide) ⟨#[]⟩
    rw [show (⟨#[]⟩ : ByteArray).data.toList = [] from rfl, known0] at c
    have hS := two_init w #[.string ⟨#[]⟩, .string ⟨#[97]⟩, .string ⟨#[97, 98, 99]⟩, .string ⟨#[67, 97, 108, 108, 32, 109, 101, 32, 73, 115, 104, 109, 97, 101, 108, 46, 32, 83, 111, 109, 101, 32, 121, 101, 97, 114, 115, 32, 97, 103, 111, 45, 45, 110, 101, 118, 101, 114, 32, 109, 105, 110, 100, 32, 104, 111, 119, 32, 108, 111, 110, 103, 32, 112, 114, 101, 99, 105, 115, 101, 108, 121, 45]⟩] #[.int .u64 17241709254077376921, .int .u64 15154266338359012955, .int .u64 4952883123889572249, .int .u64 189969583671016854] 9 22 0 0 (.string ⟨#[]⟩) (.int .u64 17241709254077376921) rfl rfl
    go_enter Try.func4, Try.ntmps4
    go_wp2
    generalize (w.alloc (.cells #[.string ⟨#[]⟩, .string ⟨#[97]⟩, .string ⟨#[97, 98, 99]⟩, .string ⟨#[67, 97, 108, 108, 32, 109, 101, 32, 73, 115, 104, 109, 97, 101, 108, 46, 32, 83, 111, 109, 101, 32, 121, 101, 97, 114, 115, 32, 97, 103, 111, 45, 45, 110, 101, 118, 101, 114, 32, 109, 105, 110, 100, 32, 104, 111, 119, 32, 108, 111, 110, 103, 32, 112, 114, 101, 99, 105, 115, 101, 108, 121, 45]⟩] 9)).alloc (.cells #[.int .u64 17241709254077376921, .int .u64 15154266338359012955, .int .u64 4952883123889572249, .int .u64 189969583671016854] 22) = W at *
    replace hS := two_drew hS
    clear h
    generalize (⟨#[]⟩ : ByteArray) = s at *
    go_region_held3 (fun W => (W.cell? ⟨w.heap.size, 0, none⟩ = some (.string s) ∧ W.cell? ⟨w.heap.size + 1, 0, none⟩ = some (.int .u64 17241709254077376921)) ∧ Tail w w.heap.size W) (first | exact hS | exact two_keep (by assumption) (by assumption) | assumption) (first | (go_at_call 9; refine (c _).mono ?_; rintro e w4 ⟨rfl, hb4⟩) | (go_at_call 8; refine (aw _).mono ?_; rintro e w4 ⟨rfl, hb4⟩))
    all_goals
      have hT : ∃ p : Prop, p ∧ Tail w w.heap.size w4 := ⟨_, by assumption⟩
      obtain ⟨_, _, hT⟩ := hT
      go_wp2
      go_ret
      exact ⟨rfl, hT.1⟩
  · have e1 : (n : Int) % 4 = 1 := by omega
    have c := fun W => sum_own (Below.refl W.heap.size W) 0 (by decide) ⟨#[97]⟩
    rw [show (⟨#[97]⟩ : ByteArray).data.toList = [97] from rfl, known1] at c
    have hS := two_init w #[.string ⟨#[]⟩, .string ⟨#[97]⟩, .string ⟨#[97, 98, 99]⟩, .string ⟨#[67, 97, 108, 108, 32, 109, 101, 32, 73, 115, 104, 109, 97, 101, 108, 46, 32, 83, 111, 109, 101, 32, 121, 101, 97, 114, 115, 32, 97, 103, 111, 45, 45, 110, 101, 118, 101, 114, 32, 109, 105, 110, 100, 32, 104, 111, 119, 32, 108, 111, 110, 103, 32, 112, 114, 101, 99, 105, 115, 101, 108, 121, 45]⟩] #[.int .u64 17241709254077376921, .int .u64 15154266338359012955, .int .u64 4952883123889572249, .int .u64 189969583671016854] 9 22 1 1 (.string ⟨#[97]⟩) (.int .u64 15154266338359012955) rfl rfl
    go_enter Try.func4, Try.ntmps4
    go_wp2
    generalize (w.alloc (.cells #[.string ⟨#[]⟩, .string ⟨#[97]⟩, .string ⟨#[97, 98, 99]⟩, .string ⟨#[67, 97, 108, 108, 32, 109, 101, 32, 73, 115, 104, 109, 97, 101, 108, 46, 32, 83, 111, 109, 101, 32, 121, 101, 97, 114, 115, 32, 97, 103, 111, 45, 45, 110, 101, 118, 101, 114, 32, 109, 105, 110, 100, 32, 104, 111, 119, 32, 108, 111, 110, 103, 32, 112, 114, 101, 99, 105, 115, 101, 108, 121, 45]⟩] 9)).alloc (.cells #[.int .u64 17241709254077376921, .int .u64 15154266338359012955, .int .u64 4952883123889572249, .int .u64 189969583671016854] 22) = W at *
    replace hS := two_drew hS
    clear h
    generalize (⟨#[97]⟩ : ByteArray) = s at *
    go_region_held3 (fun W => (W.cell? ⟨w.heap.size, 1, none⟩ = some (.string s) ∧ W.cell? ⟨w.heap.size + 1, 1, none⟩ = some (.int .u64 15154266338359012955)) ∧ Tail w w.heap.size W) (first | exact hS | exact two_keep (by assumption) (by assumption) | assumption) (first | (go_at_call 9; refine (c _).mono ?_; rintro e w4 ⟨rfl, hb4⟩) | (go_at_call 8; refine (aw _).mono ?_; rintro e w4 ⟨rfl, hb4⟩))
    all_goals
      have hT : ∃ p : Prop, p ∧ Tail w w.heap.size w4 := ⟨_, by assumption⟩
      obtain ⟨_, _, hT⟩ := hT
      go_wp2
      go_ret
      exact ⟨rfl, hT.1⟩
  · have e1 : (n : Int) % 4 = 2 := by omega
    have c := fun W => sum_own (Below.refl W.heap.size W) 0 (by decide) ⟨#[97, 98, 99]⟩
    rw [show (⟨#[97, 98, 99]⟩ : ByteArray).data.toList = [97, 98, 99] from rfl, known2] at c
    have hS := two_init w #[.string ⟨#[]⟩, .string ⟨#[97]⟩, .string ⟨#[97, 98, 99]⟩, .string ⟨#[67, 97, 108, 108, 32, 109, 101, 32, 73, 115, 104, 109, 97, 101, 108, 46, 32, 83, 111, 109, 101, 32, 121, 101, 97, 114, 115, 32, 97, 103, 111, 45, 45, 110, 101, 118, 101, 114, 32, 109, 105, 110, 100, 32, 104, 111, 119, 32, 108, 111, 110, 103, 32, 112, 114, 101, 99, 105, 115, 101, 108, 121, 45]⟩] #[.int .u64 17241709254077376921, .int .u64 15154266338359012955, .int .u64 4952883123889572249, .int .u64 189969583671016854] 9 22 2 2 (.string ⟨#[97, 98, 99]⟩) (.int .u64 4952883123889572249) rfl rfl
    go_enter Try.func4, Try.ntmps4
    go_wp2
    generalize (w.alloc (.cells #[.string ⟨#[]⟩, .string ⟨#[97]⟩, .string ⟨#[97, 98, 99]⟩, .string ⟨#[67, 97, 108, 108, 32, 109, 101, 32, 73, 115, 104, 109, 97, 101, 108, 46, 32, 83, 111, 109, 101, 32, 121, 101, 97, 114, 115, 32, 97, 103, 111, 45, 45, 110, 101, 118, 101, 114, 32, 109, 105, 110, 100, 32, 104, 111, 119, 32, 108, 111, 110, 103, 32, 112, 114, 101, 99, 105, 115, 101, 108, 121, 45]⟩] 9)).alloc (.cells #[.int .u64 17241709254077376921, .int .u64 15154266338359012955, .int .u64 4952883123889572249, .int .u64 189969583671016854] 22) = W at *
    replace hS := two_drew hS
    clear h
    generalize (⟨#[97, 98, 99]⟩ : ByteArray) = s at *
    go_region_held3 (fun W => (W.cell? ⟨w.heap.size, 2, none⟩ = some (.string s) ∧ W.cell? ⟨w.heap.size + 1, 2, none⟩ = some (.int .u64 4952883123889572249)) ∧ Tail w w.heap.size W) (first | exact hS | exact two_keep (by assumption) (by assumption) | assumption) (first | (go_at_call 9; refine (c _).mono ?_; rintro e w4 ⟨rfl, hb4⟩) | (go_at_call 8; refine (aw _).mono ?_; rintro e w4 ⟨rfl, hb4⟩))
    all_goals
      have hT : ∃ p : Prop, p ∧ Tail w w.heap.size w4 := ⟨_, by assumption⟩
      obtain ⟨_, _, hT⟩ := hT
      go_wp2
      go_ret
      exact ⟨rfl, hT.1⟩
  · have e1 : (n : Int) % 4 = 3 := by omega
    have c := fun W => sum_own (Below.refl W.heap.size W) 0 (by decide) ⟨#[67, 97, 108, 108, 32, 109, 101, 32, 73, 115, 104, 109, 97, 101, 108, 46, 32, 83, 111, 109, 101, 32, 121, 101, 97, 114, 115, 32, 97, 103, 111, 45, 45, 110, 101, 118, 101, 114, 32, 109, 105, 110, 100, 32, 104, 111, 119, 32, 108, 111, 110, 103, 32, 112, 114, 101, 99, 105, 115, 101, 108, 121, 45]⟩
    rw [show (⟨#[67, 97, 108, 108, 32, 109, 101, 32, 73, 115, 104, 109, 97, 101, 108, 46, 32, 83, 111, 109, 101, 32, 121, 101, 97, 114, 115, 32, 97, 103, 111, 45, 45, 110, 101, 118, 101, 114, 32, 109, 105, 110, 100, 32, 104, 111, 119, 32, 108, 111, 110, 103, 32, 112, 114, 101, 99, 105, 115, 101, 108, 121, 45]⟩ : ByteArray).data.toList = [67, 97, 108, 108, 32, 109, 101, 32, 73, 115, 104, 109, 97, 101, 108, 46, 32, 83, 111, 109, 101, 32, 121, 101, 97, 114, 115, 32, 97, 103, 111, 45, 45, 110, 101, 118, 101, 114, 32, 109, 105, 110, 100, 32, 104, 111, 119, 32, 108, 111, 110, 103, 32, 112, 114, 101, 99, 105, 115, 101, 108, 121, 45] from rfl, known3] at c
    have hS := two_init w #[.string ⟨#[]⟩, .string ⟨#[97]⟩, .string ⟨#[97, 98, 99]⟩, .string ⟨#[67, 97, 108, 108, 32, 109, 101, 32, 73, 115, 104, 109, 97, 101, 108, 46, 32, 83, 111, 109, 101, 32, 121, 101, 97, 114, 115, 32, 97, 103, 111, 45, 45, 110, 101, 118, 101, 114, 32, 109, 105, 110, 100, 32, 104, 111, 119, 32, 108, 111, 110, 103, 32, 112, 114, 101, 99, 105, 115, 101, 108, 121, 45]⟩] #[.int .u64 17241709254077376921, .int .u64 15154266338359012955, .int .u64 4952883123889572249, .int .u64 189969583671016854] 9 22 3 3 (.string ⟨#[67, 97, 108, 108, 32, 109, 101, 32, 73, 115, 104, 109, 97, 101, 108, 46, 32, 83, 111, 109, 101, 32, 121, 101, 97, 114, 115, 32, 97, 103, 111, 45, 45, 110, 101, 118, 101, 114, 32, 109, 105, 110, 100, 32, 104, 111, 119, 32, 108, 111, 110, 103, 32, 112, 114, 101, 99, 105, 115, 101, 108, 121, 45]⟩) (.int .u64 189969583671016854) rfl rfl
    go_enter Try.func4, Try.ntmps4
    go_wp2
    generalize (w.alloc (.cells #[.string ⟨#[]⟩, .string ⟨#[97]⟩, .string ⟨#[97, 98, 99]⟩, .string ⟨#[67, 97, 108, 108, 32, 109, 101, 32, 73, 115, 104, 109, 97, 101, 108, 46, 32, 83, 111, 109, 101, 32, 121, 101, 97, 114, 115, 32, 97, 103, 111, 45, 45, 110, 101, 118, 101, 114, 32, 109, 105, 110, 100, 32, 104, 111, 119, 32, 108, 111, 110, 103, 32, 112, 114, 101, 99, 105, 115, 101, 108, 121, 45]⟩] 9)).alloc (.cells #[.int .u64 17241709254077376921, .int .u64 15154266338359012955, .int .u64 4952883123889572249, .int .u64 189969583671016854] 22) = W at *
    replace hS := two_drew hS
    clear h
    generalize (⟨#[67, 97, 108, 108, 32, 109, 101, 32, 73, 115, 104, 109, 97, 101, 108, 46, 32, 83, 111, 109, 101, 32, 121, 101, 97, 114, 115, 32, 97, 103, 111, 45, 45, 110, 101, 118, 101, 114, 32, 109, 105, 110, 100, 32, 104, 111, 119, 32, 108, 111, 110, 103, 32, 112, 114, 101, 99, 105, 115, 101, 108, 121, 45]⟩ : ByteArray) = s at *
    go_region_held3 (fun W => (W.cell? ⟨w.heap.size, 3, none⟩ = some (.string s) ∧ W.cell? ⟨w.heap.size + 1, 3, none⟩ = some (.int .u64 189969583671016854)) ∧ Tail w w.heap.size W) (first | exact hS | exact two_keep (by assumption) (by assumption) | assumption) (first | (go_at_call 9; refine (c _).mono ?_; rintro e w4 ⟨rfl, hb4⟩) | (go_at_call 8; refine (aw _).mono ?_; rintro e w4 ⟨rfl, hb4⟩))
    all_goals
      have hT : ∃ p : Prop, p ∧ Tail w w.heap.size w4 := ⟨_, by assumption⟩
      obtain ⟨_, _, hT⟩ := hT
      go_wp2
      go_ret
      exact ⟨rfl, hT.1⟩

theorem walk (a0 : Int) (w0 : (Lit.int .u8 a0).wf = true) (w : World) :
    Calls Try.prog 4 #[.int .u8 a0] w fun e w' => e = .returned (.bool true) ∧ Below w.heap.size w w' := by
  have h0 := bounds_u8 w0
  obtain ⟨a, rfl⟩ := Int.eq_ofNat_of_zero_le h0.1
  exact core a (by omega) w

/-! ### THE ROW's STEP: WRITTEN OUT: LEAVE IT -/
set_option maxRecDepth 100000 in
theorem lifted (os : Os) (started : os.Started) (H : Type) (enc : TypeId × Value → H) :
    ReturnsInHanded {} Try.checked os 4 .any (Rows.xxhKnownSpec.pre6 enc Try.prog Try.f4 Rows.xxhKnownRow.domain false) (Rows.xxhKnownSpec.post enc Try.prog Try.f4 false true false false) := by
  refine returnsInHanded_of_change (C := Try.checked) own started (by kernel_rfl) Try.func4
    (ChangeSpec.witness6 (enc := enc) (C := Try.checked) false ⟨#[], #[.int .u8 0], []⟩ 8 (by kernel_rfl) (by kernel_rfl) (by kernel_rfl) (by kernel_rfl)) ?_
  intro W base args ds gs before hval0 hW hcnd _
  have hval : ∀ (j : Nat) t v, Try.f4.params[j]? = some t → args[j]? = some v → Value.okWide Try.prog W .any base t v := hval0
  have hW' := hW
  obtain ⟨p, q, hA0, hV, rfl, hfz, hnd⟩ := hW
  have hA : DataW.TrodAll enc Try.prog W 0 (fun _ => true) true Try.f4.params.toList args.toList ds p := hA0
  rw [Try.params4] at hA hval
  obtain ⟨v0, vs0, d0, ds0, p0, q0, hargs, rfl, rfl, h0, r0⟩ := trodAll_cons hA
  obtain ⟨rfl, rfl, rfl⟩ := trodAll_nil r0
  obtain rfl : args = #[v0] := by cases args; simp_all
  obtain ⟨rfl, rfl⟩ := trodVars_none hV
  obtain ⟨a0, rfl, rfl, rfl, w0⟩ := open_int Try.underlying5 (hval 0 5 v0 rfl rfl) h0
  clear hA0 hval0
  refine (walk a0 w0 W).mono fun e W' ⟨he, bel⟩ => ?_
  subst he
  exact ⟨_, rfl, _, _, _, [], _, [], hW', (trodAll_cons_mk (shut_bool Try.underlying4 _) trodAll_mk0), (trodAll_cons_mk (shut_int Try.underlying5 w0) trodAll_mk0), rfl, bel.frame _, fun h => by cases h⟩

theorem over : Rows.xxhKnownRow.holds Try.pinned (OpenSpec.ofChange Rows.xxhKnownSpec) :=
  OpenClaim.holds_of_wide 4 Try.f4 rfl rfl rfl rfl rfl rfl rfl ⟨rfl, rfl, rfl, rfl, rfl⟩ rfl rfl rfl rfl rfl (by kernel_rfl) Try.func4 (by kernel_rfl)
    (of_decide_eq_true (by kernel_rfl)) (by unfold Func.isWrapper; first | (rw [if_pos (by decide +kernel)]; kernel_rfl) | (rw [if_neg (by decide +kernel)]; exact ⟨rfl, rfl⟩))
    (fun os started H enc _ => lifted os started H enc)

/-- ████ THE STATEMENT ████ -/
theorem proved : Rows.XxhKnownSaid :=
  over
end Go.Proofs.Ytejljifdghfljaa.xxhKnown

namespace Go.Proofs.Ytejljifdghfljaa
theorem xxhKnown_holds : Rows.XxhKnownSaid := xxhKnown.proved
#print axioms xxhKnown_holds
end Go.Proofs.Ytejljifdghfljaa
