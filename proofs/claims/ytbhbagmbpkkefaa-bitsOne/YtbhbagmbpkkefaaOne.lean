/-
  A number in one go is its bits one by one, whatever the number and the length; the methods of nil.
-/
import Derived.Test.YtbhbagmbpkkefaaRows
import Derived.WalkKit
import Derived.ProofKit
import Derived.OpenShut
import Derived.BigQuiet
import Derived.Deep.QuietTactic
import Derived.Test.YtbhbagmbpkkefaaOwn
import Derived.ShutString
namespace Go.Proofs.Ytbhbagmbpkkefaa.bitsOne
open Go.ChangeShapes Go.WideShapes Go.ChangeAt Go.RowKit
open Go.ChangeMaps (open_string shut_string)
set_option linter.unusedVariables false      -- a walk need not use every 'w<i>' (that an integer argument fits its kind)

theorem own : ownKnob Try.prog.godebug = none := by kernel_rfl

def OneRel (x k : Nat) (w : World) (A : Nat) (va : Value) (B : Nat) (iv : Value) (wr : World) : Prop :=
  ∃ (i : Nat) (vb : Value), i ≤ k ∧ iv = .int .i64 i ∧ Wr wr B vb i (x % 2 ^ i) ∧ Up w.heap.size B vb ∧ Below w.heap.size w wr ∧ Wr wr A va k (x % 2 ^ k) ∧ Apart A va B vb

theorem one_put {w wr : World} (x i B : Nat) (vb : Value) (h : Wr wr B vb i (x % 2 ^ i)) (hu : Up w.heap.size B vb) (hb : Below w.heap.size w wr) (hi : i ≤ 1000) (hx : x < 18446744073709551616) :
    Calls Try.prog 11 #[ptr B, .int .u64 ((x : Int) / 2 ^ i), .int .i64 1] wr fun e W' => e = .returned (.tuple #[]) ∧ ∃ v', Wr W' B v' (i + 1) (x % 2 ^ (i + 1)) ∧ Up w.heap.size B v' ∧ Below w.heap.size w W' ∧ Chg (foot B vb) wr W' ∧ Moved wr vb v' := by
  have hd : ((x : Int) / 2 ^ i) = ((x / 2 ^ i : Nat) : Int) := by simp
  rw [hd]
  exact put_own B vb i (x % 2 ^ i) (x / 2 ^ i) 1 h hu hb (by omega) (Nat.lt_of_le_of_lt (Nat.div_le_self _ _) hx) (by omega) (by omega) _ _ rfl (by rw [show cl 1 = 1 from rfl, Nat.pow_one]; exact (mod_succ x i).symm)

set_option maxRecDepth 100000 in
set_option maxHeartbeats 1000000 in
theorem core (x n k : Nat) (hx : x < 18446744073709551616) (hn : n < 256) (hk : k ≤ 64) (hnk : (n : Int) % 65 = (k : Int)) (w : World) :
    Calls Try.prog 6 #[.int .u64 x, .int .u8 n] w fun e w' => e = .returned (.bool true) ∧ Below w.heap.size w w' := by
  go_enter Try.func6, Try.ntmps6
  go_wp2_with fail
  refine (new_own (Below.refl _ w)).mono ?_
  rintro e w1 ⟨A, rfl, s1, a1, a2, a3, _⟩
  unfold ptr
  go_wp2_with fail
  refine (new_own a3).mono ?_
  rintro e w2 ⟨B, rfl, s2, b1, b2, b3, b4⟩
  have a4 := wr_kept a1 b4 (fun _ _ h => h)
  have ap := apart_new (wr_lt a1) s2
  clear s1 s2 a1 a3 b4
  unfold ptr
  go_wp2_with fail
  refine (put_own A _ 0 0 x k a4 a2 b3 (by omega) hx (by omega) (by omega) k (x % 2 ^ k) (by rw [cl_nat k hk, Nat.zero_add]) (by rw [cl_nat k hk]; simp)).mono ?_
  rintro e w3 ⟨rfl, va, c1, c2, c3, c4, c5⟩
  have b5 := wr_kept b1 c4 (apart_symm ap)
  have ap2 := apart_moved ap c5 (wr_lt b1)
  clear a4 a2 b3 b1 c4 c5 ap
  go_wp2_with fail
  go_loopw [8] (fun iv wr => OneRel x k w A va B iv wr) (fun iv _ => k - (intOf iv).toNat)
  case atStart => exact ⟨0, _, by omega, rfl, by simpa [Nat.mod_one] using b5, b2, c3, c1, ap2⟩
  case round =>
    clear b5 b2 c3 c1 ap2
    obtain ⟨i, vb, hi, rfl, d1, d2, d3, d4, d5⟩ := hrel
    by_cases hlt : i < k
    · go_wp2_with fail
      refine (one_put x i B vb d1 d2 d3 (by omega) hx).mono ?_
      rintro e w4 ⟨rfl, v4, e1, e2, e3, e4, e5⟩
      go_wp2
      go_roundw
      case rel => exact ⟨i + 1, v4, by omega, by go_num, e1, e2, e3, wr_kept d4 e4 d5, apart_symm (apart_moved (apart_symm d5) e5 (wr_lt d4))⟩
      case measure => simp [intOf]; omega
    · obtain rfl : i = k := by omega
      have B1 := bytes_any A va i _ wr d4
      have B2 := bytes_any B vb i _ wr d1
      have L1 := len_any A va i _ wr d4
      have hE : (bs []).toList = [] := by rw [ByteArray.toList_eq]; rfl
      generalize bs (byt (x % 2 ^ i) (byc i)) = S at *
      unfold ptr at B1 B2 L1
      go_wp2_with (first | (go_at_call 11; refine (nil_put 1 1 _).mono ?_; rintro e w1 ⟨rfl, rfl⟩) | (go_at_call 18; refine (nil_get 1 _).mono ?_; rintro e w1 ⟨rfl, rfl⟩))
      refine B1.mono ?_
      rintro e w1 ⟨rfl, rfl⟩
      go_wp2_with fail
      refine B2.mono ?_
      rintro e w1 ⟨rfl, rfl⟩
      go_wp2_with fail
      refine L1.mono ?_
      rintro e w1 ⟨rfl, rfl⟩
      go_wp2_with (first | (go_at_call 14; refine (nil_bytes _).mono ?_; rintro e w1 ⟨rfl, rfl⟩) | (go_at_call 13; refine (nil_len _).mono ?_; rintro e w1 ⟨rfl, rfl⟩) | (go_at_call 20; refine (err_any 6 _ (by omega)).mono ?_; rintro e w1 ⟨rfl, rfl⟩) | (go_at_call 21; refine (nil_rest _).mono ?_; rintro e w1 ⟨rfl, rfl⟩) | (go_at_call 10; refine (awake_own d3).mono ?_; rintro e w9 ⟨rfl, hb9⟩))
      go_ret
      exact ⟨rfl, by assumption⟩

theorem walk (a0 : Int) (a1 : Int) (w0 : (Lit.int .u64 a0).wf = true) (w1 : (Lit.int .u8 a1).wf = true) (w : World) :
    Calls Try.prog 6 #[.int .u64 a0, .int .u8 a1] w fun e w' => e = .returned (.bool true) ∧ Below w.heap.size w w' := by
  have n0 := bounds_u64 w0
  have n1 := bounds_u8 w1
  obtain ⟨n, rfl⟩ := Int.eq_ofNat_of_zero_le n0.1
  obtain ⟨m, rfl⟩ := Int.eq_ofNat_of_zero_le n1.1
  exact core n m (m % 65) (by omega) (by omega) (by omega) (by omega) w

/-! ### THE ROW's STEP: WRITTEN OUT: LEAVE IT -/
set_option maxRecDepth 100000 in
theorem lifted (os : Os) (started : os.Started) (H : Type) (enc : TypeId × Value → H) :
    ReturnsInHanded {} Try.checked os 6 .any (Rows.bitsOneSpec.pre6 enc Try.prog Try.f6 Rows.bitsOneRow.domain false) (Rows.bitsOneSpec.post enc Try.prog Try.f6 false true false false) := by
  refine returnsInHanded_of_change (C := Try.checked) own started (by kernel_rfl) Try.func6
    (ChangeSpec.witness6 (enc := enc) (C := Try.checked) false ⟨#[], #[.int .u64 0, .int .u8 0], []⟩ 8 (by kernel_rfl) (by kernel_rfl) (by kernel_rfl) (by kernel_rfl)) ?_
  intro W base args ds gs before hval0 hW hcnd _
  have hval : ∀ (j : Nat) t v, Try.f6.params[j]? = some t → args[j]? = some v → Value.okWide Try.prog W .any base t v := hval0
  have hW' := hW
  obtain ⟨p, q, hA0, hV, rfl, hfz, hnd⟩ := hW
  have hA : DataW.TrodAll enc Try.prog W 0 (fun _ => true) true Try.f6.params.toList args.toList ds p := hA0
  rw [Try.params6] at hA hval
  obtain ⟨v0, vs0, d0, ds0, p0, q0, hargs, rfl, rfl, h0, r0⟩ := trodAll_cons hA
  obtain ⟨v1, vs1, d1, ds1, p1, q1, rfl, rfl, rfl, h1, r1⟩ := trodAll_cons r0
  obtain ⟨rfl, rfl, rfl⟩ := trodAll_nil r1
  obtain rfl : args = #[v0, v1] := by cases args; simp_all
  obtain ⟨rfl, rfl⟩ := trodVars_none hV
  obtain ⟨a0, rfl, rfl, rfl, w0⟩ := open_int Try.underlying32 (hval 0 32 v0 rfl rfl) h0
  obtain ⟨a1, rfl, rfl, rfl, w1⟩ := open_int Try.underlying5 (hval 1 5 v1 rfl rfl) h1
  clear hA0 hval0
  refine (walk a0 a1 w0 w1 W).mono fun e W' ⟨he, bel⟩ => ?_
  subst he
  exact ⟨_, rfl, _, _, _, [], _, [], hW', (trodAll_cons_mk (shut_bool Try.underlying4 _) trodAll_mk0), (trodAll_cons_mk (shut_int Try.underlying32 w0) (trodAll_cons_mk (shut_int Try.underlying5 w1) trodAll_mk0)), rfl, bel.frame _, fun h => by cases h⟩

theorem over : Rows.bitsOneRow.holds Try.pinned (OpenSpec.ofChange Rows.bitsOneSpec) :=
  OpenClaim.holds_of_wide 6 Try.f6 rfl rfl rfl rfl rfl rfl rfl ⟨rfl, rfl, rfl, rfl, rfl⟩ rfl rfl rfl rfl rfl (by kernel_rfl) Try.func6 (by kernel_rfl)
    (of_decide_eq_true (by kernel_rfl)) (by unfold Func.isWrapper; first | (rw [if_pos (by decide +kernel)]; kernel_rfl) | (rw [if_neg (by decide +kernel)]; exact ⟨rfl, rfl⟩))
    (fun os started H enc _ => lifted os started H enc)

/-- ████ THE STATEMENT ████ -/
theorem proved : Rows.BitsOneSaid :=
  over
end Go.Proofs.Ytbhbagmbpkkefaa.bitsOne

namespace Go.Proofs.Ytbhbagmbpkkefaa
theorem bitsOne_holds : Rows.BitsOneSaid := bitsOne.proved
#print axioms bitsOne_holds
end Go.Proofs.Ytbhbagmbpkkefaa
