/-
  What asks for more than there is takes nothing, whatever the bytes and the numbers.
-/
import Derived.Test.YtbhbagmbpkkefaaRows
import Derived.WalkKit
import Derived.ProofKit
import Derived.OpenShut
import Derived.BigQuiet
import Derived.Deep.QuietTactic
import Derived.Test.YtbhbagmbpkkefaaOwn
import Derived.ShutString
namespace Go.Proofs.Ytbhbagmbpkkefaa.bitsMore
open Go.ChangeShapes Go.WideShapes Go.ChangeAt Go.RowKit
open Go.ChangeMaps (open_string shut_string)
set_option linter.unusedVariables false      -- a walk need not use every 'w<i>' (that an integer argument fits its kind)

theorem own : ownKnob Try.prog.godebug = none := by kernel_rfl

theorem err_z (e : Int) (w : World) (h1 : 0 ≤ e) (h2 : e ≤ 100) : Calls Try.prog 20 #[.int .i64 e] w fun x w' => x = .returned (.int .i64 e) ∧ w = w' := by
  go_enter Try.func20, Try.ntmps20
  go_wp2
  go_ret
  exact ⟨rfl, rfl⟩
theorem get_ok {w W : World} (A : Nat) (s : ByteArray) (a n : Nat) (h : Rd W A s a) (hu : w.heap.size ≤ A) (hb : Below w.heap.size w W) (hs : s.size ≤ 100000) (ha : a + n ≤ 8 * s.size) (hn : n ≤ 64) (y : Nat) (hy : got (le s.data.toList) a n = y) :
    Calls Try.prog 18 #[ptr A, .int .i64 n] W fun e W' => e = .returned (.tuple #[.int .u64 y, .int .i64 0]) ∧ Rd W' A s (a + n) ∧ Below w.heap.size w W' ∧ Chg (· = A) W W' := by
  subst hy
  refine (get_nat A s hs n a W h ha hn).mono ?_
  rintro e W' ⟨rfl, k1, k2⟩
  exact ⟨rfl, k1, below_one hb k2 hu, k2⟩

def MoreRel (s : ByteArray) (c k : Nat) (w : World) (A B : Nat) (iv : Value) (wr : World) : Prop :=
  ∃ (i : Nat), i ≤ k ∧ iv = .int .i64 i ∧ Rd wr A s (c + i) ∧ Rd wr B s (c + i) ∧ Below w.heap.size w wr

theorem big (s : ByteArray) (n m : Nat) (h : 40 < s.size) (w : World) :
    Calls Try.prog 7 #[.string s, .int .u8 n, .int .u8 m] w fun e w' => e = .returned (.bool true) ∧ Below w.heap.size w w' := by
  go_enter Try.func7, Try.ntmps7
  go_wp2_with (go_at_call 10; refine (awake_own (Below.refl _ w)).mono ?_; rintro e w9 ⟨rfl, hb9⟩)
  go_ret
  exact ⟨rfl, by assumption⟩

set_option maxRecDepth 100000 in
set_option maxHeartbeats 1000000 in
theorem core (s : ByteArray) (n m k lf m8 q t : Nat) (hs : s.size ≤ 40) (hn : n < 256) (hm : m < 256) (hk : k ≤ 8 * s.size) (hnk : (n : Int) % (8 * (s.size : Int) + 1) = (k : Int)) (hlf : 8 * (s.size : Int) - k = (lf : Int))
    (hm8 : (m : Int) % 8 = (m8 : Int)) (hq : (lf : Int) + 1 + m8 = (q : Int)) (ht : (if (64 : Int) < q then 64 else (q : Int)) = (t : Int)) (w : World) :
    Calls Try.prog 7 #[.string s, .int .u8 n, .int .u8 m] w fun e w' => e = .returned (.bool true) ∧ Below w.heap.size w w' := by
  have l1 : k + lf = 8 * s.size := by omega
  have l2 : m8 < 8 := by omega
  have HQ : Hid (q = lf + 1 + m8) := by show _ = _; omega
  have HT : Hid ((64 < q ∧ t = 64) ∨ (q ≤ 64 ∧ t = q)) := by show _ ∨ _; split at ht <;> omega
  go_enter Try.func7, Try.ntmps7
  go_wp2_with fail
  refine (from_own s (Below.refl _ w)).mono ?_
  rintro e w1 ⟨A, rfl, s1, a1, a2, a3, _⟩
  unfold ptr
  go_wp2_with fail
  refine (from_own s a3).mono ?_
  rintro e w2 ⟨B, rfl, s2, b1, b2, b3, b4⟩
  have a4 : Rd w2 A s 0 := blk_kept a1 b4 (fun h => h)
  have hAB : ¬ A = B := by have := blk_lt a1; omega
  have hBA : ¬ B = A := fun h => hAB h.symm
  clear s1 s2 a1 a3 b4
  unfold ptr
  go_wp2_with fail
  simp only [hnk]
  clear hnk
  go_loopw [10] (fun iv wr => MoreRel s 0 k w A B iv wr) (fun iv _ => k - (intOf iv).toNat)
  case atStart => exact ⟨0, by omega, rfl, a4, b1, b3⟩
  case round =>
    clear a4 b1 b3
    obtain ⟨i, hi, rfl, d1, d2, d3⟩ := hrel
    by_cases hlt : i < k
    · have hy : got (le s.data.toList) (0 + i) 1 ≤ 1 := by have := got_lt (le s.data.toList) (0 + i) 1; omega
      obtain ⟨y, hyy⟩ : ∃ y, got (le s.data.toList) (0 + i) 1 = y := ⟨_, rfl⟩
      rw [hyy] at hy
      go_wp2_with fail
      refine (get_ok A s (0 + i) 1 d1 a2 d3 (by omega) (by omega) (by omega) y hyy).mono ?_
      rintro e w4 ⟨rfl, e1, e2, e3⟩
      go_wp2_with fail
      refine (get_ok B s (0 + i) 1 (blk_kept d2 e3 hBA) b2 e2 (by omega) (by omega) (by omega) y hyy).mono ?_
      rintro e w5 ⟨rfl, f1, f2, f3⟩
      have hyz : ¬ 1 < (y : Int) := by omega
      clear hyy
      go_wp2_with (go_at_call 20; refine (err_any 0 _ (by omega)).mono ?_; rintro e w1 ⟨rfl, rfl⟩)
      go_roundw
      case rel => exact ⟨i + 1, by omega, by go_num, blk_kept e1 f3 hAB, f1, f2⟩
      case measure => simp [intOf]; omega
    · obtain rfl : i = k := by omega
      rw [Nat.zero_add] at d1 d2
      have H := HT.out
      have H2 := HQ.out
      by_cases h64 : 64 ≤ lf
      · obtain rfl : t = 64 := by omega
        clear H H2 HT HQ
        go_wp2_with fail
        refine (get_ok A s i 64 d1 a2 d3 (by omega) (by omega) (by omega) _ rfl).mono ?_
        rintro e w4 ⟨rfl, e1, e2, e3⟩
        generalize got (le s.data.toList) i 64 = y
        go_wp2_with fail
        refine (get_arg A 65 w4 (by omega)).mono ?_
        rintro e w1 ⟨rfl, rfl⟩
        go_wp2_with fail
        refine (get_arg A (-1) w4 (by omega)).mono ?_
        rintro e w1 ⟨rfl, rfl⟩
        go_wp2_with (first | (go_at_call 20; refine (err_z _ _ (by omega) (by omega)).mono ?_; rintro e w1 ⟨rfl, rfl⟩) | (go_at_call 10; refine (awake_own e2).mono ?_; rintro e w9 ⟨rfl, hb9⟩))
        go_ret
        exact ⟨rfl, by assumption⟩
      · have ht1 : lf < t := by omega
        have ht2 : t ≤ 64 := by omega
        clear H H2 HT HQ
        go_wp2_with fail
        refine (get_more A s i t wr d1 (by omega) (by omega) (by omega) (by omega)).mono ?_
        rintro e w1 ⟨rfl, rfl⟩
        have d4 := rd_drew d1
        have d5 := rd_drew d2
        have d6 := Below.drew d3
        clear d1 d2 d3
        generalize wr.drew = w3 at *
        go_wp2_with fail
        refine (get_arg A 65 w3 (by omega)).mono ?_
        rintro e w1 ⟨rfl, rfl⟩
        go_wp2_with fail
        refine (get_arg A (-1) w3 (by omega)).mono ?_
        rintro e w1 ⟨rfl, rfl⟩
        go_wp2_with (first | (go_at_call 20; refine (err_z _ _ (by omega) (by omega)).mono ?_; rintro e w1 ⟨rfl, rfl⟩))
        try simp only [hm8, hq, hlf, ht]
        clear hm8 hq hlf ht ht1 ht2 hlt hi
        go_loopw [23] (fun iv wr => MoreRel s i lf w A B iv wr) (fun iv _ => lf - (intOf iv).toNat)
        case atStart => exact ⟨0, by omega, rfl, d4, d5, d6⟩
        case round =>
          clear d4 d5 d6
          obtain ⟨j, hj, rfl, d1, d2, d3⟩ := hrel
          by_cases hlt : j < lf
          · obtain ⟨y, hyy⟩ : ∃ y, got (le s.data.toList) (i + j) 1 = y := ⟨_, rfl⟩
            go_wp2_with fail
            refine (get_ok A s (i + j) 1 d1 a2 d3 (by omega) (by omega) (by omega) y hyy).mono ?_
            rintro e w4 ⟨rfl, e1, e2, e3⟩
            go_wp2_with fail
            refine (get_ok B s (i + j) 1 (blk_kept d2 e3 hBA) b2 e2 (by omega) (by omega) (by omega) y hyy).mono ?_
            rintro e w5 ⟨rfl, f1, f2, f3⟩
            clear hyy
            go_wp2_with (go_at_call 20; refine (err_z _ _ (by omega) (by omega)).mono ?_; rintro e w1 ⟨rfl, rfl⟩)
            go_roundw
            case rel => exact ⟨j + 1, by omega, by go_num, blk_kept e1 f3 hAB, f1, f2⟩
            case measure => simp [intOf]; omega
          · obtain rfl : j = lf := by omega
            go_wp2_with fail
            refine (rest_own A s (i + j) d1 d3 (by omega) (by omega) true (by
              rw [rs, decide_eq_true (by omega), Bool.true_and, show 8 * s.size - (i + j) = 0 from by omega, got_zero]; rfl)).mono ?_
            rintro e w4 ⟨rfl, e1, e2, e3⟩
            go_wp2_with (go_at_call 10; refine (awake_own e2).mono ?_; rintro e w9 ⟨rfl, hb9⟩)
            go_ret
            exact ⟨rfl, by assumption⟩

theorem walk (a0 : ByteArray) (a1 : Int) (a2 : Int) (w0 : a0.size ≤ maxLen) (w1 : (Lit.int .u8 a1).wf = true) (w2 : (Lit.int .u8 a2).wf = true) (w : World) :
    Calls Try.prog 7 #[.string a0, .int .u8 a1, .int .u8 a2] w fun e w' => e = .returned (.bool true) ∧ Below w.heap.size w w' := by
  have n1 := bounds_u8 w1
  have n2 := bounds_u8 w2
  obtain ⟨n, rfl⟩ := Int.eq_ofNat_of_zero_le n1.1
  obtain ⟨m, rfl⟩ := Int.eq_ofNat_of_zero_le n2.1
  by_cases h : 40 < a0.size
  · exact big a0 n m h w
  · have hk : n % (8 * a0.size + 1) < 8 * a0.size + 1 := Nat.mod_lt _ (by omega)
    exact core a0 n m (n % (8 * a0.size + 1)) (8 * a0.size - n % (8 * a0.size + 1)) (m % 8) (8 * a0.size - n % (8 * a0.size + 1) + 1 + m % 8) (if 64 < 8 * a0.size - n % (8 * a0.size + 1) + 1 + m % 8 then 64 else 8 * a0.size - n % (8 * a0.size + 1) + 1 + m % 8)
      (by omega) (by omega) (by omega) (by omega) (by simp) (by omega) (by omega) (by omega) (by split <;> split <;> omega) w

/-! ### THE ROW's STEP: WRITTEN OUT: LEAVE IT -/
set_option maxRecDepth 100000 in
theorem lifted (os : Os) (started : os.Started) (H : Type) (enc : TypeId × Value → H) :
    ReturnsInHanded {} Try.checked os 7 .any (Rows.bitsMoreSpec.pre6 enc Try.prog Try.f7 Rows.bitsMoreRow.domain false) (Rows.bitsMoreSpec.post enc Try.prog Try.f7 false true false false) := by
  refine returnsInHanded_of_change (C := Try.checked) own started (by kernel_rfl) Try.func7
    (ChangeSpec.witness6 (enc := enc) (C := Try.checked) false ⟨#[], #[.string ByteArray.empty, .int .u8 0, .int .u8 0], []⟩ 8 (by kernel_rfl) (by kernel_rfl) (by kernel_rfl) (by kernel_rfl)) ?_
  intro W base args ds gs before hval0 hW hcnd _
  have hval : ∀ (j : Nat) t v, Try.f7.params[j]? = some t → args[j]? = some v → Value.okWide Try.prog W .any base t v := hval0
  have hW' := hW
  obtain ⟨p, q, hA0, hV, rfl, hfz, hnd⟩ := hW
  have hA : DataW.TrodAll enc Try.prog W 0 (fun _ => true) true Try.f7.params.toList args.toList ds p := hA0
  rw [Try.params7] at hA hval
  obtain ⟨v0, vs0, d0, ds0, p0, q0, hargs, rfl, rfl, h0, r0⟩ := trodAll_cons hA
  obtain ⟨v1, vs1, d1, ds1, p1, q1, rfl, rfl, rfl, h1, r1⟩ := trodAll_cons r0
  obtain ⟨v2, vs2, d2, ds2, p2, q2, rfl, rfl, rfl, h2, r2⟩ := trodAll_cons r1
  obtain ⟨rfl, rfl, rfl⟩ := trodAll_nil r2
  obtain rfl : args = #[v0, v1, v2] := by cases args; simp_all
  obtain ⟨rfl, rfl⟩ := trodVars_none hV
  obtain ⟨a0, rfl, rfl, rfl, w0⟩ := open_string Try.underlying9 (hval 0 9 v0 rfl rfl) h0
  obtain ⟨a1, rfl, rfl, rfl, w1⟩ := open_int Try.underlying5 (hval 1 5 v1 rfl rfl) h1
  obtain ⟨a2, rfl, rfl, rfl, w2⟩ := open_int Try.underlying5 (hval 2 5 v2 rfl rfl) h2
  clear hA0 hval0
  refine (walk a0 a1 a2 w0 w1 w2 W).mono fun e W' ⟨he, bel⟩ => ?_
  subst he
  exact ⟨_, rfl, _, _, _, [], _, [], hW', (trodAll_cons_mk (shut_bool Try.underlying4 _) trodAll_mk0), (trodAll_cons_mk (shut_string Try.underlying9 w0) (trodAll_cons_mk (shut_int Try.underlying5 w1) (trodAll_cons_mk (shut_int Try.underlying5 w2) trodAll_mk0))), rfl, bel.frame _, fun h => by cases h⟩

theorem over : Rows.bitsMoreRow.holds Try.pinned (OpenSpec.ofChange Rows.bitsMoreSpec) :=
  OpenClaim.holds_of_wide 7 Try.f7 rfl rfl rfl rfl rfl rfl rfl ⟨rfl, rfl, rfl, rfl, rfl⟩ rfl rfl rfl rfl rfl (by kernel_rfl) Try.func7 (by kernel_rfl)
    (of_decide_eq_true (by kernel_rfl)) (by unfold Func.isWrapper; first | (rw [if_pos (by decide +kernel)]; kernel_rfl) | (rw [if_neg (by decide +kernel)]; exact ⟨rfl, rfl⟩))
    (fun os started H enc _ => lifted os started H enc)

/-- ████ THE STATEMENT ████ -/
theorem proved : Rows.BitsMoreSaid :=
  over
end Go.Proofs.Ytbhbagmbpkkefaa.bitsMore

namespace Go.Proofs.Ytbhbagmbpkkefaa
theorem bitsMore_holds : Rows.BitsMoreSaid := bitsMore.proved
#print axioms bitsMore_holds
end Go.Proofs.Ytbhbagmbpkkefaa
