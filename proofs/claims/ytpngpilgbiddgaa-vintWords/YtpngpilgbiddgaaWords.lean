/-
  VintWords returns true for every input, and what it was handed reads as before; no condition.
-/
import Derived.Test.YtpngpilgbiddgaaRows
import Derived.WalkKit
import Derived.ProofKit
import Derived.OpenShut
import Derived.Deep.QuietTactic
import Derived.BigQuiet
import Derived.Test.YtpngpilgbiddgaaGet
import Derived.ShutString
namespace Go.Proofs.Ytpngpilgbiddgaa.vintWords
open Go.ChangeShapes Go.WideShapes Go.ChangeAt Go.RowKit
open Go.ChangeMaps (open_string shut_string)
set_option linter.unusedVariables false      -- a walk need not use every 'w<i>' (that an integer argument fits its kind)

theorem own : ownKnob Try.prog.godebug = none := by kernel_rfl

theorem bt {w a b : World} (h : Below w.heap.size w a) (k : Below a.heap.size a b) : Below w.heap.size w b := h.trans (k.mono h.size)
theorem below_drewN {B : Nat} {a w : World} (h : Below B a w) (n : Nat) : Below B a (w.drewN n) := by
  induction n with
  | zero => exact h
  | succ n ih => exact ih.drew

theorem tl_ne (t s : ByteArray) (h : ¬ t = s) : (t.toList == s.toList) = false := by
  rw [ByteArray.toList_eq, ByteArray.toList_eq, beq_eq_false_iff_ne]
  exact fun e => h (Go.WideShapes.bytes_inj e)

def WsRel (w : World) (iv : Value) (wr : World) : Prop := ∃ k : Nat, k ≤ 8 ∧ iv = .int .i64 k ∧ Below w.heap.size w wr

theorem bs_get (n k : Nat) (hk : k < 8) (h : k < (bs (wd n)).size) : ((bs (wd n))[k].toNat : Int) = (n : Int) / 2 ^ (8 * k) % 256 := by
  rw [shr_byte]
  have h1 := wdF_get 8 n k hk
  have h2 : (bs (wd n))[k] = (wdF 8 n)[k]'(by rw [wdF_len]; exact hk) := rfl
  rw [h2]
  rw [List.getElem?_eq_getElem (by rw [wdF_len]; exact hk)] at h1
  rw [Option.some.inj h1]

set_option maxRecDepth 100000 in
set_option maxHeartbeats 2000000 in
theorem core (n m : Nat) (w : World) (hn : n < 18446744073709551616) (hm : m < 18446744073709551616) :
    Calls Try.prog 8 #[.int .u64 n, .int .u64 m] w fun e w' => e = .returned (.bool true) ∧ Below w.heap.size w w' := by
  have hsz : (bs (wd n)).size = 8 := by rw [size_bs, wd_len]
  have hcn := fun w => word_any n hn w
  have hcm := fun w => word_any m hm w
  have N1 : (n : Int) ≤ 18446744073709551615 := by omega
  have hget := bs_get n
  have E : Hid ((bs (wd m) = bs (wd n)) ↔ m = n) := by show _ ↔ _; rw [bs_inj]; exact wd_inj m n hm hn
  clear hn hm
  generalize bs (wd n) = s at *
  go_enter Try.func8, Try.ntmps8
  go_wp2_with (first | (go_at_call 16; refine (hcn _).mono ?_; rintro e w' ⟨rfl, hb⟩) | go_in)
  go_loopw [6] (fun iv wr => WsRel w iv wr) (fun iv _ => 8 - (intOf iv).toNat)
  case atStart => exact ⟨0, by omega, rfl, by assumption⟩
  case round =>
    obtain ⟨k, hk, rfl, hb0⟩ := hrel
    by_cases hlt : k < 8
    · have l2 : k < s.size := by omega
      have g := hget k hlt l2
      go_wp2
      go_quiet (fail)
      go_wp2
      go_roundw
      case rel => exact ⟨k + 1, by omega, by go_num, below_drewN hb0 _⟩
      case measure => simp [intOf]; omega
    · clear hget
      by_cases e : m = n
      · have es := E.out.2 e
        clear E
        subst e
        rw [es] at hcm
        clear es
        go_wp2_with (first | (go_at_call 16; refine (hcm _).mono ?_; rintro e w' ⟨rfl, hb⟩) | (go_at_call 9; refine (awake_any _).mono ?_; rintro e w' ⟨rfl, hb⟩) | go_in)
        go_ret
        exact ⟨rfl, by repeat (first | assumption | refine bt ?_ (by assumption))⟩
      · have es : ¬ bs (wd m) = s := fun h => e (E.out.1 h)
        clear E
        generalize bs (wd m) = t at *
        have ei : ¬ (m : Int) = n := by omega
        have e1 := tl_ne t s es
        have e2 : ((m : Int) == n) = false := by simpa using ei
        go_wp2_with (first | (go_at_call 16; refine (hcm _).mono ?_; rintro e w' ⟨rfl, hb⟩) | (go_at_call 9; refine (awake_any _).mono ?_; rintro e w' ⟨rfl, hb⟩) | go_in)
        go_ret
        exact ⟨rfl, by repeat (first | assumption | refine bt ?_ (by assumption))⟩
theorem walk (a0 : Int) (a1 : Int) (w0 : (Lit.int .u64 a0).wf = true) (w1 : (Lit.int .u64 a1).wf = true) (w : World) :
    Calls Try.prog 8 #[.int .u64 a0, .int .u64 a1] w fun e w' => e = .returned (.bool true) ∧ Below w.heap.size w w' := by
  have n0 := bounds_u64 w0
  have n1 := bounds_u64 w1
  obtain ⟨n, rfl⟩ := Int.eq_ofNat_of_zero_le n0.1
  obtain ⟨m, rfl⟩ := Int.eq_ofNat_of_zero_le n1.1
  exact core n m w (by omega) (by omega)

/-! ### THE ROW's STEP: WRITTEN OUT: LEAVE IT -/
set_option maxRecDepth 100000 in
theorem lifted (os : Os) (started : os.Started) (H : Type) (enc : TypeId × Value → H) :
    ReturnsInHanded {} Try.checked os 8 .any (Rows.vintWordsSpec.pre6 enc Try.prog Try.f8 Rows.vintWordsRow.domain false) (Rows.vintWordsSpec.post enc Try.prog Try.f8 false true false false) := by
  refine returnsInHanded_of_change (C := Try.checked) own started (by kernel_rfl) Try.func8
    (ChangeSpec.witness6 (enc := enc) (C := Try.checked) false ⟨#[], #[.int .u64 0, .int .u64 0], []⟩ 8 (by kernel_rfl) (by kernel_rfl) (by kernel_rfl) (by kernel_rfl)) ?_
  intro W base args ds gs before hval0 hW hcnd _
  have hval : ∀ (j : Nat) t v, Try.f8.params[j]? = some t → args[j]? = some v → Value.okWide Try.prog W .any base t v := hval0
  have hW' := hW
  obtain ⟨p, q, hA0, hV, rfl, hfz, hnd⟩ := hW
  have hA : DataW.TrodAll enc Try.prog W 0 (fun _ => true) true Try.f8.params.toList args.toList ds p := hA0
  rw [Try.params8] at hA hval
  obtain ⟨v0, vs0, d0, ds0, p0, q0, hargs, rfl, rfl, h0, r0⟩ := trodAll_cons hA
  obtain ⟨v1, vs1, d1, ds1, p1, q1, rfl, rfl, rfl, h1, r1⟩ := trodAll_cons r0
  obtain ⟨rfl, rfl, rfl⟩ := trodAll_nil r1
  obtain rfl : args = #[v0, v1] := by cases args; simp_all
  obtain ⟨rfl, rfl⟩ := trodVars_none hV
  obtain ⟨a0, rfl, rfl, rfl, w0⟩ := open_int Try.underlying22 (hval 0 22 v0 rfl rfl) h0
  obtain ⟨a1, rfl, rfl, rfl, w1⟩ := open_int Try.underlying22 (hval 1 22 v1 rfl rfl) h1
  clear hA0 hval0
  refine (walk a0 a1 w0 w1 W).mono fun e W' ⟨he, bel⟩ => ?_
  subst he
  exact ⟨_, rfl, _, _, _, [], _, [], hW', (trodAll_cons_mk (shut_bool Try.underlying4 _) trodAll_mk0), (trodAll_cons_mk (shut_int Try.underlying22 w0) (trodAll_cons_mk (shut_int Try.underlying22 w1) trodAll_mk0)), rfl, bel.frame _, fun h => by cases h⟩

theorem over : Rows.vintWordsRow.holds Try.pinned (OpenSpec.ofChange Rows.vintWordsSpec) :=
  OpenClaim.holds_of_wide 8 Try.f8 rfl rfl rfl rfl rfl rfl rfl ⟨rfl, rfl, rfl, rfl, rfl⟩ rfl rfl rfl rfl rfl (by kernel_rfl) Try.func8 (by kernel_rfl)
    (of_decide_eq_true (by kernel_rfl)) (by unfold Func.isWrapper; first | (rw [if_pos (by decide +kernel)]; kernel_rfl) | (rw [if_neg (by decide +kernel)]; exact ⟨rfl, rfl⟩))
    (fun os started H enc _ => lifted os started H enc)

/-- ████ THE STATEMENT ████ -/
theorem proved : Rows.VintWordsSaid :=
  over
end Go.Proofs.Ytpngpilgbiddgaa.vintWords

namespace Go.Proofs.Ytpngpilgbiddgaa
theorem vintWords_holds : Rows.VintWordsSaid := vintWords.proved
#print axioms vintWords_holds
end Go.Proofs.Ytpngpilgbiddgaa
