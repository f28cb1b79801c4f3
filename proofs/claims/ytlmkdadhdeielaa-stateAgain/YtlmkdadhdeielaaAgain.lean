/-
  Bytes one by one are as all at once; a sum asked for changes nothing: for every seed, text and number.
-/
import Derived.Test.YtlmkdadhdeielaaRows
import Derived.WalkKit
import Derived.ProofKit
import Derived.OpenShut
import Derived.ChangeOld
import Derived.Below
import Derived.BigQuiet
import Derived.Deep.QuietTactic
import Derived.Test.YtlmkdadhdeielaaOw
import Derived.ShutString
namespace Go.Proofs.Ytlmkdadhdeielaa.stateAgain
open Go.ChangeShapes Go.WideShapes Go.ChangeAt Go.RowKit
open Go.ChangeMaps (open_string shut_string)
set_option linter.unusedVariables false      -- a walk need not use every 'w<i>' (that an integer argument fits its kind)

theorem own : ownKnob Try.prog.godebug = none := by kernel_rfl

def ARel (s : ByteArray) (w : World) (A B seed : Nat) (iv : Value) (wr : World) : Prop :=
  ∃ i : Nat, i ≤ s.size ∧ iv = .int .i64 i ∧ I2 w A B seed seed s.data.toList (s.data.toList.take i) wr
theorem one_list (s : ByteArray) (i : Nat) (h : i < s.size) : (s.extract i (i + 1)).data.toList = [s[i]] := by
  rw [ByteArray.data_extract, Array.toList_extract]
  have h' : i < s.data.toList.length := by rw [len_data]; exact h
  show (s.data.toList.drop i).take (i + 1 - i) = _
  rw [List.drop_eq_getElem_cons h', show i + 1 - i = 1 from by omega]
  rfl
theorem i2_lenB {w V : World} {A B sa sb : Nat} {la lb : List UInt8} (h : I2 w A B sa sb la lb V) : Calls Try.prog 11 #[ptr B] V fun e V' => e = .returned (.int .i64 lb.length) ∧ V' = V := i1_len h.2.1

set_option maxRecDepth 100000 in
set_option maxHeartbeats 1000000 in
theorem core (seed : Nat) (s : ByteArray) (q : Nat) (hseed : seed < 18446744073709551616) (hq : q < 256) (hs : s.size ≤ maxLen) (w : World) :
    Calls Try.prog 5 #[.int .u64 seed, .string s, .int .u8 q] w fun e w' => e = .returned (.bool true) ∧ Below w.heap.size w w' := by
  unfold maxLen at hs
  by_cases hl : 300 < s.size
  · have aw := awake_own (Below.refl w.heap.size w)
    go_enter Try.func5, Try.ntmps5
    go_wp2_with (first | (go_at_call 7; with_reducible refine aw.mono ?_; rintro e w1 ⟨rfl, hb1⟩) | go_in)
    go_ret
    exact ⟨rfl, by assumption⟩
  · have N1 := i1_new (Below.refl w.heap.size w) seed hseed
    have N2 := fun (V : World) (h : Below w.heap.size w V) => i1_new h seed hseed
    have hsl := hidI (len_data s)
    unfold ptr at N1 N2
    go_enter Try.func5, Try.ntmps5
    go_wp2_with fail
    refine N1.mono ?_
    rintro e w1 ⟨rfl, h1, h2⟩
    have M2 := N2 w1 h1.2.2
    clear N1 N2 h2
    go_wp2_with fail
    refine M2.mono ?_
    rintro e w2 ⟨rfl, h3, h4⟩
    have hne : w.heap.size ≠ w1.heap.size := by have := st_lt h1.1; omega
    have J := i2_of (i1_below h1 h4) h3 hne
    clear M2 h1 h3 h4
    generalize w1.heap.size = B at *
    have WA := i2_writeA J s (by simp; omega) s.data.toList (by simp)
    clear J hne
    unfold ptr at WA
    go_wp2_with fail
    refine WA.mono ?_
    rintro e w3 ⟨rfl, J⟩
    clear WA
    have HJ := hidI J
    clear J
    go_wp2_with fail
    go_loopw [9] (fun iv wr => ARel s w w.heap.size B seed iv wr) (fun iv _ => s.size - (intOf iv).toNat)
    case atStart => exact ⟨0, Nat.zero_le _, rfl, HJ.out⟩
    case round =>
      clear HJ
      obtain ⟨i, hi, rfl, J⟩ := hrel
      by_cases hlt : i < s.size
      · have hll : (s.data.toList.take i).length = i := take_len s i (by omega)
        have C8 := fun (V : World) (h : I2 w w.heap.size B seed seed s.data.toList (s.data.toList.take i) V) => i2_writeB h (s.extract i (i + 1)) (by rw [hll, ← len_data, one_list s i hlt]; simp; omega) (s.data.toList.take (i + 1)) (by rw [one_list s i hlt, take_snoc s i hlt])
        have C8e := fun (V : World) (h : I2 w w.heap.size B seed seed s.data.toList (s.data.toList.take (i + 1)) V) => i2_writeB h ⟨#[]⟩ (by rw [take_len s (i + 1) (by omega)]; show i + 1 + 0 ≤ _; omega) (s.data.toList.take (i + 1)) (by simp)
        have C9 := i2_sumB J (by rw [hll]; omega)
        clear hll
        generalize s.data.toList.take i = l at *
        obtain ⟨l1, hl1⟩ : ∃ l1, s.data.toList.take (i + 1) = l1 := ⟨_, rfl⟩
        rw [hl1] at C8 C8e
        have HL := hidI hl1
        clear hl1
        generalize sum seed l = y at *
        unfold ptr at C8 C8e C9
        have SL : ∀ W, (Instr.slice 9 (.string s) (some (.int .i64 (i : Int))) (some (.int .i64 ((i : Int) + 1))) none).run Try.prog W = .ok (.string (s.extract i (i + 1))) W := by
          intro W
          have h := run_slice_string (P := Try.prog) W 9 s .i64 .i64 (i : Int) ((i : Int) + 1) Try.underlying9 (by omega) (by omega) (by omega)
          rw [Int.toNat_natCast, show ((i : Int) + 1).toNat = i + 1 from by omega] at h
          exact h
        by_cases hc : q % 2 = 0
        · have t1 : ((q : Int) % 2 == 0) = true := by simp; omega
          have C8' := fun (_ : Unit) => C8
          have C8e' := fun (_ : Unit) => C8e
          clear C8 C8e J
          go_wp2_with fail
          refine C9.mono ?_
          rintro e w4 ⟨rfl, J⟩
          have C8 := C8' ()
          have C8e := C8e' ()
          clear C9 C8' C8e'
          have D8 := C8 _ J
          clear C8 J
          go_wp2_with fail
          refine D8.mono ?_
          rintro e w5 ⟨rfl, J5⟩
          have D8e := C8e _ J5
          clear D8 C8e J5
          go_wp2_with fail
          refine D8e.mono ?_
          rintro e w6 ⟨rfl, J6⟩
          replace J6 := hidI J6
          clear D8e
          go_wp2
          go_roundw
          case rel => exact ⟨i + 1, by omega, by go_num, by rw [HL.out]; exact J6.out⟩
          case measure => simp [intOf]; omega
        · have t1 : ((q : Int) % 2 == 0) = false := by simp; omega
          by_cases hc2 : i % 7 = q % 7
          · have t2 : ((i : Int) % 7 == (q : Int) % 7) = true := by simp; omega
            have C8' := fun (_ : Unit) => C8
            have C8e' := fun (_ : Unit) => C8e
            clear C8 C8e J
            go_wp2_with fail
            refine C9.mono ?_
            rintro e w4 ⟨rfl, J⟩
            have C8 := C8' ()
            have C8e := C8e' ()
            clear C9 C8' C8e'
            have D8 := C8 _ J
            clear C8 J
            go_wp2_with fail
            refine D8.mono ?_
            rintro e w5 ⟨rfl, J5⟩
            have D8e := C8e _ J5
            clear D8 C8e J5
            go_wp2_with fail
            refine D8e.mono ?_
            rintro e w6 ⟨rfl, J6⟩
            replace J6 := hidI J6
            clear D8e
            go_wp2
            go_roundw
            case rel => exact ⟨i + 1, by omega, by go_num, by rw [HL.out]; exact J6.out⟩
            case measure => simp [intOf]; omega
          · have t2 : ((i : Int) % 7 == (q : Int) % 7) = false := by simp; omega
            clear C9
            have D8 := C8 _ J
            clear C8 J
            go_wp2_with fail
            refine D8.mono ?_
            rintro e w5 ⟨rfl, J5⟩
            have D8e := C8e _ J5
            clear D8 C8e J5
            go_wp2_with fail
            refine D8e.mono ?_
            rintro e w6 ⟨rfl, J6⟩
            replace J6 := hidI J6
            clear D8e
            go_wp2
            go_roundw
            case rel => exact ⟨i + 1, by omega, by go_num, by rw [HL.out]; exact J6.out⟩
            case measure => simp [intOf]; omega
      · have e : s.data.toList.take i = s.data.toList := List.take_of_length_le (by rw [len_data]; omega)
        rw [e] at J
        have hll := len_data s
        have A9 := fun (V : World) (h : I2 w w.heap.size B seed seed s.data.toList s.data.toList V) => i2_sumA h (by omega)
        have B9 := fun (V : World) (h : I2 w w.heap.size B seed seed s.data.toList s.data.toList V) => i2_sumB h (by omega)
        have L11 := fun (V : World) (h : I2 w w.heap.size B seed seed s.data.toList s.data.toList V) => i2_lenB h
        rw [hll] at L11
        generalize sum seed s.data.toList = y at *
        generalize s.data.toList = l at *
        unfold ptr at A9 B9 L11
        obtain rfl : i = s.size := by omega
        clear e hll hsl
        have D := A9 _ J
        have F := fun (_ : Unit) => And.intro A9 (And.intro B9 L11)
        clear A9 B9 L11 J
        go_wp2_with fail
        refine D.mono ?_
        rintro e w4 ⟨rfl, J⟩
        have D := (F ()).2.1 _ J
        clear J
        go_wp2_with fail
        refine D.mono ?_
        rintro e w5 ⟨rfl, J⟩
        have D := (F ()).1 _ J
        clear J
        go_wp2_with fail
        refine D.mono ?_
        rintro e w6 ⟨rfl, J⟩
        have D := (F ()).1 _ J
        clear J
        go_wp2_with fail
        refine D.mono ?_
        rintro e w7 ⟨rfl, J⟩
        have D := (F ()).2.2 _ J
        have aw := awake_own J.1.2.2
        clear J
        go_wp2_with fail
        refine D.mono ?_
        rintro e w8 ⟨rfl, h8⟩
        subst h8
        go_wp2_with fail
        refine aw.mono ?_
        rintro e w9 ⟨rfl, hb⟩
        replace hb := hidI hb
        go_wp2
        go_ret
        exact ⟨rfl, hb.out⟩

theorem walk (a0 : Int) (a1 : ByteArray) (a2 : Int) (w0 : (Lit.int .u64 a0).wf = true) (w1 : a1.size ≤ maxLen) (w2 : (Lit.int .u8 a2).wf = true) (w : World) :
    Calls Try.prog 5 #[.int .u64 a0, .string a1, .int .u8 a2] w fun e w' => e = .returned (.bool true) ∧ Below w.heap.size w w' := by
  have hx := bounds_u64 w0
  have hy := bounds_u8 w2
  obtain ⟨a, rfl⟩ := Int.eq_ofNat_of_zero_le hx.1
  obtain ⟨q, rfl⟩ := Int.eq_ofNat_of_zero_le hy.1
  exact core a a1 q (by omega) (by omega) w1 w

/-! ### THE ROW's STEP: WRITTEN OUT: LEAVE IT -/
set_option maxRecDepth 100000 in
theorem lifted (os : Os) (started : os.Started) (H : Type) (enc : TypeId × Value → H) :
    ReturnsInHanded {} Try.checked os 5 .any (Rows.stateAgainSpec.pre6 enc Try.prog Try.f5 Rows.stateAgainRow.domain false) (Rows.stateAgainSpec.post enc Try.prog Try.f5 false true false false) := by
  refine returnsInHanded_of_change (C := Try.checked) own started (by kernel_rfl) Try.func5
    (ChangeSpec.witness6 (enc := enc) (C := Try.checked) false ⟨#[], #[.int .u64 0, .string ByteArray.empty, .int .u8 0], []⟩ 8 (by kernel_rfl) (by kernel_rfl) (by kernel_rfl) (by kernel_rfl)) ?_
  intro W base args ds gs before hval0 hW hcnd _
  have hval : ∀ (j : Nat) t v, Try.f5.params[j]? = some t → args[j]? = some v → Value.okWide Try.prog W .any base t v := hval0
  have hW' := hW
  obtain ⟨p, q, hA0, hV, rfl, hfz, hnd⟩ := hW
  have hA : DataW.TrodAll enc Try.prog W 0 (fun _ => true) true Try.f5.params.toList args.toList ds p := hA0
  rw [Try.params5] at hA hval
  obtain ⟨v0, vs0, d0, ds0, p0, q0, hargs, rfl, rfl, h0, r0⟩ := trodAll_cons hA
  obtain ⟨v1, vs1, d1, ds1, p1, q1, rfl, rfl, rfl, h1, r1⟩ := trodAll_cons r0
  obtain ⟨v2, vs2, d2, ds2, p2, q2, rfl, rfl, rfl, h2, r2⟩ := trodAll_cons r1
  obtain ⟨rfl, rfl, rfl⟩ := trodAll_nil r2
  obtain rfl : args = #[v0, v1, v2] := by cases args; simp_all
  obtain ⟨rfl, rfl⟩ := trodVars_none hV
  obtain ⟨a0, rfl, rfl, rfl, w0⟩ := open_int Try.underlying22 (hval 0 22 v0 rfl rfl) h0
  obtain ⟨a1, rfl, rfl, rfl, w1⟩ := open_string Try.underlying9 (hval 1 9 v1 rfl rfl) h1
  obtain ⟨a2, rfl, rfl, rfl, w2⟩ := open_int Try.underlying5 (hval 2 5 v2 rfl rfl) h2
  clear hA0 hval0
  refine (walk a0 a1 a2 w0 w1 w2 W).mono fun e W' ⟨he, bel⟩ => ?_
  subst he
  exact ⟨_, rfl, _, _, _, [], _, [], hW', (trodAll_cons_mk (shut_bool Try.underlying4 _) trodAll_mk0), (trodAll_cons_mk (shut_int Try.underlying22 w0) (trodAll_cons_mk (shut_string Try.underlying9 w1) (trodAll_cons_mk (shut_int Try.underlying5 w2) trodAll_mk0))), rfl, bel.frame _, fun h => by cases h⟩

theorem over : Rows.stateAgainRow.holds Try.pinned (OpenSpec.ofChange Rows.stateAgainSpec) :=
  OpenClaim.holds_of_wide 5 Try.f5 rfl rfl rfl rfl rfl rfl rfl ⟨rfl, rfl, rfl, rfl, rfl⟩ rfl rfl rfl rfl rfl (by kernel_rfl) Try.func5 (by kernel_rfl)
    (of_decide_eq_true (by kernel_rfl)) (by unfold Func.isWrapper; first | (rw [if_pos (by decide +kernel)]; kernel_rfl) | (rw [if_neg (by decide +kernel)]; exact ⟨rfl, rfl⟩))
    (fun os started H enc _ => lifted os started H enc)

/-- ████ THE STATEMENT ████ -/
theorem proved : Rows.StateAgainSaid :=
  over
end Go.Proofs.Ytlmkdadhdeielaa.stateAgain

namespace Go.Proofs.Ytlmkdadhdeielaa
theorem stateAgain_holds : Rows.StateAgainSaid := stateAgain.proved
#print axioms stateAgain_holds
end Go.Proofs.Ytlmkdadhdeielaa
