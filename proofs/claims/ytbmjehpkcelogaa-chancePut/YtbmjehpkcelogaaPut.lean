/-
  Proved: ChancePut returns true for every input, and leaves what was there as it was; no condition.
-/
import Derived.Test.YtbmjehpkcelogaaRows
import Derived.WalkKit
import Derived.ProofKit
import Derived.OpenShut
import Derived.ShutString
import Derived.ChangeOld
import Derived.Below
import Derived.Test.YtbmjehpkcelogaaSp
import Derived.Deep.RegionWith
import Derived.Deep.QuietTactic
import Derived.Deep.RegionHeld3
import Derived.OwnWalk
import Derived.BigQuiet
namespace Go.Proofs.Ytbmjehpkcelogaa.chancePut
open Go.ChangeShapes Go.WideShapes Go.ChangeAt Go.RowKit
open Go.ChangeMaps (open_string shut_string)
set_option linter.unusedVariables false

theorem own : ownKnob Try.prog.godebug = none := by kernel_rfl
theorem laidOut : laidOutB Try.prog = true := by kernel_rfl

def PuRel (w : World) (A B : Nat) (l : List (Int × Int × Int × Nat)) (n : Nat) (iv : Value) (wr : World) : Prop :=
  ∃ (i : Nat) (va vb : Value), i ≤ n ∧ iv = .int .i64 i ∧ EO w wr A va (stA l i) ∧ CO w wr B vb (stA l i) ∧ Apart A va B vb ∧ Below w.heap.size w wr
set_option maxRecDepth 100000 in
set_option maxHeartbeats 4000000 in
theorem put_walk (a : Option Addr) (len cap : Nat) (l : List (Int × Int × Int × Nat)) (w : World) (hl : IsAsks w a len cap l) :
    Calls Try.prog 3 #[.slice a len cap] w fun e w' => e = .returned (.bool true) ∧ Below w.heap.size w w' := by
  have hm := hl.2.1
  simp only [maxLen] at hm
  have HL := Hid.intro hl
  clear hl
  go_enter Try.func3, Try.ntmps3
  go_wp2_with fail
  refine (new_own (Below.refl _ w)).mono ?_
  rintro e x1 ⟨A, rfl, A0, d1, b1, _⟩
  unfold ptr
  by_cases hg : 120 < len
  · have hgi : (120 : Int) < (len : Int) := by omega
    go_wp2_with fail
    refine (awake_own b1).mono ?_
    rintro e x2 ⟨rfl, b2⟩
    go_wp2
    go_ret
    exact ⟨rfl, b2⟩
  · have hgi : ¬ (120 : Int) < (len : Int) := by omega
    go_wp2_with fail
    refine (cnew_own b1).mono ?_
    rintro e x2 ⟨B, vb, rfl, B0, c1, b2, c2⟩
    have d2 := eo_kept d1 c2 (fun _ _ h => h)
    have AB : Apart A (.slice none 0 0) B vb := by
      intro j hj hj2
      have h1 := eo_lt d1 j hj
      have h2 := up_foot B0 j hj2
      omega
    clear d1 b1 c2 A0 B0
    unfold ptr
    go_wp2_with fail
    go_loopw [5] (fun iv wr => PuRel w A B l len iv wr) (fun iv _ => (len - intOf iv).toNat)
    case atStart => exact ⟨0, _, vb, Nat.zero_le _, rfl, d2, c1, AB, b2⟩
    case round =>
      clear d2 c1 AB b2
      obtain ⟨i, va, vb, hi, rfl, d1, c1, AB, b1⟩ := hrel
      by_cases hil : i < len
      · have hd : decide ((i : Int) < (len : Int)) = true := decide_eq_true (by omega)
        obtain ⟨x, p, b, n, v, rfl, hq, q4, hcells⟩ := asks_cells HL.out i hil
        obtain ⟨q0, q1, q2, q3⟩ := hcells wr b1
        have hS := stA_succ l i _ hq
        have hup := stA_up l i
        have HC := Hid.intro hcells
        clear hcells
        by_cases hn : n ≠ 0
        · have hnb : (n != 0) = true := by simpa using hn
          have hs' : dirN v (cl n) (stA l i) = stA l (i + 1) := by rw [hS, stp, if_pos hn]
          have P1 := direct_own (W := wr.drew) A va (stA l i) v n (show EO w wr.drew A va _ from d1) (Below.drew b1) (by omega) q4 (stA l (i + 1)) hs'
          have P2 := Hid.intro (fun (W : World) (vb : Value) (h : CO w W B vb (stA l i)) (hb : Below w.heap.size w W) => rdir_own B vb (stA l i) v n h hb (by omega) q4 (stA l (i + 1)) hs')
          have D1 := Hid.intro (And.intro d1 c1)
          unfold ptr at P1
          clear d1 c1 hS hs'
          go_wp2_with fail
          go_region_with (go_at_call 12; refine P1.mono ?_; intro e w4 hp; obtain ⟨he, hp'⟩ := hp; subst he; have HP := Hid.intro hp'; clear hp')
          all_goals
            obtain ⟨va', e1, e2, e3, e4⟩ := HP.out
            clear HP P1 q0 q1 q2 q3
            have c4 : CO w w4.drew B vb (stA l i) := cow_kept (show CO w wr.drew B vb _ from D1.out.2) e3 (fun k h g => AB k g h)
            have AB4 := apart_moved AB e4 (cow_lt D1.out.2)
            have P3 := P2.out w4.drew vb c4 (Below.drew e2)
            obtain ⟨q0, q1, q2, q3⟩ := HC.out w4 e2
            unfold ptr at P3
            have E1 := Hid.intro e1
            clear e1 c4 AB b1
            go_wp2_with fail
            go_region_with (go_at_call 13; refine P3.mono ?_; intro e w5 hp; obtain ⟨he, hp'⟩ := hp; subst he; have HP := Hid.intro hp'; clear hp')
            all_goals
              obtain ⟨vb', f1, f2, f3, f4⟩ := HP.out
              clear HP P3 q0 q1 q2 q3
              have g1 : EO w w5 A va' (stA l (i + 1)) := eo_kept (show EO w w4.drew A va' _ from E1.out) f3 (fun k h g => AB4 k h g)
              have AB5 := apart_symm (apart_moved (apart_symm AB4) f4 (eo_lt E1.out))
              have B1 := bytes_own A va' (stA l (i + 1)) g1 f2 (by have := stA_up l (i + 1); omega)
              have B2 := fun (W : World) (h : Cs W B vb' (stA l (i + 1))) => rbytes_any B vb' (stA l (i + 1)) W h
              have G1 := Hid.intro (And.intro g1 f1)
              generalize bs (byt (stA l (i + 1))) = S at *
              unfold ptr at B1 B2
              clear g1 f1 f3 f4 AB4 E1
              go_wp2_with fail
              refine B1.mono ?_
              rintro e w6 ⟨rfl, b6, k6⟩
              have g6 := eo_kept G1.out.1 k6 (fun _ _ h => h)
              have c6 := cow_kept G1.out.2 k6 (fun _ _ h => h)
              have B3 := B2 w6 c6.1
              have C6 := Hid.intro (And.intro g6 c6)
              clear B1 B2 g6 c6 G1 k6
              go_wp2_with (first | (go_at_call 17; refine B3.mono ?_; rintro e w7 ⟨rfl, rfl⟩))
              go_roundw
              case rel => exact ⟨i + 1, va', vb', by omega, by go_num, C6.out.1, C6.out.2, AB5, b6⟩
              case measure => simp [intOf]; omega
        · have hn0 : n = 0 := by omega
          subst hn0
          have hs' : bitS p (decide (b ≠ 0)) (stA l i) = stA l (i + 1) := by rw [hS, stp, if_neg (by simp)]
          have P1 := bit_own (W := wr.drew) A va (stA l i) p b (show EO w wr.drew A va _ from d1) (Below.drew b1) (by omega) (stA l (i + 1)) hs'
          have P2 := Hid.intro (fun (W : World) (vb : Value) (h : CO w W B vb (stA l i)) (hb : Below w.heap.size w W) => rbit_own B vb (stA l i) p b h hb (by omega) (stA l (i + 1)) hs')
          have D1 := Hid.intro (And.intro d1 c1)
          unfold ptr at P1
          clear d1 c1 hS hs'
          go_wp2_with fail
          go_region_with (go_at_call 14; refine P1.mono ?_; intro e w4 hp; obtain ⟨he, hp'⟩ := hp; subst he; have HP := Hid.intro hp'; clear hp')
          all_goals
            obtain ⟨va', e1, e2, e3, e4⟩ := HP.out
            clear HP P1 q0 q1 q2 q3
            have c4 : CO w w4.drew B vb (stA l i) := cow_kept (show CO w wr.drew B vb _ from D1.out.2) e3 (fun k h g => AB k g h)
            have AB4 := apart_moved AB e4 (cow_lt D1.out.2)
            have P3 := P2.out w4.drew vb c4 (Below.drew e2)
            obtain ⟨q0, q1, q2, q3⟩ := HC.out w4 e2
            unfold ptr at P3
            have E1 := Hid.intro e1
            clear e1 c4 AB b1
            go_wp2_with fail
            go_region_with (go_at_call 15; refine P3.mono ?_; intro e w5 hp; obtain ⟨he, hp'⟩ := hp; subst he; have HP := Hid.intro hp'; clear hp')
            all_goals
              obtain ⟨vb', f1, f2, f3, f4⟩ := HP.out
              clear HP P3 q0 q1 q2 q3
              have g1 : EO w w5 A va' (stA l (i + 1)) := eo_kept (show EO w w4.drew A va' _ from E1.out) f3 (fun k h g => AB4 k h g)
              have AB5 := apart_symm (apart_moved (apart_symm AB4) f4 (eo_lt E1.out))
              have B1 := bytes_own A va' (stA l (i + 1)) g1 f2 (by have := stA_up l (i + 1); omega)
              have B2 := fun (W : World) (h : Cs W B vb' (stA l (i + 1))) => rbytes_any B vb' (stA l (i + 1)) W h
              have G1 := Hid.intro (And.intro g1 f1)
              generalize bs (byt (stA l (i + 1))) = S at *
              unfold ptr at B1 B2
              clear g1 f1 f3 f4 AB4 E1
              go_wp2_with fail
              refine B1.mono ?_
              rintro e w6 ⟨rfl, b6, k6⟩
              have g6 := eo_kept G1.out.1 k6 (fun _ _ h => h)
              have c6 := cow_kept G1.out.2 k6 (fun _ _ h => h)
              have B3 := B2 w6 c6.1
              have C6 := Hid.intro (And.intro g6 c6)
              clear B1 B2 g6 c6 G1 k6
              go_wp2_with (first | (go_at_call 17; refine B3.mono ?_; rintro e w7 ⟨rfl, rfl⟩))
              go_roundw
              case rel => exact ⟨i + 1, va', vb', by omega, by go_num, C6.out.1, C6.out.2, AB5, b6⟩
              case measure => simp [intOf]; omega
      · obtain rfl : i = len := by omega
        have hd : decide ((i : Int) < (i : Int)) = false := decide_eq_false (by omega)
        go_wp2_with fail
        refine (awake_own b1).mono ?_
        rintro e x2 ⟨rfl, b2⟩
        go_wp2
        go_ret
        exact ⟨rfl, b2⟩

/-! ### THE ROW's STEP: WRITTEN OUT: LEAVE IT -/
set_option maxRecDepth 100000 in
theorem lifted (os : Os) (started : os.Started) (H : Type) (enc : TypeId × Value → H) :
    ReturnsInHanded {} Try.checked os 3 .any (Rows.chancePutSpec.pre6 enc Try.prog Try.f3 Rows.chancePutRow.domain false) (Rows.chancePutSpec.post enc Try.prog Try.f3 false true false false) := by
  refine returnsInHanded_of_change (C := Try.checked) own started (by kernel_rfl) Try.func3
    (ChangeSpec.witness6 (enc := enc) (C := Try.checked) false ⟨#[], #[.slice none 0 0], []⟩ 8 (by kernel_rfl) (by kernel_rfl) (by kernel_rfl) (by kernel_rfl)) ?_
  intro W base args ds gs before hval0 hW hcnd _
  have hval : ∀ (j : Nat) t v, Try.f3.params[j]? = some t → args[j]? = some v → Value.okWide Try.prog W .any base t v := hval0
  have hW' := hW
  obtain ⟨p, q, hA0, hV, rfl, hfz, hnd⟩ := hW
  have hA : DataW.TrodAll enc Try.prog W 0 (fun _ => true) true Try.f3.params.toList args.toList ds p := hA0
  rw [Try.params3] at hA hval
  obtain ⟨v0, vs0, d0, ds0, p0, q0, hargs, rfl, rfl, h0, r0⟩ := trodAll_cons hA
  obtain ⟨rfl, rfl, rfl⟩ := trodAll_nil r0
  obtain rfl : args = #[v0] := by cases args; simp_all
  obtain ⟨rfl, rfl⟩ := trodVars_none hV
  obtain ⟨a0, len0, cap0, rfl⟩ := okWide_slice Try.underlying22 (hval 0 22 v0 rfl rfl)
  have k0 := h0
  have lt0 : ∀ x ∈ p0, x.block < W.heap.size := by obtain ⟨m, hm⟩ := k0; exact DataW.trod_lt m _ _ _ hm
  obtain ⟨l0, w0⟩ : ∃ l, IsAsks W a0 len0 cap0 l := by
    obtain ⟨fuel, hf⟩ := h0
    exact open_asks (by simpa [Value.cells] using hf)
  clear hA0 hval0
  refine (put_walk a0 len0 cap0 l0 W w0).mono fun e W' ⟨he, bel⟩ => ?_
  subst he
  exact ⟨_, rfl, _, _, _, [], _, [], hW', trodAll_mk1 (shut_bool Try.underlying4 _), (trodAll_cons_mk (Below.trod laidOut (by kernel_rfl) (of_decide_eq_true (by kernel_rfl)) k0 bel lt0) trodAll_mk0), rfl, bel.frame _, fun h => by cases h⟩

theorem over : Rows.chancePutRow.holds Try.pinned (OpenSpec.ofChange Rows.chancePutSpec) :=
  OpenClaim.holds_of_wide 3 Try.f3 rfl rfl rfl rfl rfl rfl rfl ⟨rfl, rfl, rfl, rfl, rfl⟩ rfl rfl rfl rfl rfl (by kernel_rfl) Try.func3 (by kernel_rfl)
    (of_decide_eq_true (by kernel_rfl)) (by unfold Func.isWrapper; first | (rw [if_pos (by decide +kernel)]; kernel_rfl) | (rw [if_neg (by decide +kernel)]; exact ⟨rfl, rfl⟩))
    (fun os started H enc _ => lifted os started H enc)

/-- ████ THE STATEMENT ████ -/
theorem proved : Rows.ChancePutSaid := over
end Go.Proofs.Ytbmjehpkcelogaa.chancePut

namespace Go.Proofs.Ytbmjehpkcelogaa
theorem chancePut_holds : Rows.ChancePutSaid := chancePut.proved
#print axioms chancePut_holds
end Go.Proofs.Ytbmjehpkcelogaa
