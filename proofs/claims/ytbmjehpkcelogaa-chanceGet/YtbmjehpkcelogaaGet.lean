/-
  Proved: ChanceGet returns true for every input, and leaves what was there as it was; no condition.
-/
import Derived.Test.YtbmjehpkcelogaaRows
import Derived.WalkKit
import Derived.ProofKit
import Derived.OpenShut
import Derived.ShutString
import Derived.ChangeOld
import Derived.Below
import Derived.Test.YtbmjehpkcelogaaRq
import Derived.Test.YtbmjehpkcelogaaSp
import Derived.Deep.RegionWith
import Derived.Deep.QuietTactic
import Derived.Deep.RegionHeld3
import Derived.OwnWalk
import Derived.BigQuiet
namespace Go.Proofs.Ytbmjehpkcelogaa.chanceGet
open Go.ChangeShapes Go.WideShapes Go.ChangeAt Go.RowKit
open Go.ChangeMaps (open_string shut_string)
set_option linter.unusedVariables false

theorem own : ownKnob Try.prog.godebug = none := by kernel_rfl
theorem laidOut : laidOutB Try.prog = true := by kernel_rfl


theorem bel_drewN {B : Nat} {a w : World} (h : Below B a w) (n : Nat) : Below B a (w.drewN n) := ⟨h.os, h.tape, h.output, h.size, h.block⟩
def GeRel (w : World) (A B C : Nat) (s : ByteArray) (n : Nat) (iv : Value) (wr : World) : Prop :=
  ∃ (i : Nat) (va vc : Value) (st : Nat × Nat × Nat) (bad : Bool), i ≤ n ∧ iv = .int .i64 i ∧ DO w wr A s va st bad ∧ RO w wr B s C vc st bad ∧ Apr A va B C vc ∧ st.1 ≤ 128 * i ∧ Below w.heap.size w wr
set_option maxRecDepth 100000 in
set_option maxHeartbeats 4000000 in
theorem get_walk (s : ByteArray) (a : Option Addr) (len cap : Nat) (l : List (Int × Int × Int × Nat)) (w : World) (hl : IsAsks w a len cap l) :
    Calls Try.prog 4 #[.string s, .slice a len cap] w fun e w' => e = .returned (.bool true) ∧ Below w.heap.size w w' := by
  have hm := hl.2.1
  simp only [maxLen] at hm
  have HL := Hid.intro hl
  clear hl
  go_enter Try.func4, Try.ntmps4
  go_wp2_with fail
  refine (from_own s (Below.refl _ w)).mono ?_
  rintro e x1 ⟨A, rfl, A0, d1, b1, _⟩
  unfold ptr
  by_cases hg : 80 < len
  · have hgi : (80 : Int) < (len : Int) := by omega
    go_wp2_with fail
    refine (awake_own b1).mono ?_
    rintro e x2 ⟨rfl, b2⟩
    go_wp2
    go_ret
    exact ⟨rfl, b2⟩
  have hgi : ¬ (80 : Int) < (len : Int) := by omega
  by_cases hs : 200 < s.size
  · have hsi : (200 : Int) < (s.size : Int) := by omega
    go_wp2_with fail
    refine (awake_own b1).mono ?_
    rintro e x2 ⟨rfl, b2⟩
    go_wp2
    go_ret
    exact ⟨rfl, b2⟩
  have hsi : ¬ (200 : Int) < (s.size : Int) := by omega
  go_wp2_with fail
  refine (rfrom_own s b1).mono ?_
  rintro e x2 ⟨B, C, vc, rfl, c1, B0, b2, c2⟩
  have d2 := do_kept d1 c2 (fun _ _ h => h)
  have AB : Apr A (.slice none 0 0) B C vc := by
    intro j hj hj2
    have h1 := do_lt d1 j hj
    have h2 := B0 j hj2
    omega
  clear d1 b1 c2 A0 B0
  unfold ptr
  go_wp2_with fail
  go_loopw [7] (fun iv wr => GeRel w A B C s len iv wr) (fun iv _ => (len - intOf iv).toNat)
  case atStart => exact ⟨0, _, vc, st0, false, Nat.zero_le _, rfl, d2, c1, AB, Nat.le_refl _, b2⟩
  case round =>
    clear d2 c1 AB b2
    obtain ⟨i, va, vc, st, bad, hi, rfl, d1, c1, AB, hup, b1⟩ := hrel
    by_cases hil : i < len
    · have hd : decide ((i : Int) < (len : Int)) = true := decide_eq_true (by omega)
      obtain ⟨x, p, b, n, v, rfl, hq, q4, hcells⟩ := asks_cells HL.out i hil
      obtain ⟨q0, q1, q2, q3⟩ := hcells wr b1
      have HC := Hid.intro hcells
      clear hcells
      by_cases hn : n ≠ 0
      · have hnb : (n != 0) = true := by simpa using hn
        obtain ⟨y, er, st', bad', hr⟩ : ∃ y er st' bad', gDir s.data.toList (cl n) 0 st bad = (y, er, st', bad') := ⟨_, _, _, _, rfl⟩
        have hu := up_dir s.data.toList (cl n) 0 st bad
        have her := er_dir s.data.toList (cl n) 0 st bad
        rw [hr] at hu her
        simp only at hu her
        have P1 := ddir_own A s va st bad n d1 b1 (by omega) (by omega) y er st' bad' hr
        have P2 := Hid.intro (fun (W : World) (vc : Value) (h : RO w W B s C vc st bad) (hb : Below w.heap.size w W) => rgdir_own B s C vc st bad n h hb (by omega) (by omega) y er st' bad' hr)
        have D1 := Hid.intro (And.intro d1 c1)
        have HU : Hid (st'.1 ≤ 128 * (i + 1)) := by have := cl_le n; show _ ≤ _; omega
        unfold ptr at P1
        clear d1 c1 hr hu
        go_wp2_with fail
        refine P1.mono ?_
        rintro e w4 ⟨rfl, va', e1, e2, e3, e4⟩
        clear P1 q0 q1 q2 q3
        have c4 : RO w w4 B s C vc st bad := ro_kept D1.out.2 e3 (fun k h g => AB k g h)
        have AB4 := apr_left AB e4 (ro_lt D1.out.2)
        have P3 := P2.out w4 vc c4 e2
        obtain ⟨q0, q1, q2, q3⟩ := HC.out w4 e2
        unfold ptr at P3
        have E1 := Hid.intro e1
        have AB4 := Hid.intro AB4
        clear e1 c4 AB b1 D1 e3 e4
        go_wp2_with fail
        refine P3.mono ?_
        rintro e w5 ⟨rfl, vc', f1, f2, f3, f4⟩
        have g1 := do_kept E1.out f3 (fun k h g => AB4.out k h g)
        have AB5 := apr_right AB4.out f4 (do_lt E1.out)
        have EA := fun (W : World) => (err_any er W (by omega)).mono (fun _ _ g => And.intro g.1 g.2.symm)
        have al : Chg (fun _ => False) w5 (w5.alloc (.cells #[.int .u64 (y : Int), .int .i64 0, .int .i64 (er : Int)] 43)) := chg_alloc (chg_refl _ _) _
        have G := Hid.intro (And.intro (do_kept g1 al (fun _ _ h => h)) (And.intro (ro_kept f1 al (fun _ _ h => h)) (And.intro AB5 (below_no f2 al))))
        clear P3 q0 q1 q2 q3 g1 f1 f2 f3 f4 AB5 AB4 al E1
        unfold agg3
        go_wp2_with fail
        go_quiet ((go_at_call 22; refine Calls.quiet_of_same (EA _)))
        have G := Hid.intro (show DO w (World.drewN (w5.alloc (.cells #[.int .u64 (y : Int), .int .i64 0, .int .i64 (er : Int)] 43)) nq) A s va' st' bad' ∧ RO w (World.drewN (w5.alloc (.cells #[.int .u64 (y : Int), .int .i64 0, .int .i64 (er : Int)] 43)) nq) B s C vc' st' bad' ∧ Apr A va' B C vc' ∧ Below w.heap.size w (World.drewN (w5.alloc (.cells #[.int .u64 (y : Int), .int .i64 0, .int .i64 (er : Int)] 43)) nq) from ⟨G.out.1, G.out.2.1, G.out.2.2.1, bel_drewN G.out.2.2.2 nq⟩)
        generalize World.drewN (w5.alloc (.cells #[.int .u64 (y : Int), .int .i64 0, .int .i64 (er : Int)] 43)) nq = W6 at *
        clear EA
        go_wp2_with fail
        go_roundw
        case rel => exact ⟨i + 1, va', vc', st', bad', by omega, by go_num, G.out.1, G.out.2.1, G.out.2.2.1, HU.out, G.out.2.2.2⟩
        case measure => simp [intOf]; omega
      · have hn0 : n = 0 := by omega
        subst hn0
        obtain ⟨y, er, st', bad', hr⟩ : ∃ y er st' bad', gBit s.data.toList p st bad = (y, er, st', bad') := ⟨_, _, _, _, rfl⟩
        have hu := up_bit s.data.toList p st bad
        have hy := (er_bit s.data.toList p st bad).1
        have her := (er_bit s.data.toList p st bad).2
        rw [hr] at hu her hy
        simp only at hu her hy
        have hyw : IntKind.u64.wrap (y : Int) = (y : Int) := by rw [IntKind.wrap_u64]; omega
        have hym : (y : Int) % 18446744073709551616 = (y : Int) := by omega
        clear hy
        have P1 := dbit_own A s va st bad p d1 b1 (by omega) (by omega) y er st' bad' hr
        have P2 := Hid.intro (fun (W : World) (vc : Value) (h : RO w W B s C vc st bad) (hb : Below w.heap.size w W) => rget_own B s C vc st bad p h hb (by omega) (by omega) y er st' bad' hr)
        have D1 := Hid.intro (And.intro d1 c1)
        have HU : Hid (st'.1 ≤ 128 * (i + 1)) := by show _ ≤ _; omega
        unfold ptr at P1
        clear d1 c1 hr hu
        go_wp2_with fail
        refine P1.mono ?_
        rintro e w4 ⟨rfl, va', e1, e2, e3, e4⟩
        clear P1 q0 q1 q2 q3
        have c4 : RO w w4 B s C vc st bad := ro_kept D1.out.2 e3 (fun k h g => AB k g h)
        have AB4 := apr_left AB e4 (ro_lt D1.out.2)
        have P3 := P2.out w4 vc c4 e2
        obtain ⟨q0, q1, q2, q3⟩ := HC.out w4 e2
        unfold ptr at P3
        have E1 := Hid.intro e1
        have AB4 := Hid.intro AB4
        clear e1 c4 AB b1 D1 e3 e4
        go_wp2_with fail
        refine P3.mono ?_
        rintro e w5 ⟨rfl, vc', f1, f2, f3, f4⟩
        have g1 := do_kept E1.out f3 (fun k h g => AB4.out k h g)
        have AB5 := apr_right AB4.out f4 (do_lt E1.out)
        have EA := fun (W : World) => (err_any er W (by omega)).mono (fun _ _ g => And.intro g.1 g.2.symm)
        have al : Chg (fun _ => False) w5 (w5.alloc (.cells #[.int .u64 (y : Int), .int .i64 0, .int .i64 (er : Int)] 43)) := chg_alloc (chg_refl _ _) _
        have G := Hid.intro (And.intro (do_kept g1 al (fun _ _ h => h)) (And.intro (ro_kept f1 al (fun _ _ h => h)) (And.intro AB5 (below_no f2 al))))
        clear P3 q0 q1 q2 q3 g1 f1 f2 f3 f4 AB5 AB4 al E1
        unfold agg3
        go_wp2_with fail
        go_quiet ((go_at_call 22; refine Calls.quiet_of_same (EA _)))
        have G := Hid.intro (show DO w (World.drewN (w5.alloc (.cells #[.int .u64 (y : Int), .int .i64 0, .int .i64 (er : Int)] 43)) nq) A s va' st' bad' ∧ RO w (World.drewN (w5.alloc (.cells #[.int .u64 (y : Int), .int .i64 0, .int .i64 (er : Int)] 43)) nq) B s C vc' st' bad' ∧ Apr A va' B C vc' ∧ Below w.heap.size w (World.drewN (w5.alloc (.cells #[.int .u64 (y : Int), .int .i64 0, .int .i64 (er : Int)] 43)) nq) from ⟨G.out.1, G.out.2.1, G.out.2.2.1, bel_drewN G.out.2.2.2 nq⟩)
        generalize World.drewN (w5.alloc (.cells #[.int .u64 (y : Int), .int .i64 0, .int .i64 (er : Int)] 43)) nq = W6 at *
        clear EA
        go_wp2_with fail
        go_roundw
        case rel => exact ⟨i + 1, va', vc', st', bad', by omega, by go_num, G.out.1, G.out.2.1, G.out.2.2.1, HU.out, G.out.2.2.2⟩
        case measure => simp [intOf]; omega
    · obtain rfl : i = len := by omega
      have hd : decide ((i : Int) < (i : Int)) = false := decide_eq_false (by omega)
      obtain ⟨er, bad', hr⟩ : ∃ er bad', gEnd s.data.toList st bad = (er, bad') := ⟨_, _, rfl⟩
      obtain ⟨er2, bad2, hr2⟩ : ∃ er2 bad2, gEnd s.data.toList st bad' = (er2, bad2) := ⟨_, _, rfl⟩
      have her := er_end s.data.toList st bad
      have her2 := er_end s.data.toList st bad'
      rw [hr] at her
      rw [hr2] at her2
      simp only at her her2
      have hst : st.1 ≤ 12000 := by omega
      have P1 := dend_own A s va st bad d1 b1 (by omega) (by omega) er bad' hr
      have EA := fun (W : World) => err_any er W (by omega)
      have EB := fun (W : World) => err_any er2 W (by omega)
      have C1 := Hid.intro c1
      have HAB := Hid.intro AB
      clear c1 AB d1
      unfold ptr at P1
      go_wp2_with fail
      refine P1.mono ?_
      rintro e w4 ⟨rfl, e1, e2, e3⟩
      have c4 := ro_kept C1.out e3 (fun k h g => HAB.out k (.inl g) h)
      have E1 := Hid.intro e1
      have P2 := rend_own B s C vc st bad c4 e2 (by omega) (by omega) er bad' hr
      unfold ptr at P2
      clear P1 e1 e3 c4
      go_wp2_with (first | (go_at_call 22; refine (EA _).mono ?_; rintro e w9 ⟨rfl, rfl⟩))
      refine P2.mono ?_
      rintro e w5 ⟨rfl, f1, f2, f3⟩
      have g1 := do_kept E1.out f3 (fun k h g => HAB.out k h g)
      have F1 := Hid.intro f1
      have P3 := dend_own A s va st bad' g1 f2 (by omega) (by omega) er2 bad2 hr2
      unfold ptr at P3
      clear P2 f1 f3 g1 E1
      go_wp2_with fail
      refine P3.mono ?_
      rintro e w6 ⟨rfl, h1, h2, h3⟩
      have c6 := ro_kept F1.out h3 (fun k h g => HAB.out k (.inl g) h)
      have P4 := rend_own B s C vc st bad' c6 h2 (by omega) (by omega) er2 bad2 hr2
      unfold ptr at P4
      clear P3 h1 h3 c6 F1
      go_wp2_with (first | (go_at_call 22; refine (EB _).mono ?_; rintro e w9 ⟨rfl, rfl⟩))
      refine P4.mono ?_
      rintro e w7 ⟨rfl, k1, k2, k3⟩
      clear P4 k1 k3
      go_wp2_with fail
      refine (awake_own k2).mono ?_
      rintro e w8 ⟨rfl, b9⟩
      go_wp2
      go_ret
      exact ⟨rfl, b9⟩

/-! ### THE ROW's STEP: WRITTEN OUT: LEAVE IT -/
set_option maxRecDepth 100000 in
theorem lifted (os : Os) (started : os.Started) (H : Type) (enc : TypeId × Value → H) :
    ReturnsInHanded {} Try.checked os 4 .any (Rows.chanceGetSpec.pre6 enc Try.prog Try.f4 Rows.chanceGetRow.domain false) (Rows.chanceGetSpec.post enc Try.prog Try.f4 false true false false) := by
  refine returnsInHanded_of_change (C := Try.checked) own started (by kernel_rfl) Try.func4
    (ChangeSpec.witness6 (enc := enc) (C := Try.checked) false ⟨#[], #[.string ByteArray.empty, .slice none 0 0], []⟩ 8 (by kernel_rfl) (by kernel_rfl) (by kernel_rfl) (by kernel_rfl)) ?_
  intro W base args ds gs before hval0 hW hcnd _
  have hval : ∀ (j : Nat) t v, Try.f4.params[j]? = some t → args[j]? = some v → Value.okWide Try.prog W .any base t v := hval0
  have hW' := hW
  obtain ⟨p, q, hA0, hV, rfl, hfz, hnd⟩ := hW
  have hA : DataW.TrodAll enc Try.prog W 0 (fun _ => true) true Try.f4.params.toList args.toList ds p := hA0
  rw [Try.params4] at hA hval
  obtain ⟨v0, vs0, d0, ds0, p0, q0, hargs, rfl, rfl, h0, r0⟩ := trodAll_cons hA
  obtain ⟨v1, vs1, d1, ds1, p1, q1, rfl, rfl, rfl, h1, r1⟩ := trodAll_cons r0
  obtain ⟨rfl, rfl, rfl⟩ := trodAll_nil r1
  obtain rfl : args = #[v0, v1] := by cases args; simp_all
  obtain ⟨rfl, rfl⟩ := trodVars_none hV
  obtain ⟨a0, rfl, rfl, rfl, w0⟩ := open_string Try.underlying9 (hval 0 9 v0 rfl rfl) h0
  obtain ⟨a1, len1, cap1, rfl⟩ := okWide_slice Try.underlying22 (hval 1 22 v1 rfl rfl)
  have k1 := h1
  have lt1 : ∀ x ∈ p1, x.block < W.heap.size := by obtain ⟨m, hm⟩ := k1; exact DataW.trod_lt m _ _ _ hm
  obtain ⟨l1, w1⟩ : ∃ l, IsAsks W a1 len1 cap1 l := by
    obtain ⟨fuel, hf⟩ := h1
    exact open_asks (by simpa [Value.cells] using hf)
  clear hA0 hval0
  refine (get_walk a0 a1 len1 cap1 l1 W w1).mono fun e W' ⟨he, bel⟩ => ?_
  subst he
  exact ⟨_, rfl, _, _, _, [], _, [], hW', trodAll_mk1 (shut_bool Try.underlying4 _), (trodAll_cons_mk (shut_string Try.underlying9 w0) (trodAll_cons_mk (Below.trod laidOut (by kernel_rfl) (of_decide_eq_true (by kernel_rfl)) k1 bel lt1) trodAll_mk0)), rfl, bel.frame _, fun h => by cases h⟩

theorem over : Rows.chanceGetRow.holds Try.pinned (OpenSpec.ofChange Rows.chanceGetSpec) :=
  OpenClaim.holds_of_wide 4 Try.f4 rfl rfl rfl rfl rfl rfl rfl ⟨rfl, rfl, rfl, rfl, rfl⟩ rfl rfl rfl rfl rfl (by kernel_rfl) Try.func4 (by kernel_rfl)
    (of_decide_eq_true (by kernel_rfl)) (by unfold Func.isWrapper; first | (rw [if_pos (by decide +kernel)]; kernel_rfl) | (rw [if_neg (by decide +kernel)]; exact ⟨rfl, rfl⟩))
    (fun os started H enc _ => lifted os started H enc)

/-- ████ THE STATEMENT ████ -/
theorem proved : Rows.ChanceGetSaid := over
end Go.Proofs.Ytbmjehpkcelogaa.chanceGet

namespace Go.Proofs.Ytbmjehpkcelogaa
theorem chanceGet_holds : Rows.ChanceGetSaid := chanceGet.proved
#print axioms chanceGet_holds
end Go.Proofs.Ytbmjehpkcelogaa
