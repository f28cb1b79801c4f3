/-
  Of one number alone, in so many bits, the sealed bytes are it, and a bit 1 above.
-/
import Derived.Test.YtjojofcajabkeaaRows
import Derived.WalkKit
import Derived.ProofKit
import Derived.OpenShut
import Derived.Deep.RegionHeld3
import Derived.BigQuiet
import Derived.Deep.QuietTactic
import Derived.Test.YtjojofcajabkeaaSeal
import Derived.ShutString
namespace Go.Proofs.Ytjojofcajabkeaa.backMarks
open Go.ChangeShapes Go.WideShapes Go.ChangeAt Go.RowKit
open Go.ChangeMaps (open_string shut_string)
set_option linter.unusedVariables false      -- a walk need not use every 'w<i>' (that an integer argument fits its kind)

theorem own : ownKnob Try.prog.godebug = none := by kernel_rfl

theorem or_step (x c : Nat) (hx : x < 72057594037927936) (hc : c < 256) : bits .or .u64 (IntKind.u64.wrap ((x : Int) * 256)) (IntKind.u64.wrap (c : Int)) = ((c + x * 256 : Nat) : Int) := by
  have h1 : IntKind.u64.wrap ((x : Int) * 256) = ((x * 256 : Nat) : Int) := by rw [IntKind.wrap_u64]; omega
  have h2 : IntKind.u64.wrap (c : Int) = (c : Int) := by rw [IntKind.wrap_u64]; omega
  rw [h1, h2, u64_or_nat _ _ (by omega) (by omega), Nat.or_comm, show (256 : Nat) = 2 ^ 8 from rfl, or_hi _ _ _ (by omega)]

/-- The bytes from the end: what has been read when j are still to be read. -/
def MkRel (M z : Nat) (xv iv : Value) : Prop := ∃ j : Nat, j ≤ z ∧ iv = .int .i64 ((j : Int) - 1) ∧ xv = .int .u64 (M / 256 ^ j : Nat)

set_option maxRecDepth 100000 in
set_option maxHeartbeats 1000000 in
theorem core (v n k : Nat) (hv : v < 18446744073709551616) (hn : n < 256) (hk : k = n % 56) (w : World) :
    Calls Try.prog 6 #[.int .u64 v, .int .u8 n] w fun e w' => e = .returned (.bool true) ∧ Below w.heap.size w w' := by
  have e1 : (n : Int) % 56 = (k : Int) := by omega
  have hk55 : k ≤ 55 := by omega
  have hm : v % 2 ^ k < 2 ^ k := Nat.mod_lt _ (Nat.pow_pos (by decide))
  have hle := sealed_le _ _ hm
  have hsz := sealed_size (v % 2 ^ k) k
  have P := fun (W : World) (hb : Below w.heap.size w W) (hx : Us W (some ⟨w.heap.size, 0, none⟩) 1 (fun _ => v)) (hy : Ls W (some ⟨w.heap.size + 1, 0, none⟩) 1 (fun _ => (k : Int))) =>
    seal_own (some ⟨w.heap.size, 0, none⟩) (some ⟨w.heap.size + 1, 0, none⟩) 1 1 1 1 1 (fun _ => v) (fun _ => (k : Int)) hb (by omega) rfl (by omega) (by omega) hx hy (fun _ => k) (fun _ => (cl_nat k (by omega)).symm) (sealed (v % 2 ^ k) k) (by simp [num, szs])
  clear hk
  generalize sealed (v % 2 ^ k) k = S at *
  go_enter Try.func6, Try.ntmps6
  go_wp2_with fail
  refine (P _ ?_ ?_ ?_).mono ?_
  · exact ((Below.refl _ w).alloc (Nat.le_refl _) _).alloc (by simp) _
  · intro _; exact ⟨_, rfl, fun i hi => by obtain rfl : i = 0 := by omega
                                           exact ⟨by simp [go_sem], hv⟩⟩
  · intro _; exact ⟨_, rfl, fun i hi => by obtain rfl : i = 0 := by omega
                                           exact ⟨by simp [go_sem], show (-9223372036854775808 : Int) ≤ (k : Int) by omega, show (k : Int) ≤ 9223372036854775807 by omega⟩⟩
  rintro e w1 ⟨rfl, b1, b2⟩
  clear P
  have hM : v % 2 ^ k + 2 ^ k < 2 ^ (k + 1) := mark_lt _ _ hm
  have hM2 : (2 : Nat) ^ (k + 1) ≤ 2 ^ 56 := pow_le_of (by omega)
  have hM3 : Hid (bits .or .u64 (bits .and .u64 (v : Int) ((2 ^ k - 1 : Nat) : Int)) ((2 ^ k : Nat) : Int) = ((v % 2 ^ k + 2 ^ k : Nat) : Int)) := by
    have h1 : (2 : Nat) ^ k ≤ 2 ^ 55 := pow_le_of (by omega)
    have h2 : (2 : Nat) ^ 55 < 18446744073709551616 := by decide
    show _ = _
    have h3 := or_hi (v % 2 ^ k) 1 k hm
    rw [Nat.one_mul] at h3
    rw [u64_and_nat _ _ hv (by omega), Nat.and_two_pow_sub_one_eq_mod, u64_or_nat _ _ (by omega) (by omega), h3]
  have hp : (2 : Nat) ^ k ≤ 2 ^ 55 := pow_le_of (by omega)
  have hp0 : 0 < 2 ^ k := Nat.pow_pos (by decide)
  generalize hMM : v % 2 ^ k + 2 ^ k = M at *
  clear hMM b2
  have hS1 : S.size ≤ 7 := by omega
  have HS := Hid.intro hsz
  have HL := Hid.intro hle
  have hM4 : M < 72057594037927936 := by have : (2 : Nat) ^ 56 = 72057594037927936 := rfl; omega
  clear hsz hle hm hM hM2
  go_wp2
  go_loop [7, 8] (fun xv iv => MkRel M S.size xv iv) (fun _ iv => (intOf iv + 1).toNat)
  case atStart =>
    have := le_lt S.data.toList
    rw [HL.out, len_data] at this
    exact ⟨S.size, Nat.le_refl _, by go_num, by rw [Nat.div_eq_of_lt this]; rfl⟩
  case round =>
    obtain ⟨j, hj, rfl, rfl⟩ := hrel
    by_cases hj0 : j = 0
    · subst hj0
      have b2 : Below w.heap.size w w1.drew := Below.drew b1
      have r0 : IntKind.i64.wrap ((k : Int) / 8) = (k : Int) / 8 := by rw [IntKind.wrap_i64]; omega
      have r1 : IntKind.i64.wrap ((k : Int) / 8 + 1) = (S.size : Int) := by rw [IntKind.wrap_i64, HS.out]; omega
      obtain ⟨p, hpe⟩ : ∃ p : Nat, p = 2 ^ k := ⟨_, rfl⟩
      obtain ⟨p1, hp1⟩ : ∃ p1 : Nat, p1 = 2 ^ k - 1 := ⟨_, rfl⟩
      have r6 : bits .and .u64 (v : Int) (p1 : Int) = ((v &&& p1 : Nat) : Int) := u64_and_nat _ _ hv (by omega)
      have r2 : IntKind.u64.wrap ((2 : Int) ^ k) = (p : Int) := by
        rw [IntKind.wrap_u64, hpe, show ((2 : Int) ^ k) = ((2 ^ k : Nat) : Int) from by simp]; omega
      have r3 : IntKind.u64.wrap (1 * (2 : Int) ^ k) = (p : Int) := by rw [Int.one_mul, r2]
      have r4 : IntKind.u64.wrap ((p : Int) - 1) = (p1 : Int) := by rw [IntKind.wrap_u64]; omega
      have r5 : bits .or .u64 ((v &&& p1 : Nat) : Int) (p : Int) = (M : Int) := by
        have := hM3.out
        rw [← hp1, ← hpe, r6] at this
        exact this
      clear hp1 hpe hp hp0
      generalize v &&& p1 = y at *
      go_wp2
      go_region_held3 (fun W => Below w.heap.size w W) (first | assumption | exact Below.drew (by assumption)) ((go_at_call 7; refine (awake_own (by assumption)).mono ?_; rintro e w9 ⟨rfl, hb9⟩))
      all_goals
        go_wp2
        go_ret
        exact ⟨rfl, by assumption⟩
    · obtain ⟨i, rfl⟩ : ∃ i, j = i + 1 := ⟨j - 1, by omega⟩
      have hi : i < S.size := by omega
      have hc : S[i].toNat = M / 256 ^ i % 256 := by
        have := le_get S.data.toList i (by rw [len_data]; exact hi)
        rw [HL.out] at this
        rw [this]; rfl
      have hx : M / 256 ^ i = M / 256 ^ i % 256 + M / 256 ^ (i + 1) * 256 := by
        rw [Nat.pow_succ, ← Nat.div_div_eq_div_mul]; omega
      have hx1 : M / 256 ^ (i + 1) < 72057594037927936 := Nat.lt_of_le_of_lt (Nat.div_le_self _ _) hM4
      have hor := or_step (M / 256 ^ (i + 1)) S[i].toNat hx1 (UInt8.toNat_lt _)
      rw [hc, ← hx] at hor
      have HO := Hid.intro hor
      have HC := Hid.intro hc
      clear hor hc hx
      go_wp2
      go_round
      case rel =>
        refine ⟨i, by omega, rfl, ?_⟩
        rw [← HO.out, ← HC.out]
        simp
      case measure => simp [intOf]

theorem walk (a0 : Int) (a1 : Int) (w0 : (Lit.int .u64 a0).wf = true) (w1 : (Lit.int .u8 a1).wf = true) (w : World) :
    Calls Try.prog 6 #[.int .u64 a0, .int .u8 a1] w fun e w' => e = .returned (.bool true) ∧ Below w.heap.size w w' := by
  have h0 := bounds_u64 w0
  have h1 := bounds_u8 w1
  obtain ⟨v, rfl⟩ := Int.eq_ofNat_of_zero_le h0.1
  obtain ⟨n, rfl⟩ := Int.eq_ofNat_of_zero_le h1.1
  exact core v n (n % 56) (by omega) (by omega) rfl w

/-! ### THE ROW's STEP: WRITTEN OUT: LEAVE IT -/
set_option maxRecDepth 100000 in
theorem lifted (os : Os) (started : os.Started) (H : Type) (enc : TypeId × Value → H) :
    ReturnsInHanded {} Try.checked os 6 .any (Rows.backMarksSpec.pre6 enc Try.prog Try.f6 Rows.backMarksRow.domain false) (Rows.backMarksSpec.post enc Try.prog Try.f6 false true false false) := by
  refine returnsInHanded_of_change (C := Try.checked) own started (by kernel_rfl) Try.func6
    (ChangeSpec.witness6 (enc := enc) (C := Try.checked) false ⟨#[], #[.int .u64 0, .int .u8 0], []⟩ 8 (by kernel_rfl) (by kernel_rfl) (by kernel_rfl) (by kernel_rfl)) ?_
  intro W base args ds gs before hval0 hW hcnd _
  have hval : ∀ (j : Nat) t v, Try.f6.params[j]? = some t → args[j]? = some v → Value.okWide Try.prog W .any base t v := hval0
  have hW' := hW
  obtain ⟨p, q, hA0, hV, rfl, hfz, hnd⟩ := hW
  have hA : DataW.TrodAll enc Try.prog W 0 (fun _ => true) true Try.f6.params.toList args.toList ds p := hA0
  rw [Try.params6] at hA hval
  obtain ⟨v0, vs0, d0, ds0, p0, q0, hargs, rfl, rfl, h0, r0⟩ := trodAll_cons hA
  obtain ⟨v1, vs1, d1, ds1, p1, q1, rfl, rfl, rfl, h1, r1⟩ := trodAll_cons r0
  obtain ⟨rfl, rfl, rfl⟩ := trodAll_nil r1
  obtain rfl : args = #[v0, v1] := by cases args; simp_all
  obtain ⟨rfl, rfl⟩ := trodVars_none hV
  obtain ⟨a0, rfl, rfl, rfl, w0⟩ := open_int Try.underlying33 (hval 0 33 v0 rfl rfl) h0
  obtain ⟨a1, rfl, rfl, rfl, w1⟩ := open_int Try.underlying5 (hval 1 5 v1 rfl rfl) h1
  clear hA0 hval0
  refine (walk a0 a1 w0 w1 W).mono fun e W' ⟨he, bel⟩ => ?_
  subst he
  exact ⟨_, rfl, _, _, _, [], _, [], hW', (trodAll_cons_mk (shut_bool Try.underlying4 _) trodAll_mk0), (trodAll_cons_mk (shut_int Try.underlying33 w0) (trodAll_cons_mk (shut_int Try.underlying5 w1) trodAll_mk0)), rfl, bel.frame _, fun h => by cases h⟩

theorem over : Rows.backMarksRow.holds Try.pinned (OpenSpec.ofChange Rows.backMarksSpec) :=
  OpenClaim.holds_of_wide 6 Try.f6 rfl rfl rfl rfl rfl rfl rfl ⟨rfl, rfl, rfl, rfl, rfl⟩ rfl rfl rfl rfl rfl (by kernel_rfl) Try.func6 (by kernel_rfl)
    (of_decide_eq_true (by kernel_rfl)) (by unfold Func.isWrapper; first | (rw [if_pos (by decide +kernel)]; kernel_rfl) | (rw [if_neg (by decide +kernel)]; exact ⟨rfl, rfl⟩))
    (fun os started H enc _ => lifted os started H enc)

/-- ████ THE STATEMENT ████ -/
theorem proved : Rows.BackMarksSaid :=
  over
end Go.Proofs.Ytjojofcajabkeaa.backMarks

namespace Go.Proofs.Ytjojofcajabkeaa
theorem backMarks_holds : Rows.BackMarksSaid := backMarks.proved
#print axioms backMarks_holds
end Go.Proofs.Ytjojofcajabkeaa
