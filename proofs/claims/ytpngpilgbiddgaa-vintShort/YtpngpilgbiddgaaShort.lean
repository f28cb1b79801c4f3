/-
  VintShort returns true for every input, and what it was handed reads as before; no condition.
-/
import Derived.Test.YtpngpilgbiddgaaRows
import Derived.WalkKit
import Derived.ProofKit
import Derived.OpenShut
import Derived.BigQuiet
import Derived.Deep.QuietTactic
import Derived.Test.YtpngpilgbiddgaaGet
import Derived.ShutString
namespace Go.Proofs.Ytpngpilgbiddgaa.vintShort
open Go.ChangeShapes Go.WideShapes Go.ChangeAt Go.RowKit
open Go.ChangeMaps (open_string shut_string)
set_option linter.unusedVariables false      -- a walk need not use every 'w<i>' (that an integer argument fits its kind)

theorem own : ownKnob Try.prog.godebug = none := by kernel_rfl

theorem bt {w a b : World} (h : Below w.heap.size w a) (k : Below a.heap.size a b) : Below w.heap.size w b := h.trans (k.mono h.size)

def KRel (n : Nat) (kv mv : Value) : Prop :=
  ∃ j x : Nat, j ≤ 9 ∧ kv = .int .i64 ((j : Int) + 1) ∧ mv = .int .u64 ((x / 128 : Nat) : Int) ∧ (vb n).length = j + (vbF (9 - j) x).length ∧ x * 128 ^ j ≤ n

theorem krel_step (n j x : Nat) (hn : n < 18446744073709551616) (hj : j ≤ 9) (hl : (vb n).length = j + (vbF (9 - j) x).length) (hx : x * 128 ^ j ≤ n) (h : 0 < x / 128) :
    j + 1 ≤ 9 ∧ (vb n).length = j + 1 + (vbF (9 - (j + 1)) (x / 128)).length ∧ x / 128 * 128 ^ (j + 1) ≤ n := by
  have h8 : j ≤ 8 := by
    by_cases e : j = 9
    · rw [e] at hx
      have h9 : (128 : Nat) ^ 9 = 9223372036854775808 := by decide
      rw [h9] at hx; omega
    · omega
  refine ⟨by omega, ?_, ?_⟩
  · obtain ⟨f, hf⟩ : ∃ f, 9 - j = f + 1 := ⟨8 - j, by omega⟩
    rw [hl, hf, vbF_ge _ _ (by omega), List.length_cons, show 9 - (j + 1) = f from by omega]
    omega
  · refine Nat.le_trans ?_ hx
    rw [Nat.pow_succ, Nat.mul_comm (128 ^ _) 128, ← Nat.mul_assoc]
    exact Nat.mul_le_mul_right _ (by omega)

theorem vbF_get (f : Nat) : ∀ (n i : Nat) (h : i < (vbF f n).length), n < 128 ^ (f + 1) → ((128 ≤ ((vbF f n)[i]).toNat) ↔ i + 1 < (vbF f n).length) := by
  induction f with
  | zero =>
    intro n i h hn
    have hu := u8_of n (by omega)
    have hi : i = 0 := by simp [vbF] at h; omega
    subst hi
    simp [vbF, hu]; omega
  | succ f ih =>
    intro n i h hn
    by_cases hlt : n < 128
    · have hu := u8_of n (by omega)
      have e := vbF_lt (f + 1) n hlt
      simp only [e] at h ⊢
      have hi : i = 0 := by simp at h; omega
      subst hi
      simp [hu]; omega
    · have hu := u8_of (n % 128 + 128) (by omega)
      have e := vbF_ge f n (by omega)
      simp only [e] at h ⊢
      cases i with
      | zero =>
        have h1 := (vbF_len f (n / 128)).1
        rw [List.getElem_cons_zero, hu, List.length_cons]
        omega
      | succ i =>
        have hn' : n / 128 < 128 ^ (f + 1) := by
          rw [Nat.pow_succ] at hn
          omega
        have := ih (n / 128) i (by simpa using h) hn'
        simpa using this

theorem vb_get (n i : Nat) (hn : n < 18446744073709551616) (h : i < (bs (vb n)).size) : (128 ≤ ((bs (vb n))[i]).toNat) ↔ i + 1 < (bs (vb n)).size := by
  have hl : i < (vbF 9 n).length := by rw [size_bs] at h; exact h
  have h10 : (128 : Nat) ^ (9 + 1) = 1180591620717411303424 := by decide
  have := vbF_get 9 n i hl (by rw [h10]; omega)
  rw [size_bs]
  exact this

def IRel (k : Nat) (iv : Value) : Prop := ∃ i : Nat, i ≤ k ∧ iv = .int .i64 i

set_option maxRecDepth 100000 in
set_option maxHeartbeats 2000000 in
theorem core (n s : Nat) (w : World) (hn : n < 18446744073709551616) (hs : s < 256) :
    Calls Try.prog 6 #[.int .u64 n, .int .u8 s] w fun e w' => e = .returned (.bool true) ∧ Below w.heap.size w w' := by
  have N1 : (n : Int) ≤ 18446744073709551615 := by omega
  obtain ⟨q, hq⟩ : ∃ q : Nat, q = n / 2 ^ (s % 64) := ⟨_, rfl⟩
  have hq' : (n : Int) / 2 ^ (s % 64) = (q : Int) := by
    rw [hq, Int.natCast_ediv]; simp
  have hqn : q < 18446744073709551616 := by rw [hq]; exact Nat.lt_of_le_of_lt (Nat.div_le_self _ _) hn
  clear hq
  have hp := fun w => put_any q hqn w
  have hlen := vb_len q
  have H : Hid (q < 18446744073709551616) := hqn
  have hq64 : (q : Int) ≤ 18446744073709551615 := by omega
  clear hqn hn
  go_enter Try.func6, Try.ntmps6
  go_wp2_with (first | (go_at_call 14; refine (hp _).mono ?_; rintro e w' ⟨rfl, hb⟩) | go_in)
  go_loop [6, 7] (fun kv mv => KRel q kv mv) (fun _ mv => (intOf mv).toNat)
  case atStart => exact ⟨0, q, by omega, rfl, rfl, by simp [vb], by simp⟩
  case round =>
    obtain ⟨j, x, hj, rfl, rfl, hl', hx'⟩ := hrel
    have hl : Hid ((vb q).length = j + (vbF (9 - j) x).length) := hl'
    have hx : Hid (x * 128 ^ j ≤ q) := hx'
    have hx64 := put_m64 q x j H.out hx'
    clear hl' hx'
    by_cases h0 : 0 < x / 128
    · go_wp2
      go_round
      case rel =>
        obtain ⟨s1, s2, s3⟩ := krel_step q j x H.out hj hl.out hx.out h0
        exact ⟨j + 1, x / 128, s1, by go_num, by go_num, s2, s3⟩
      case measure => simp [intOf]; omega
    · have hsz : (bs (vb q)).size = j + 1 := by rw [size_bs, hl.out, vbF_lt _ _ (by omega)]; rfl
      have hget := fun i => vb_get q i H.out
      clear hl hx hlen hp
      generalize bs (vb q) = p at *
      go_wp2
      go_loop [8] (fun iv => IRel (j + 1) iv) (fun iv => j + 1 - (intOf iv).toNat)
      case atStart => exact ⟨0, by omega, rfl⟩
      case round =>
        obtain ⟨i, hi, rfl⟩ := hrel
        by_cases hlt : i < j + 1
        · have l2 : i < p.size := by omega
          have g := hget i l2
          by_cases hij : i < j
          · have g1 : 128 ≤ p[i].toNat := g.2 (by omega)
            have d1 : decide ((128 : Int) ≤ p[i].toNat) = true := decide_eq_true (by omega)
            have d2 : decide ((i : Int) < j) = true := decide_eq_true (by omega)
            clear g hget
            go_wp2
            go_round
            case rel => exact ⟨i + 1, by omega, by go_num⟩
            case measure => simp [intOf]; omega
          · have g1 : ¬ 128 ≤ p[i].toNat := fun h => absurd (g.1 h) (by omega)
            clear g hget
            go_wp2
            go_round
            case rel => exact ⟨i + 1, by omega, by go_num⟩
            case measure => simp [intOf]; omega
        · clear hget
          go_wp2_with (first | (go_at_call 9; refine (awake_any _).mono ?_; rintro e w' ⟨rfl, hb⟩) | go_in)
          go_ret
          exact ⟨rfl, by repeat (first | assumption | refine bt ?_ (by assumption))⟩
theorem walk (a0 : Int) (a1 : Int) (w0 : (Lit.int .u64 a0).wf = true) (w1 : (Lit.int .u8 a1).wf = true) (w : World) :
    Calls Try.prog 6 #[.int .u64 a0, .int .u8 a1] w fun e w' => e = .returned (.bool true) ∧ Below w.heap.size w w' := by
  have n0 := bounds_u64 w0
  have n1 := bounds_u8 w1
  obtain ⟨n, rfl⟩ := Int.eq_ofNat_of_zero_le n0.1
  obtain ⟨m, rfl⟩ := Int.eq_ofNat_of_zero_le n1.1
  exact core n m w (by omega) (by omega)

/-! ### THE ROW's STEP: WRITTEN OUT: LEAVE IT -/
set_option maxRecDepth 100000 in
theorem lifted (os : Os) (started : os.Started) (H : Type) (enc : TypeId × Value → H) :
    ReturnsInHanded {} Try.checked os 6 .any (Rows.vintShortSpec.pre6 enc Try.prog Try.f6 Rows.vintShortRow.domain false) (Rows.vintShortSpec.post enc Try.prog Try.f6 false true false false) := by
  refine returnsInHanded_of_change (C := Try.checked) own started (by kernel_rfl) Try.func6
    (ChangeSpec.witness6 (enc := enc) (C := Try.checked) false ⟨#[], #[.int .u64 0, .int .u8 0], []⟩ 8 (by kernel_rfl) (by kernel_rfl) (by kernel_rfl) (by kernel_rfl)) ?_
  intro W base args ds gs before hval0 hW hcnd _
  have hval : ∀ (j : Nat) t v, Try.f6.params[j]? = some t → args[j]? = some v → Value.okWide Try.prog W .any base t v := hval0
  have hW' := hW
  obtain ⟨p, q, hA0, hV, rfl, hfz, hnd⟩ := hW
  have hA : DataW.TrodAll enc Try.prog W 0 (fun _ => true) true Try.f6.params.toList args.toList ds p := hA0
  rw [Try.params6] at hA hval
  obtain ⟨v0, vs0, d0, ds0, p0, q0, hargs, rfl, rfl, h0, r0⟩ := trodAll_cons hA
  obtain ⟨v1, vs1, d1, ds1, p1, q1, rfl, rfl, rfl, h1, r1⟩ := trodAll_cons r0
  obtain ⟨rfl, rfl, rfl⟩ := trodAll_nil r1
  obtain rfl : args = #[v0, v1] := by cases args; simp_all
  obtain ⟨rfl, rfl⟩ := trodVars_none hV
  obtain ⟨a0, rfl, rfl, rfl, w0⟩ := open_int Try.underlying22 (hval 0 22 v0 rfl rfl) h0
  obtain ⟨a1, rfl, rfl, rfl, w1⟩ := open_int Try.underlying5 (hval 1 5 v1 rfl rfl) h1
  clear hA0 hval0
  refine (walk a0 a1 w0 w1 W).mono fun e W' ⟨he, bel⟩ => ?_
  subst he
  exact ⟨_, rfl, _, _, _, [], _, [], hW', (trodAll_cons_mk (shut_bool Try.underlying4 _) trodAll_mk0), (trodAll_cons_mk (shut_int Try.underlying22 w0) (trodAll_cons_mk (shut_int Try.underlying5 w1) trodAll_mk0)), rfl, bel.frame _, fun h => by cases h⟩

theorem over : Rows.vintShortRow.holds Try.pinned (OpenSpec.ofChange Rows.vintShortSpec) :=
  OpenClaim.holds_of_wide 6 Try.f6 rfl rfl rfl rfl rfl rfl rfl ⟨rfl, rfl, rfl, rfl, rfl⟩ rfl rfl rfl rfl rfl (by kernel_rfl) Try.func6 (by kernel_rfl)
    (of_decide_eq_true (by kernel_rfl)) (by unfold Func.isWrapper; first | (rw [if_pos (by decide +kernel)]; kernel_rfl) | (rw [if_neg (by decide +kernel)]; exact ⟨rfl, rfl⟩))
    (fun os started H enc _ => lifted os started H enc)

/-- ████ THE STATEMENT ████ -/
theorem proved : Rows.VintShortSaid :=
  over
end Go.Proofs.Ytpngpilgbiddgaa.vintShort

namespace Go.Proofs.Ytpngpilgbiddgaa
theorem vintShort_holds : Rows.VintShortSaid := vintShort.proved
#print axioms vintShort_holds
end Go.Proofs.Ytpngpilgbiddgaa
