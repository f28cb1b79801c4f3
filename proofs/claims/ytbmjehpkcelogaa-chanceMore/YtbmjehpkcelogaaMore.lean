/-
  Proved: ChanceMore returns true for every input, and leaves what was there as it was; no condition.
-/
import Derived.Test.YtbmjehpkcelogaaRows
import Derived.WalkKit
import Derived.ProofKit
import Derived.OpenShut
import Derived.BigQuiet
import Derived.Deep.QuietTactic
import Derived.Test.YtbmjehpkcelogaaOw
import Derived.ShutString
namespace Go.Proofs.Ytbmjehpkcelogaa.chanceMore
open Go.ChangeShapes Go.WideShapes Go.ChangeAt Go.RowKit
open Go.ChangeMaps (open_string shut_string)
set_option linter.unusedVariables false      -- a walk need not use every 'w<i>' (that an integer argument fits its kind)

theorem own : ownKnob Try.prog.godebug = none := by kernel_rfl

theorem made_zero (n : Nat) : (madeCells #[Value.int .u8 0] n).toList = (be n 0).map byteV := by
  rw [toList_madeCells_one]
  induction n with
  | zero => rfl
  | succ n ih => rw [be, List.replicate_succ', ih, List.map_append]; rfl
theorem gBit_no (s : List UInt8) (p : Int) (st : Nat × Nat × Nat) (bad : Bool) (er : Nat) (h : ovr s st bad = (er, 0, true)) (he : er ≠ 0) : gBit s p st bad = (0, er, st, true) := by
  unfold gBit; rw [h]; simp [he]
theorem gDir_no (s : List UInt8) (n acc : Nat) (st : Nat × Nat × Nat) (bad : Bool) (er : Nat) (h : ovr s st bad = (er, 0, true)) (he : er ≠ 0) : gDir s (n + 1) acc st bad = (0, er, st, true) := by
  rw [gDir, h]; simp [he]
theorem gEnd_no (s : List UInt8) (st : Nat × Nat × Nat) (bad : Bool) (er : Nat) (h : ovr s st bad = (er, 0, true)) (he : er ≠ 0) : gEnd s st bad = (er, true) := by
  unfold gEnd; rw [h]; simp [he]
theorem ovr_short (s : List UInt8) (h : s.length < 5) : ovr s st0 false = (2, 0, true) := by
  unfold ovr ah; rw [if_pos (show s.length < 5 + st0.1 by simp only [st0]; omega)]; simp
theorem ovr_high (s : List UInt8) (h : s.length = 5) (hn : 4294967295 ≤ num s) : ovr s st0 false = (3, 0, true) := by
  unfold ovr ah
  rw [if_neg (show ¬ s.length < 5 + st0.1 by simp only [st0]; omega), List.take_of_length_le (show s.length ≤ 5 + st0.1 by simp only [st0]; omega), if_pos (show num s < st0.2.1 ∨ st0.2.1 + st0.2.2 ≤ num s from .inr (by simp only [st0]; omega))]; simp
theorem ovr_gone (s : List UInt8) (st : Nat × Nat × Nat) : ovr s st true = (3, 0, true) := by unfold ovr; simp
theorem own_five (w : World) (c : UInt8) (x : Int) (hx : x = (c.toNat : Int)) : (w.alloc (.cells #[.int .u8 x, .int .u8 0, .int .u8 0, .int .u8 0, .int .u8 0] 5)).ownsRow 0 5 1 (.slice (some ⟨w.heap.size, 0, none⟩) 5 5) 5 ([c, 0, 0, 0, 0].map byteV) := by
  subst hx
  refine ⟨rfl, .inr ⟨w.heap.size, 5, #[byteV c, byteV 0, byteV 0, byteV 0, byteV 0], rfl, Nat.zero_le _, blk_new w _ 5, Nat.le_refl _, by simp [maxLen], by simp, by simp⟩⟩
theorem apart_nil {A B : Nat} (h : A ≠ B) : Apart A (.slice none 0 0) B (.slice none 0 0) := by
  rintro k (rfl | e) (g | g)
  · exact h g
  · simp [Value.ownBlock] at g
  · simp [Value.ownBlock] at e
  · simp [Value.ownBlock] at e
set_option maxRecDepth 100000 in
set_option maxHeartbeats 2000000 in
theorem walk (a0 : Int) (a1 : Int) (a2 : Int) (w0 : (Lit.int .u8 a0).wf = true) (w1 : (Lit.int .i64 a1).wf = true) (w2 : (Lit.int .u8 a2).wf = true) (w : World) :
    Calls Try.prog 7 #[.int .u8 a0, .int .i64 a1, .int .u8 a2] w fun e w' => e = .returned (.bool true) ∧ Below w.heap.size w w' := by
  have h0 := bounds_u8 w0
  have h2 := bounds_u8 w2
  obtain ⟨i0, hi0, hz0, hz1, hz2⟩ := info_parts info5
  obtain ⟨m, hm⟩ : ∃ m : Nat, m = (a0 % 5).toNat := ⟨_, rfl⟩
  obtain ⟨c, hc⟩ : ∃ c : Nat, c = (a2 % 255).toNat + 1 := ⟨_, rfl⟩
  have hq : a0 % 5 = (m : Int) := by omega
  have hm5 : m < 5 := by omega
  have hcq : 1 + a2 % 255 = (c : Int) := by omega
  have hc1 : 1 ≤ c := by omega
  have hc2 : c ≤ 255 := by omega
  clear hm hc w0 w1 w2
  go_enter Try.func7, Try.ntmps7
  go_wp2_with (first | (at_make; refine wpList_make_full _ rfl (.tmp 24) (.tmp 24) 51 rfl 0 5 i0 (.int .u8 0) 1 Try.underlying51 hi0 hz0 hz1 .i64 .i64 _ _ m rfl rfl hq hq (by rw [hz2]; omega) (by simp only [maxLen]; omega) (Nat.zero_le _) ?_) | go_in)
  intro x1 m1 m2
  rw [made_zero] at m1
  have hcv := own_string m1
  have b1 : Below w.heap.size w x1 := ⟨m2.os, m2.tape, m2.output, m2.size, fun k hk => m2.block k hk (by simp)⟩
  obtain ⟨t, ht⟩ : ∃ t, t = be m 0 := ⟨_, rfl⟩
  have htl : t.length = m := by rw [ht, be_len]
  rw [← ht] at hcv
  clear ht m1 m2
  have sz : (bs t).size ≤ 100000 := by rw [size_bs]; omega
  have T1 := Hid.intro (gBit_no t a1 st0 false 2 (ovr_short t (by omega)) (by decide))
  have T2 := Hid.intro (gBit_no t a1 st0 true 3 (ovr_gone t st0) (by decide))
  have T3 := Hid.intro (gDir_no t 2 0 st0 false 2 (ovr_short t (by omega)) (by decide))
  have T6 := Hid.intro (gEnd_no t st0 true 3 (ovr_gone t st0) (by decide))
  have T4 := Hid.intro (gBit_no [UInt8.ofNat c, 0, 0, 0, 0] a1 st0 false 3 (ovr_high _ rfl (by simp [num, UInt8.toNat_ofNat']; omega)) (by decide))
  have T5 := Hid.intro (gBit_no [0, 255, 255, 255, 255] a1 st0 false 3 (ovr_high _ rfl (by decide)) (by decide))
  go_wp2_with fail
  refine (from_own (bs t) b1).mono ?_
  rintro e x2 ⟨D, rfl, D0, d1, b2, _⟩
  have DL := do_lt d1
  clear b1 hcv
  unfold ptr
  go_wp2_with fail
  refine (from_own (bs t) b2).mono ?_
  rintro e x3 ⟨E, rfl, E0, e1, b3, c3⟩
  have d1 := do_kept d1 c3 (fun _ _ h => h)
  have DE := apart_nil (A := D) (B := E) (by have := DL D (.inl rfl); omega)
  have DL := do_lt d1
  have EL := do_lt e1
  clear b2 c3
  have hcv2 := own_string (own_five x3 (UInt8.ofNat c) (c : Int) (by rw [u8_of _ (by omega)]))
  have c4 : Chg (fun _ => False) x3 (x3.alloc (.cells #[.int .u8 (c : Int), .int .u8 0, .int .u8 0, .int .u8 0, .int .u8 0] 5)) := chg_alloc (chg_refl _ _) _
  have d1 := do_kept d1 c4 (fun _ _ h => h)
  have e1 := do_kept e1 c4 (fun _ _ h => h)
  have b4 := below_no b3 c4
  have hsz : x3.heap.size ≤ (x3.alloc (.cells #[.int .u8 (c : Int), .int .u8 0, .int .u8 0, .int .u8 0, .int .u8 0] 5)).heap.size := chg_size c4
  unfold ptr
  go_wp2_with fail
  generalize (x3.alloc (.cells #[.int .u8 (c : Int), .int .u8 0, .int .u8 0, .int .u8 0, .int .u8 0] 5)) = x4 at *
  refine (from_own (bs [UInt8.ofNat c, 0, 0, 0, 0]) b4).mono ?_
  rintro e x5 ⟨F, rfl, F0, f1, b5, c5⟩
  have DF := apart_nil (A := D) (B := F) (by have := DL D (.inl rfl); omega)
  have EF := apart_nil (A := E) (B := F) (by have := EL E (.inl rfl); omega)
  have d1 := do_kept d1 c5 (fun _ _ h => h)
  have e1 := do_kept e1 c5 (fun _ _ h => h)
  have DL := do_lt d1
  have EL := do_lt e1
  have FL := do_lt f1
  clear b3 b4 c4 c5 hcv2
  unfold ptr
  go_wp2_with fail
  refine (from_own ⟨#[0, 255, 255, 255, 255]⟩ b5).mono ?_
  rintro e x6 ⟨G, rfl, G0, g1, b6, c6⟩
  have DG := apart_nil (A := D) (B := G) (by have := DL D (.inl rfl); omega)
  have EG := apart_nil (A := E) (B := G) (by have := EL E (.inl rfl); omega)
  have FG := apart_nil (A := F) (B := G) (by have := FL F (.inl rfl); omega)
  have d1 := do_kept d1 c6 (fun _ _ h => h)
  have e1 := do_kept e1 c6 (fun _ _ h => h)
  have f1 := do_kept f1 c6 (fun _ _ h => h)
  clear b5 c6 DL EL FL hsz D0 E0 F0 G0
  unfold ptr
  go_wp2_with fail
  refine (dbit_own D (bs t) _ st0 false a1 d1 b6 (by decide) sz 0 2 st0 true T1.out).mono ?_
  rintro e x7 ⟨rfl, v1, d2, b7, k1, k2⟩
  have e2 := do_kept e1 k1 (fun k h g => DE k g h)
  have f2 := do_kept f1 k1 (fun k h g => DF k g h)
  have g2 := do_kept g1 k1 (fun k h g => DG k g h)
  have DE := apart_moved DE k2 (do_lt e1)
  have DF := apart_moved DF k2 (do_lt f1)
  have DG := apart_moved DG k2 (do_lt g1)
  clear d1 e1 f1 g1 k1 k2 b6
  go_wp2_with fail
  refine (dbit_own D (bs t) v1 st0 true a1 d2 b7 (by decide) sz 0 3 st0 true T2.out).mono ?_
  rintro e x8 ⟨rfl, v2, d3, b8, k1, k2⟩
  have e3 := do_kept e2 k1 (fun k h g => DE k g h)
  have f3 := do_kept f2 k1 (fun k h g => DF k g h)
  have g3 := do_kept g2 k1 (fun k h g => DG k g h)
  have DE := apart_moved DE k2 (do_lt e2)
  have DF := apart_moved DF k2 (do_lt f2)
  have DG := apart_moved DG k2 (do_lt g2)
  clear d2 e2 f2 g2 k1 k2 b7
  go_wp2_with fail
  refine (ddir_own E (bs t) _ st0 false 3 e3 b8 (by decide) sz 0 2 st0 true T3.out).mono ?_
  rintro e x9 ⟨rfl, u1, e4, b9, k1, k2⟩
  have d4 := do_kept d3 k1 (fun k h g => DE k h g)
  have f4 := do_kept f3 k1 (fun k h g => EF k g h)
  have g4 := do_kept g3 k1 (fun k h g => EG k g h)
  have DE := apart_symm (apart_moved (apart_symm DE) k2 (do_lt d3))
  have EF := apart_moved EF k2 (do_lt f3)
  have EG := apart_moved EG k2 (do_lt g3)
  clear d3 e3 f3 g3 k1 k2 b8
  go_wp2_with fail
  refine (dbit_own F (bs [UInt8.ofNat c, 0, 0, 0, 0]) _ st0 false a1 f4 b9 (by decide) (by rw [size_bs]; simp) 0 3 st0 true T4.out).mono ?_
  rintro e x10 ⟨rfl, u2, f5, b10, k1, k2⟩
  have d5 := do_kept d4 k1 (fun k h g => DF k h g)
  have e5 := do_kept e4 k1 (fun k h g => EF k h g)
  have g5 := do_kept g4 k1 (fun k h g => FG k g h)
  clear d4 e4 f4 g4 k1 k2 b9
  go_wp2_with fail
  refine (dbit_own G ⟨#[0, 255, 255, 255, 255]⟩ _ st0 false a1 g5 b10 (by decide) (by decide) 0 3 st0 true T5.out).mono ?_
  rintro e x11 ⟨rfl, u3, g6, b11, k1, k2⟩
  have d6 := do_kept d5 k1 (fun k h g => DG k h g)
  have e6 := do_kept e5 k1 (fun k h g => EG k h g)
  clear d5 e5 f5 g5 g6 k1 k2 b10
  have E2 := fun (w : World) => err_any 2 w (by decide)
  have E3 := fun (w : World) => err_any 3 w (by decide)
  go_wp2_with (first | (go_at_call 22; first | (refine (E2 _).mono ?_; rintro e w9 ⟨rfl, rfl⟩) | (refine (E3 _).mono ?_; rintro e w9 ⟨rfl, rfl⟩)))
  refine (dend_own D (bs t) v2 st0 true d6 b11 (by decide) sz 3 true T6.out).mono ?_
  rintro e x12 ⟨rfl, d7, b12, k1⟩
  have e7 := do_kept e6 k1 (fun k h g => DE k (.inl g) h)
  clear d6 e6 k1 b11
  go_wp2_with (first | (go_at_call 22; first | (refine (E2 _).mono ?_; rintro e w9 ⟨rfl, rfl⟩) | (refine (E3 _).mono ?_; rintro e w9 ⟨rfl, rfl⟩)))
  refine (dend_own E (bs t) u1 st0 true e7 b12 (by decide) sz 3 true T6.out).mono ?_
  rintro e x13 ⟨rfl, e8, b13, k1⟩
  go_wp2_with (first | (go_at_call 22; first | (refine (E2 _).mono ?_; rintro e w9 ⟨rfl, rfl⟩) | (refine (E3 _).mono ?_; rintro e w9 ⟨rfl, rfl⟩)))
  refine (awake_own b13).mono ?_
  rintro e x14 ⟨rfl, b14⟩
  go_wp2
  go_ret
  exact ⟨rfl, b14⟩

/-! ### THE ROW's STEP: WRITTEN OUT: LEAVE IT -/
set_option maxRecDepth 100000 in
theorem lifted (os : Os) (started : os.Started) (H : Type) (enc : TypeId × Value → H) :
    ReturnsInHanded {} Try.checked os 7 .any (Rows.chanceMoreSpec.pre6 enc Try.prog Try.f7 Rows.chanceMoreRow.domain false) (Rows.chanceMoreSpec.post enc Try.prog Try.f7 false true false false) := by
  refine returnsInHanded_of_change (C := Try.checked) own started (by kernel_rfl) Try.func7
    (ChangeSpec.witness6 (enc := enc) (C := Try.checked) false ⟨#[], #[.int .u8 0, .int .i64 0, .int .u8 0], []⟩ 8 (by kernel_rfl) (by kernel_rfl) (by kernel_rfl) (by kernel_rfl)) ?_
  intro W base args ds gs before hval0 hW hcnd _
  have hval : ∀ (j : Nat) t v, Try.f7.params[j]? = some t → args[j]? = some v → Value.okWide Try.prog W .any base t v := hval0
  have hW' := hW
  obtain ⟨p, q, hA0, hV, rfl, hfz, hnd⟩ := hW
  have hA : DataW.TrodAll enc Try.prog W 0 (fun _ => true) true Try.f7.params.toList args.toList ds p := hA0
  rw [Try.params7] at hA hval
  obtain ⟨v0, vs0, d0, ds0, p0, q0, hargs, rfl, rfl, h0, r0⟩ := trodAll_cons hA
  obtain ⟨v1, vs1, d1, ds1, p1, q1, rfl, rfl, rfl, h1, r1⟩ := trodAll_cons r0
  obtain ⟨v2, vs2, d2, ds2, p2, q2, rfl, rfl, rfl, h2, r2⟩ := trodAll_cons r1
  obtain ⟨rfl, rfl, rfl⟩ := trodAll_nil r2
  obtain rfl : args = #[v0, v1, v2] := by cases args; simp_all
  obtain ⟨rfl, rfl⟩ := trodVars_none hV
  obtain ⟨a0, rfl, rfl, rfl, w0⟩ := open_int Try.underlying5 (hval 0 5 v0 rfl rfl) h0
  obtain ⟨a1, rfl, rfl, rfl, w1⟩ := open_int Try.underlying3 (hval 1 3 v1 rfl rfl) h1
  obtain ⟨a2, rfl, rfl, rfl, w2⟩ := open_int Try.underlying5 (hval 2 5 v2 rfl rfl) h2
  clear hA0 hval0
  refine (walk a0 a1 a2 w0 w1 w2 W).mono fun e W' ⟨he, bel⟩ => ?_
  subst he
  exact ⟨_, rfl, _, _, _, [], _, [], hW', (trodAll_cons_mk (shut_bool Try.underlying4 _) trodAll_mk0), (trodAll_cons_mk (shut_int Try.underlying5 w0) (trodAll_cons_mk (shut_int Try.underlying3 w1) (trodAll_cons_mk (shut_int Try.underlying5 w2) trodAll_mk0))), rfl, bel.frame _, fun h => by cases h⟩

theorem over : Rows.chanceMoreRow.holds Try.pinned (OpenSpec.ofChange Rows.chanceMoreSpec) :=
  OpenClaim.holds_of_wide 7 Try.f7 rfl rfl rfl rfl rfl rfl rfl ⟨rfl, rfl, rfl, rfl, rfl⟩ rfl rfl rfl rfl rfl (by kernel_rfl) Try.func7 (by kernel_rfl)
    (of_decide_eq_true (by kernel_rfl)) (by unfold Func.isWrapper; first | (rw [if_pos (by decide +kernel)]; kernel_rfl) | (rw [if_neg (by decide +kernel)]; exact ⟨rfl, rfl⟩))
    (fun os started H enc _ => lifted os started H enc)

/-- ████ THE STATEMENT ████ -/
theorem proved : Rows.ChanceMoreSaid :=
  over
end Go.Proofs.Ytbmjehpkcelogaa.chanceMore

namespace Go.Proofs.Ytbmjehpkcelogaa
theorem chanceMore_holds : Rows.ChanceMoreSaid := chanceMore.proved
#print axioms chanceMore_holds
end Go.Proofs.Ytbmjehpkcelogaa
