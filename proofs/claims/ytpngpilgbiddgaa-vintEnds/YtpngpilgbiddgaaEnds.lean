/-
  VintEnds returns true for every input, and what it was handed reads as before; no condition.
-/
import Derived.Test.YtpngpilgbiddgaaRows
import Derived.WalkKit
import Derived.ProofKit
import Derived.OpenShut
import Derived.Lib.SlBytesConst
import Derived.BigQuiet
import Derived.Deep.QuietTactic
import Derived.Test.YtpngpilgbiddgaaGet
import Derived.ShutString
namespace Go.Proofs.Ytpngpilgbiddgaa.vintEnds
open Go.ChangeShapes Go.WideShapes Go.ChangeAt Go.RowKit
open Go.ChangeMaps (open_string shut_string)
set_option linter.unusedVariables false      -- a walk need not use every 'w<i>' (that an integer argument fits its kind)

theorem own : ownKnob Try.prog.godebug = none := by kernel_rfl

theorem bt {w a b : World} (h : Below w.heap.size w a) (k : Below a.heap.size a b) : Below w.heap.size w b := h.trans (k.mono h.size)
theorem ba {w a : World} (h : Below w.heap.size w a) (o : Obj) : Below w.heap.size w (a.alloc o) := h.alloc h.size o
theorem bset {w a : World} (h : Below w.heap.size w a) (k : Nat) (o : Obj) (v : Value) : Below w.heap.size w ((a.alloc o).setCell ⟨a.heap.size, k, none⟩ v) := (h.alloc h.size o).setCell h.size v

def nine : List UInt8 := [255, 255, 255, 255, 255, 255, 255, 255, 255]

theorem ends_string (w : World) (c : Nat) (hc : c < 256) :
    (convert 33 9 (.slice (some ⟨w.heap.size, 0, none⟩) 10 10)).run Try.prog ((w.alloc (.cells #[.int .u8 255, .int .u8 255, .int .u8 255, .int .u8 255, .int .u8 255, .int .u8 255, .int .u8 255, .int .u8 255, .int .u8 255, .int .u8 1] 5 (10, 11))).setCell ⟨w.heap.size, 9, none⟩ (.int .u8 c))
      = .ok (.string (bs (nine ++ [UInt8.ofNat c]))) ((w.alloc (.cells #[.int .u8 255, .int .u8 255, .int .u8 255, .int .u8 255, .int .u8 255, .int .u8 255, .int .u8 255, .int .u8 255, .int .u8 255, .int .u8 1] 5 (10, 11))).setCell ⟨w.heap.size, 9, none⟩ (.int .u8 c)) := by
  refine run_convert_bytes_back _ 33 9 5 ⟨w.heap.size, 0, none⟩ 10 (nine ++ [UInt8.ofNat c]) Try.underlying33 Try.underlying5 Try.underlying9 (fun j hj => ?_)
  rw [Addr.add_lit, Nat.zero_add]
  have hj' : j < 10 := hj
  by_cases e : j = 9
  · subst e
    rw [World.cell?_setCell_same _ ⟨w.heap.size, 9, none⟩ _ (u := .int .u8 1) (by rw [World.cell?_alloc_mark]; rfl)]
    show some (Value.int .u8 c) = some (Value.int .u8 ((UInt8.ofNat c).toNat : Int))
    rw [u8_of c hc]
  · rw [World.cell?_setCell_other _ _ _ _ (by intro e'; injection e'; omega), World.cell?_alloc_mark]
    have : ∀ j : Fin 9, (#[Value.int .u8 255, .int .u8 255, .int .u8 255, .int .u8 255, .int .u8 255, .int .u8 255, .int .u8 255, .int .u8 255, .int .u8 255, .int .u8 1] : Array Value)[j.val]? = some (.int .u8 255) := by
      intro j; match j with
      | 0 => rfl | 1 => rfl | 2 => rfl | 3 => rfl | 4 => rfl | 5 => rfl | 6 => rfl | 7 => rfl | 8 => rfl
    rw [this ⟨j, by omega⟩]
    have h9 : nine.length = 9 := rfl
    rw [List.getElem_append_left (show j < nine.length by omega)]
    have hall : ∀ c ∈ nine, c = 255 := by decide
    rw [hall _ (List.getElem_mem (show j < nine.length by omega))]; rfl

theorem ends_num (c : Nat) (hc : c < 256) : numb (nine ++ [UInt8.ofNat c]) = if c = 1 then (18446744073709551615, 10, 0) else (0, 0, 3) := by
  have e := numb_at nine [UInt8.ofNat c] (by decide) (by decide)
  rw [e]
  show numF 1 9 (val nine) [UInt8.ofNat c] = _
  have hv : val nine = 9223372036854775807 := by decide
  have h9 : (128 : Nat) ^ 9 = 9223372036854775808 := by decide
  rw [numF, u8_of c hc, hv, h9]
  by_cases h1 : c = 1
  · subst h1; decide
  · rw [if_neg h1]
    by_cases h2 : c < 128
    · rw [if_pos h2, endd_bad _ _ _ (by unfold badEnd; omega)]
    · rw [if_neg h2, numF]

theorem pow_len : ∀ j : Fin 63, (vb (2 ^ j.val)).length = j.val / 7 + 1 := by decide +kernel

theorem put_last (w : World) : Calls Try.prog 14 #[.int .u64 18446744073709551615] w fun e w' => e = .returned (.string ⟨#[255, 255, 255, 255, 255, 255, 255, 255, 255, 1]⟩) ∧ Below w.heap.size w w' := by
  have hp := put_any 18446744073709551615 (by decide) w
  have e : bs (vb 18446744073709551615) = ⟨#[255, 255, 255, 255, 255, 255, 255, 255, 255, 1]⟩ := by decide
  rw [e] at hp
  exact hp
theorem get_last (c : Nat) (h : numb (nine ++ [UInt8.ofNat c]) = (18446744073709551615, 10, 0)) (w : World) :
    Calls Try.prog 10 #[.string (bs (nine ++ [UInt8.ofNat c])), .int .i64 0] w fun e w' => e = .returned (.tuple #[.int .u64 18446744073709551615, .int .i64 10, .int .i64 0]) ∧ w' = w :=
  get_any (bs (nine ++ [UInt8.ofNat c])) 0 w (by rw [size_bs]; show 10 ≤ _; decide) 18446744073709551615 10 0 (by exact getAt_ok numb (bs (nine ++ [UInt8.ofNat c])) 0 (by decide) (by rw [size_bs]; show ¬ ((10 : Nat) : Int) < 0; decide) _ _ h)
theorem get_bad (c : Nat) (h : numb (nine ++ [UInt8.ofNat c]) = (0, 0, 3)) (w : World) :
    Calls Try.prog 10 #[.string (bs (nine ++ [UInt8.ofNat c])), .int .i64 0] w fun e w' => e = .returned (.tuple #[.int .u64 0, .int .i64 0, .int .i64 3]) ∧ w' = w :=
  get_any (bs (nine ++ [UInt8.ofNat c])) 0 w (by rw [size_bs]; show 10 ≤ _; decide) 0 0 3 (by exact getAt_no numb (bs (nine ++ [UInt8.ofNat c])) 0 (by decide) (by rw [size_bs]; show ¬ ((10 : Nat) : Int) < 0; decide) _ _ _ h (by decide))

set_option maxRecDepth 100000 in
set_option maxHeartbeats 2000000 in
theorem core (n c : Nat) (w : World) (hn : n < 256) (hc : c < 256) :
    Calls Try.prog 5 #[.int .u8 n, .int .u8 c] w fun e w' => e = .returned (.bool true) ∧ Below w.heap.size w w' := by
  have hp := put_last
  have kc := fun (w : World) (C : Array Value) (n c : Nat) => Lib.run_convert_bytes_const (P := Try.prog) w 33 5 C n c Try.underlying33 Try.underlying5
  have fz := World.frozen?_alloc_mark
  have cl := World.cell?_alloc_mark
  have hcv := fun w => ends_string w c hc
  have hen := ends_num c hc
  have hj : n % 63 < 63 := Nat.mod_lt _ (by decide)
  obtain ⟨q, hq⟩ : ∃ q : Nat, q = 2 ^ (n % 63) := ⟨_, rfl⟩
  have hq63 : q < 9223372036854775808 := by
    have h : (2 : Nat) ^ (n % 63) ≤ 2 ^ 62 := Nat.pow_le_pow_right (by decide) (by omega)
    have e : (2 : Nat) ^ 62 = 4611686018427387904 := by decide
    omega
  have hk : wrap64 (2 ^ (n % 63)) = (q : Int) := by
    have : (2 : Int) ^ (n % 63) = (q : Int) := by rw [hq]; simp
    rw [this]; unfold wrap64; omega
  have hpq := fun w => put_any q (by omega) w
  have hsz : (bs (vb q)).size = n % 63 / 7 + 1 := by rw [size_bs, hq]; exact pow_len ⟨n % 63, hj⟩
  clear hq
  have hq' : (q : Int) ≤ 9223372036854775807 := by omega
  clear hq63
  generalize bs (vb q) = t at *
  by_cases h1 : c = 1
  · rw [if_pos h1] at hen
    have hg := get_last c hen
    clear hen
    generalize bs (nine ++ [UInt8.ofNat c]) = g at *
    have e2 : ((c : Int) == 1) = true := by simp [h1]
    clear h1
    go_enter Try.func5, Try.ntmps5
    go_wp2_with (first | (go_at_call 14; first | (with_reducible refine (hp _).mono ?_; rintro e w' ⟨rfl, hb⟩) | (with_reducible refine (hpq _).mono ?_; rintro e w' ⟨rfl, hb⟩)) | (go_at_call 10; refine (hg _).mono ?_; rintro e w' ⟨rfl, rfl⟩) | (go_at_call 18; refine (err_any 0 _).mono ?_; rintro e w' ⟨rfl, rfl⟩) | (go_at_call 9; refine (awake_any _).mono ?_; rintro e w' ⟨rfl, hb⟩) | go_in)
    all_goals
      go_ret
      exact ⟨rfl, by repeat (first | assumption | refine bset ?_ _ _ _ | refine ba ?_ _ | refine bt ?_ (by assumption))⟩
  · rw [if_neg h1] at hen
    have hg := get_bad c hen
    clear hen
    generalize bs (nine ++ [UInt8.ofNat c]) = g at *
    have ei : ¬ (c : Int) = 1 := by omega
    have e2 : ((c : Int) == 1) = false := by simpa using ei
    go_enter Try.func5, Try.ntmps5
    go_wp2_with (first | (go_at_call 14; first | (with_reducible refine (hp _).mono ?_; rintro e w' ⟨rfl, hb⟩) | (with_reducible refine (hpq _).mono ?_; rintro e w' ⟨rfl, hb⟩)) | (go_at_call 10; refine (hg _).mono ?_; rintro e w' ⟨rfl, rfl⟩) | (go_at_call 18; refine (err_any 3 _).mono ?_; rintro e w' ⟨rfl, rfl⟩) | (go_at_call 9; refine (awake_any _).mono ?_; rintro e w' ⟨rfl, hb⟩) | go_in)
    all_goals
      go_ret
      exact ⟨rfl, by repeat (first | assumption | refine bset ?_ _ _ _ | refine ba ?_ _ | refine bt ?_ (by assumption))⟩
theorem walk (a0 : Int) (a1 : Int) (w0 : (Lit.int .u8 a0).wf = true) (w1 : (Lit.int .u8 a1).wf = true) (w : World) :
    Calls Try.prog 5 #[.int .u8 a0, .int .u8 a1] w fun e w' => e = .returned (.bool true) ∧ Below w.heap.size w w' := by
  have n0 := bounds_u8 w0
  have n1 := bounds_u8 w1
  obtain ⟨n, rfl⟩ := Int.eq_ofNat_of_zero_le n0.1
  obtain ⟨m, rfl⟩ := Int.eq_ofNat_of_zero_le n1.1
  exact core n m w (by omega) (by omega)

/-! ### THE ROW's STEP: WRITTEN OUT: LEAVE IT -/
set_option maxRecDepth 100000 in
theorem lifted (os : Os) (started : os.Started) (H : Type) (enc : TypeId × Value → H) :
    ReturnsInHanded {} Try.checked os 5 .any (Rows.vintEndsSpec.pre6 enc Try.prog Try.f5 Rows.vintEndsRow.domain false) (Rows.vintEndsSpec.post enc Try.prog Try.f5 false true false false) := by
  refine returnsInHanded_of_change (C := Try.checked) own started (by kernel_rfl) Try.func5
    (ChangeSpec.witness6 (enc := enc) (C := Try.checked) false ⟨#[], #[.int .u8 0, .int .u8 0], []⟩ 8 (by kernel_rfl) (by kernel_rfl) (by kernel_rfl) (by kernel_rfl)) ?_
  intro W base args ds gs before hval0 hW hcnd _
  have hval : ∀ (j : Nat) t v, Try.f5.params[j]? = some t → args[j]? = some v → Value.okWide Try.prog W .any base t v := hval0
  have hW' := hW
  obtain ⟨p, q, hA0, hV, rfl, hfz, hnd⟩ := hW
  have hA : DataW.TrodAll enc Try.prog W 0 (fun _ => true) true Try.f5.params.toList args.toList ds p := hA0
  rw [Try.params5] at hA hval
  obtain ⟨v0, vs0, d0, ds0, p0, q0, hargs, rfl, rfl, h0, r0⟩ := trodAll_cons hA
  obtain ⟨v1, vs1, d1, ds1, p1, q1, rfl, rfl, rfl, h1, r1⟩ := trodAll_cons r0
  obtain ⟨rfl, rfl, rfl⟩ := trodAll_nil r1
  obtain rfl : args = #[v0, v1] := by cases args; simp_all
  obtain ⟨rfl, rfl⟩ := trodVars_none hV
  obtain ⟨a0, rfl, rfl, rfl, w0⟩ := open_int Try.underlying5 (hval 0 5 v0 rfl rfl) h0
  obtain ⟨a1, rfl, rfl, rfl, w1⟩ := open_int Try.underlying5 (hval 1 5 v1 rfl rfl) h1
  clear hA0 hval0
  refine (walk a0 a1 w0 w1 W).mono fun e W' ⟨he, bel⟩ => ?_
  subst he
  exact ⟨_, rfl, _, _, _, [], _, [], hW', (trodAll_cons_mk (shut_bool Try.underlying4 _) trodAll_mk0), (trodAll_cons_mk (shut_int Try.underlying5 w0) (trodAll_cons_mk (shut_int Try.underlying5 w1) trodAll_mk0)), rfl, bel.frame _, fun h => by cases h⟩

theorem over : Rows.vintEndsRow.holds Try.pinned (OpenSpec.ofChange Rows.vintEndsSpec) :=
  OpenClaim.holds_of_wide 5 Try.f5 rfl rfl rfl rfl rfl rfl rfl ⟨rfl, rfl, rfl, rfl, rfl⟩ rfl rfl rfl rfl rfl (by kernel_rfl) Try.func5 (by kernel_rfl)
    (of_decide_eq_true (by kernel_rfl)) (by unfold Func.isWrapper; first | (rw [if_pos (by decide +kernel)]; kernel_rfl) | (rw [if_neg (by decide +kernel)]; exact ⟨rfl, rfl⟩))
    (fun os started H enc _ => lifted os started H enc)

/-- ████ THE STATEMENT ████ -/
theorem proved : Rows.VintEndsSaid :=
  over
end Go.Proofs.Ytpngpilgbiddgaa.vintEnds

namespace Go.Proofs.Ytpngpilgbiddgaa
theorem vintEnds_holds : Rows.VintEndsSaid := vintEnds.proved
#print axioms vintEnds_holds
end Go.Proofs.Ytpngpilgbiddgaa
