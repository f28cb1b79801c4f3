/-
  VintBack returns true for every input, and what it was handed reads as before; no condition.
-/
import Derived.Test.YtpngpilgbiddgaaRows
import Derived.WalkKit
import Derived.ProofKit
import Derived.OpenShut
import Derived.Test.YtpngpilgbiddgaaCat
import Derived.BigQuiet
import Derived.Deep.QuietTactic
import Derived.Test.YtpngpilgbiddgaaGet
import Derived.ShutString
namespace Go.Proofs.Ytpngpilgbiddgaa.vintBack
open Go.ChangeShapes Go.WideShapes Go.ChangeAt Go.RowKit
open Go.ChangeMaps (open_string shut_string)
set_option linter.unusedVariables false      -- a walk need not use every 'w<i>' (that an integer argument fits its kind)

theorem own : ownKnob Try.prog.godebug = none := by kernel_rfl

theorem bt {w a b : World} (h : Below w.heap.size w a) (k : Below a.heap.size a b) : Below w.heap.size w b := h.trans (k.mono h.size)
theorem bsc {w a b : World} (h : Below w.heap.size w a) (k : Below a.heap.size a b) (j : Nat) (v : Value) : Below w.heap.size w (b.setCell ⟨a.heap.size, j, none⟩ v) := (bt h k).setCell h.size v

set_option maxRecDepth 100000 in
set_option maxHeartbeats 4000000 in
theorem core (n : Nat) (s t : ByteArray) (c : Nat) (w : World) (hn : n < 18446744073709551616) (hs : s.size ≤ 9223372036854775807) (ht : t.size ≤ 9223372036854775807) (hc : c < 256) :
    Calls Try.prog 4 #[.int .u64 n, .string s, .string t, .int .u8 c] w fun e w' => e = .returned (.bool true) ∧ Below w.heap.size w w' := by
  by_cases h1 : 50 < s.size
  · go_enter Try.func4, Try.ntmps4
    go_wp2_with (first | (go_at_call 9; refine (awake_any _).mono ?_; rintro e w' ⟨rfl, hb⟩) | go_in)
    go_ret
    exact ⟨rfl, by assumption⟩
  · by_cases h2 : 50 < t.size
    · go_enter Try.func4, Try.ntmps4
      go_wp2_with (first | (go_at_call 9; refine (awake_any _).mono ?_; rintro e w' ⟨rfl, hb⟩) | go_in)
      go_ret
      exact ⟨rfl, by assumption⟩
    · obtain ⟨m, hm⟩ : ∃ m, (vb n).length = m + 1 := ⟨(vb n).length - 1, by have := vb_len n; omega⟩
      have hm9 : m ≤ 9 := by have := vb_len n; omega
      have hput := fun w => put_any n hn w
      have hword := fun w => word_any n hn w
      have g1 := fun w => get_mid n hn s t (by omega) (by omega) w
      rw [hm] at g1
      have g2 := fun w => getw_mid n hn s t (by omega) (by omega) w
      have g3 := fun w => get_cut n (c % (m + 1)) (by rw [hm]; exact Nat.mod_lt _ (by omega)) w
      have g4 := fun w => getw_cut n (c % 8) (Nat.mod_lt _ (by omega)) w
      have hp : (bs (vb n)).size = m + 1 := by rw [size_bs, hm]
      have hq : (bs (wd n)).size = 8 := by rw [size_bs, wd_len]
      have g6 := fun w => get_out (bs (vb n)) (by omega) w
      rw [show (((bs (vb n)).size : Nat) : Int) + 1 = (m : Int) + 1 + 1 from by omega] at g6
      have N1 : (n : Int) ≤ 18446744073709551615 := by omega
      have H : Hid ((vb n).length = m + 1) := hm
      have k0 : 0 ≤ (c : Int) % ((m : Int) + 1) := Int.emod_nonneg _ (by omega)
      have k1 : (c : Int) % ((m : Int) + 1) < (m : Int) + 1 := Int.emod_lt_of_pos _ (by omega)
      have g5 := fun w => get_long ((vb n).set m (UInt8.ofNat (((vb n)[m]).toNat % 128 + 128))) (by rw [List.length_set]; omega) (by rw [List.length_set]; omega) (long_all n m hm _ (by rw [u8_of _ (by omega)]; omega)) w
      have hsl : Hid (((vb n).set m (UInt8.ofNat (((vb n)[m]).toNat % 128 + 128))).length = m + 1) := by show _ = _; rw [List.length_set, hm]
      have R3 : ∀ w' : World, ∃ cap W3, (convert 9 33 (.string (bs (vb n)))).run Try.prog w' = .ok (.slice (some ⟨w'.heap.size, 0, none⟩) (m + 1) cap) W3 ∧ W3.cell? ⟨w'.heap.size, m, none⟩ = some (.int .u8 ((vb n)[m].toNat)) ∧ W3.frozen? ⟨w'.heap.size, m, none⟩ = false ∧ Below w'.heap.size w' W3 ∧
          (convert 33 9 (.slice (some ⟨w'.heap.size, 0, none⟩) (m + 1) cap)).run Try.prog (W3.setCell ⟨w'.heap.size, m, none⟩ (.int .u8 (bits .or .u8 ((vb n)[m].toNat) 128))) = .ok (.string (bs ((vb n).set m (UInt8.ofNat (((vb n)[m]).toNat % 128 + 128))))) (W3.setCell ⟨w'.heap.size, m, none⟩ (.int .u8 (bits .or .u8 ((vb n)[m].toNat) 128))) := by
        intro w'
        obtain ⟨cap, W3, hcv, R⟩ := bytes_of (bs (vb n)) w'
        rw [hp] at hcv R
        rw [bs_data] at R
        exact ⟨cap, W3, hcv, R.2.1 m (by omega), (R.1 m (by omega)).2, R.2.2.1, room_str (room_upd R m (by omega) _ _ (or128' _)) (m + 1) cap hsl.out.symm⟩
      generalize (vb n).set m (UInt8.ofNat (((vb n)[m]).toNat % 128 + 128)) = y at *
      generalize (vb n)[m] = d at *
      have hyz : (bs y).size = m + 1 := by rw [size_bs]; exact hsl.out
      clear hm hn hsl
      go_enter Try.func4, Try.ntmps4
      go_wp2_with (first | (go_at_call 14; refine (hput _).mono ?_; rintro e w' ⟨rfl, hb⟩) | (go_at_call 16; refine (hword _).mono ?_; rintro e w' ⟨rfl, hb⟩; obtain ⟨cap, W3, q1, q2, q3, q4, q5⟩ := R3 w') | (go_at_call 10; with_reducible refine (g1 _).mono ?_; rintro e w' ⟨rfl, rfl⟩) | (go_at_call 11; with_reducible refine (g2 _).mono ?_; rintro e w' ⟨rfl, rfl⟩) | (go_at_call 10; with_reducible refine (g3 _).mono ?_; rintro e w' ⟨rfl, rfl⟩) | (go_at_call 11; with_reducible refine (g4 _).mono ?_; rintro e w' ⟨rfl, rfl⟩) | (go_at_call 18; refine (err_z _ _ (by omega) (by omega)).mono ?_; rintro e w' ⟨rfl, rfl⟩) | (go_at_call 10; with_reducible refine (g5 _).mono ?_; rintro e w' ⟨rfl, rfl⟩) | (go_at_call 10; with_reducible refine (g6 _).mono ?_; rintro e w' ⟨rfl, rfl⟩) | (go_at_call 9; refine (awake_any _).mono ?_; rintro e w' ⟨rfl, hb⟩) | go_in)
      go_ret
      exact ⟨rfl, by repeat (first | assumption | refine bsc ?_ (by assumption) _ _ | refine bt ?_ (by assumption))⟩
theorem walk (a0 : Int) (a1 : ByteArray) (a2 : ByteArray) (a3 : Int) (w0 : (Lit.int .u64 a0).wf = true) (w1 : a1.size ≤ maxLen) (w2 : a2.size ≤ maxLen) (w3 : (Lit.int .u8 a3).wf = true) (w : World) :
    Calls Try.prog 4 #[.int .u64 a0, .string a1, .string a2, .int .u8 a3] w fun e w' => e = .returned (.bool true) ∧ Below w.heap.size w w' := by
  unfold maxLen at w1 w2
  have n0 := bounds_u64 w0
  have n3 := bounds_u8 w3
  obtain ⟨n, rfl⟩ := Int.eq_ofNat_of_zero_le n0.1
  obtain ⟨c, rfl⟩ := Int.eq_ofNat_of_zero_le n3.1
  exact core n a1 a2 c w (by omega) w1 w2 (by omega)

/-! ### THE ROW's STEP: WRITTEN OUT: LEAVE IT -/
set_option maxRecDepth 100000 in
theorem lifted (os : Os) (started : os.Started) (H : Type) (enc : TypeId × Value → H) :
    ReturnsInHanded {} Try.checked os 4 .any (Rows.vintBackSpec.pre6 enc Try.prog Try.f4 Rows.vintBackRow.domain false) (Rows.vintBackSpec.post enc Try.prog Try.f4 false true false false) := by
  refine returnsInHanded_of_change (C := Try.checked) own started (by kernel_rfl) Try.func4
    (ChangeSpec.witness6 (enc := enc) (C := Try.checked) false ⟨#[], #[.int .u64 0, .string ByteArray.empty, .string ByteArray.empty, .int .u8 0], []⟩ 8 (by kernel_rfl) (by kernel_rfl) (by kernel_rfl) (by kernel_rfl)) ?_
  intro W base args ds gs before hval0 hW hcnd _
  have hval : ∀ (j : Nat) t v, Try.f4.params[j]? = some t → args[j]? = some v → Value.okWide Try.prog W .any base t v := hval0
  have hW' := hW
  obtain ⟨p, q, hA0, hV, rfl, hfz, hnd⟩ := hW
  have hA : DataW.TrodAll enc Try.prog W 0 (fun _ => true) true Try.f4.params.toList args.toList ds p := hA0
  rw [Try.params4] at hA hval
  obtain ⟨v0, vs0, d0, ds0, p0, q0, hargs, rfl, rfl, h0, r0⟩ := trodAll_cons hA
  obtain ⟨v1, vs1, d1, ds1, p1, q1, rfl, rfl, rfl, h1, r1⟩ := trodAll_cons r0
  obtain ⟨v2, vs2, d2, ds2, p2, q2, rfl, rfl, rfl, h2, r2⟩ := trodAll_cons r1
  obtain ⟨v3, vs3, d3, ds3, p3, q3, rfl, rfl, rfl, h3, r3⟩ := trodAll_cons r2
  obtain ⟨rfl, rfl, rfl⟩ := trodAll_nil r3
  obtain rfl : args = #[v0, v1, v2, v3] := by cases args; simp_all
  obtain ⟨rfl, rfl⟩ := trodVars_none hV
  obtain ⟨a0, rfl, rfl, rfl, w0⟩ := open_int Try.underlying22 (hval 0 22 v0 rfl rfl) h0
  obtain ⟨a1, rfl, rfl, rfl, w1⟩ := open_string Try.underlying9 (hval 1 9 v1 rfl rfl) h1
  obtain ⟨a2, rfl, rfl, rfl, w2⟩ := open_string Try.underlying9 (hval 2 9 v2 rfl rfl) h2
  obtain ⟨a3, rfl, rfl, rfl, w3⟩ := open_int Try.underlying5 (hval 3 5 v3 rfl rfl) h3
  clear hA0 hval0
  refine (walk a0 a1 a2 a3 w0 w1 w2 w3 W).mono fun e W' ⟨he, bel⟩ => ?_
  subst he
  exact ⟨_, rfl, _, _, _, [], _, [], hW', (trodAll_cons_mk (shut_bool Try.underlying4 _) trodAll_mk0), (trodAll_cons_mk (shut_int Try.underlying22 w0) (trodAll_cons_mk (shut_string Try.underlying9 w1) (trodAll_cons_mk (shut_string Try.underlying9 w2) (trodAll_cons_mk (shut_int Try.underlying5 w3) trodAll_mk0)))), rfl, bel.frame _, fun h => by cases h⟩

theorem over : Rows.vintBackRow.holds Try.pinned (OpenSpec.ofChange Rows.vintBackSpec) :=
  OpenClaim.holds_of_wide 4 Try.f4 rfl rfl rfl rfl rfl rfl rfl ⟨rfl, rfl, rfl, rfl, rfl⟩ rfl rfl rfl rfl rfl (by kernel_rfl) Try.func4 (by kernel_rfl)
    (of_decide_eq_true (by kernel_rfl)) (by unfold Func.isWrapper; first | (rw [if_pos (by decide +kernel)]; kernel_rfl) | (rw [if_neg (by decide +kernel)]; exact ⟨rfl, rfl⟩))
    (fun os started H enc _ => lifted os started H enc)

/-- ████ THE STATEMENT ████ -/
theorem proved : Rows.VintBackSaid :=
  over
end Go.Proofs.Ytpngpilgbiddgaa.vintBack

namespace Go.Proofs.Ytpngpilgbiddgaa
theorem vintBack_holds : Rows.VintBackSaid := vintBack.proved
#print axioms vintBack_holds
end Go.Proofs.Ytpngpilgbiddgaa
