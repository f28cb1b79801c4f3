/-
  The reference's rol, Round, GetWord: what they return.
-/
import Derived.Test.YtlmkdadhdeielaaSum
namespace Go.Proofs.Ytlmkdadhdeielaa
open Go.ChangeShapes Go.WideShapes Go.ChangeAt Go.RowKit
open Go.ChangeMaps (open_string shut_string)

set_option maxRecDepth 100000 in
theorem refRol_any (x k : Nat) (hx : x < 18446744073709551616) (hk : k < 64) (w : World) :
    Calls Try.prog 19 #[.int .u64 x, .int .i64 k] w fun e w' => e = .returned (.int .u64 (rol x k : Nat)) ∧ ∃ m, w' = w.drewN m := by
  have e2 := rol_bits x k hx hk
  have e3 : IntKind.i64.wrap (64 - (k : Int)) = ((64 - k : Nat) : Int) := by rw [IntKind.wrap_i64]; omega
  have e4 : min (64 - k) 64 = 64 - k := by omega
  generalize 64 - k = j at *
  go_enter Try.func19, Try.ntmps19
  go_wp2
  go_quiet (fail)
  go_wp2
  go_ret
  exact ⟨rfl, nq, rfl⟩

theorem refRound_any (a x : Nat) (w : World) :
    Calls Try.prog 17 #[.int .u64 a, .int .u64 x] w fun e w' => e = .returned (.int .u64 (rnd a x : Nat)) ∧ ∃ m, w' = w.drewN m := by
  have e1 := rnd_bits a x
  have l1 := m64 (a + x * 14029467366897019727)
  have e : Hid (rol ((a + x * 14029467366897019727) % 18446744073709551616) 31 * 11400714785074694791 % 18446744073709551616 = rnd a x) := rfl
  generalize (a + x * 14029467366897019727) % 18446744073709551616 = y at *
  have hr := fun w => refRol_any y 31 l1 (by decide) w
  have l2 := rol_lt y 31 l1 (by decide)
  generalize rol y 31 = z at *
  have e2 := mul1_bits z
  have l3 := m64 (z * 11400714785074694791)
  generalize z * 11400714785074694791 % 18446744073709551616 = v at *
  go_enter Try.func17, Try.ntmps17
  go_wp2_with (first | (go_at_call 19; refine (hr _).mono ?_; rintro e w' ⟨rfl, m, rfl⟩) | go_in)
  go_ret
  exact ⟨ret64 e.out, m, rfl⟩

theorem drop_take_snoc (s : ByteArray) (a k : Nat) (h : a + k < s.size) : (s.data.toList.drop a).take (k + 1) = (s.data.toList.drop a).take k ++ [s[a + k]] := by
  rw [List.take_succ_eq_append_getElem (by rw [List.length_drop, len_data]; omega), List.getElem_drop]; rfl
theorem drop_take_len (s : ByteArray) (a k : Nat) (h : a + k ≤ s.size) : ((s.data.toList.drop a).take k).length = k := by
  rw [List.length_take, List.length_drop, len_data]; omega
def GRel (s : ByteArray) (a : Nat) (nv iv : Value) : Prop := ∃ k : Nat, k ≤ 8 ∧ iv = .int .i64 k ∧ nv = .int .u64 (wval ((s.data.toList.drop a).take k))
def agg3 (x y z : Int) : Value := .agg #[.int .u64 x, .int .i64 y, .int .i64 z]

set_option maxRecDepth 100000 in
set_option maxHeartbeats 1000000 in
theorem refGet_any (s : ByteArray) (a : Nat) (ha : a + 8 ≤ s.size) (hs : s.size ≤ 9223372036854775807) (w : World) :
    Calls Try.prog 18 #[.string s, .int .i64 a] w fun e w' => e = .returned (agg3 (wval ((s.data.toList.drop a).take 8) : Nat) (a + 8 : Nat) 0) ∧ Below w.heap.size w w' := by
  have e1 : IntKind.i64.wrap ((a : Int) + 8) = ((a + 8 : Nat) : Int) := by rw [IntKind.wrap_i64]; omega
  have e0 : ¬ (s.size : Int) < ((a + 8 : Nat) : Int) := by omega
  generalize hb : a + 8 = b at *
  go_enter Try.func18, Try.ntmps18
  go_wp2
  go_loop [5, 6] (fun nv iv => GRel s a nv iv) (fun _ iv => 8 - (intOf iv).toNat)
  case atStart => exact ⟨0, by omega, rfl, by simp [wval]⟩
  case round =>
    obtain ⟨k, hk, rfl, rfl⟩ := hrel
    by_cases hlt : k < 8
    · have l2 : a + k < s.size := by omega
      have hbb := word_bits ((s.data.toList.drop a).take k) s[a + k] k (drop_take_len s a k (by omega)) (by omega)
      rw [← drop_take_snoc s a k l2] at hbb
      have e2 : IntKind.i64.wrap ((a : Int) + (k : Int)) = ((a + k : Nat) : Int) := by rw [IntKind.wrap_i64]; omega
      generalize wval ((s.data.toList.drop a).take k) = v at *
      obtain ⟨v', hv'⟩ : ∃ v', wval ((s.data.toList.drop a).take (k + 1)) = v' := ⟨_, rfl⟩
      rw [hv'] at hbb
      replace hv' := hidI hv'
      go_wp2
      go_round
      case rel => exact ⟨k + 1, by omega, by go_num, by rw [hv'.out]⟩
      case measure => simp [intOf]; omega
    · obtain rfl : k = 8 := by omega
      obtain ⟨v, hv⟩ : ∃ v, wval ((s.data.toList.drop a).take 8) = v := ⟨_, rfl⟩
      simp only [hv]
      replace hv := hidI hv
      go_wp2
      exact bodyPost_ret (v := agg3 v b 0) (by simp [results, Try.results18, go_sem, agg3]) rfl ⟨by rw [hv.out], (Below.refl _ _).alloc (Nat.le_refl _) _⟩
end Go.Proofs.Ytlmkdadhdeielaa
