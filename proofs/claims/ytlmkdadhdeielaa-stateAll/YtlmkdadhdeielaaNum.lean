/-
  GetWord of eight bytes, number, and the steps of a hash and of a lane: what they return, for all texts of as many bytes as they are handed.
-/
import Derived.Test.YtlmkdadhdeielaaSteps
namespace Go.Proofs.Ytlmkdadhdeielaa
open Go.ChangeShapes Go.WideShapes Go.ChangeAt Go.RowKit
open Go.ChangeMaps (open_string shut_string)

theorem pow_lt63 (k : Nat) (hk : k ≤ 63) : (2 : Nat) ^ k ≤ 9223372036854775808 := by
  have h : (2 : Nat) ^ k ≤ 2 ^ 63 := Nat.pow_le_pow_right (by decide) hk
  have e : (2 : Nat) ^ 63 = 9223372036854775808 := by decide
  omega
theorem or_shl (a x k : Nat) (ha : a < 2 ^ k) (hk : k ≤ 63) : bits .or .u64 (a : Int) (IntKind.u64.wrap ((x : Int) * 2 ^ k)) = ((a + x * 2 ^ k % 18446744073709551616 : Nat) : Int) := by
  have e : IntKind.u64.wrap ((x : Int) * 2 ^ k) = ((x * 2 ^ k % 18446744073709551616 : Nat) : Int) := by
    rw [show (2 : Int) ^ k = ((2 ^ k : Nat) : Int) from by simp, wrapMul]
  have h := pow_lt63 k hk
  rw [e, u64_or_nat a _ (by omega) (m64 _), shl_mod x k (by omega), or_hi a _ k ha]
theorem wrap_small (x : Nat) (h : x < 256) : IntKind.u64.wrap (x : Int) = (x : Int) := by
  simp only [IntKind.wrap, IntKind.bits, IntKind.signed]; simp; omega
theorem pow256 (k : Nat) : (2 : Nat) ^ (8 * k) = 256 ^ k := by rw [Nat.pow_mul]
theorem take_snoc (s : ByteArray) (k : Nat) (h : k < s.size) : s.data.toList.take (k + 1) = s.data.toList.take k ++ [s[k]] := by
  rw [List.take_succ_eq_append_getElem (by simpa using h)]; rfl
theorem take_len (s : ByteArray) (k : Nat) (h : k ≤ s.size) : (s.data.toList.take k).length = k := by
  rw [List.length_take, Array.length_toList]; exact Nat.min_eq_left h
theorem word_bits (l : List UInt8) (c : UInt8) (k : Nat) (hl : l.length = k) (hk : k ≤ 7) :
    bits .or .u64 (wval l : Int) (IntKind.u64.wrap (IntKind.u64.wrap c.toNat * 2 ^ (8 * k))) = ((wval (l ++ [c]) : Nat) : Int) := by
  have h := wval_lt l
  have hc := c.toNat_lt
  rw [hl] at h
  rw [wrap_small _ hc, or_shl _ _ _ (by rw [pow256]; exact h) (by omega), pow256, wval_snoc, hl, Nat.mod_eq_of_lt]
  have h1 : (256 : Nat) ^ k ≤ 256 ^ 7 := Nat.pow_le_pow_right (by decide) (by omega)
  have h2 : c.toNat * 256 ^ k ≤ 255 * 256 ^ 7 := Nat.mul_le_mul (by omega) h1
  have e : (256 : Nat) ^ 7 = 72057594037927936 := by decide
  rw [e] at h2
  omega

def WRel (s : ByteArray) (nv iv : Value) : Prop := ∃ k : Nat, k ≤ 8 ∧ iv = .int .i64 k ∧ nv = .int .u64 (wval (s.data.toList.take k))

set_option maxRecDepth 100000 in
set_option maxHeartbeats 1000000 in
theorem wordt_any (s : ByteArray) (w : World) (h8 : s.size = 8) :
    Calls Try.prog 47 #[.string s] w fun e w' => e = .returned (.tuple #[.int .u64 (wval s.data.toList : Nat), .int .i64 8, .int .i64 0]) ∧ w' = w := by
  have N : Hid (s.data.toList.take 8 = s.data.toList) := List.take_of_length_le (by rw [Array.length_toList]; exact Nat.le_of_eq h8)
  go_enter Try.func47, Try.ntmps47
  go_wp2
  go_loop [5, 10] (fun nv iv => WRel s nv iv) (fun _ iv => 8 - (intOf iv).toNat)
  case atStart => exact ⟨0, by omega, rfl, by simp [wval]⟩
  case round =>
    obtain ⟨k, hk, rfl, rfl⟩ := hrel
    by_cases hlt : k < 8
    · have l2 : k < s.size := by omega
      have hb := word_bits (s.data.toList.take k) s[k] k (take_len s k (by omega)) (by omega)
      rw [← take_snoc s k l2] at hb
      go_wp2
      go_round
      case rel => exact ⟨k + 1, by omega, by go_num, rfl⟩
      case measure => simp [intOf]; omega
    · obtain rfl : k = 8 := by omega
      go_wp2
      go_ret3
      exact ⟨by rw [N.out]; rfl, rfl⟩

theorem extract_all (s : ByteArray) : s.extract 0 s.size = s := by
  apply Go.WideShapes.bytes_inj
  rw [ByteArray.data_extract, Array.toList_extract]
  show (s.data.toList.drop 0).take (s.size - 0) = _
  rw [List.drop_zero]
  exact List.take_of_length_le (by rw [Array.length_toList]; exact Nat.le_refl _)

set_option maxRecDepth 100000 in
theorem read_any (s : ByteArray) (w : World) (h8 : s.size = 8) :
    Calls Try.prog 46 #[.string s, .int .i64 0, .func (.func 47) #[] #[]] w fun e w' => e = .returned (.tuple #[.int .u64 (wval s.data.toList : Nat), .int .i64 8, .int .i64 0]) ∧ w' = w := by
  have c := fun w => wordt_any s w h8
  have e := extract_all s
  rw [h8] at e
  generalize wval s.data.toList = v at *
  go_enter Try.func46, Try.ntmps46
  go_wp2_with (first | (go_at_call 47; refine (c _).mono ?_; rintro e w' ⟨rfl, rfl⟩) | go_in)
  go_ret3
  exact ⟨rfl, rfl⟩

set_option maxRecDepth 100000 in
theorem getword_any (s : ByteArray) (w : World) (h8 : s.size = 8) :
    Calls Try.prog 45 #[.string s, .int .i64 0] w fun e w' => e = .returned (.tuple #[.int .u64 (wval s.data.toList : Nat), .int .i64 8, .int .i64 0]) ∧ w' = w := by
  have c := fun w => read_any s w h8
  generalize wval s.data.toList = v at *
  go_enter Try.func45, Try.ntmps45
  go_wp2_with (first | (go_at_call 46; refine (c _).mono ?_; rintro e w' ⟨rfl, rfl⟩) | go_in)
  go_ret3
  exact ⟨rfl, rfl⟩

theorem zeros_ext (k : Nat) (h : k ≤ 8) : ((⟨#[0, 0, 0, 0, 0, 0, 0, 0]⟩ : ByteArray).extract k 8).data.toList = List.replicate (8 - k) 0 := by
  have hc : k = 0 ∨ k = 1 ∨ k = 2 ∨ k = 3 ∨ k = 4 ∨ k = 5 ∨ k = 6 ∨ k = 7 ∨ k = 8 := by omega
  rcases hc with rfl | rfl | rfl | rfl | rfl | rfl | rfl | rfl | rfl <;> decide
theorem filled (s : ByteArray) (h : s.size ≤ 8) : (s ++ (⟨#[0, 0, 0, 0, 0, 0, 0, 0]⟩ : ByteArray).extract s.size 8).data.toList = s.data.toList ++ List.replicate (8 - s.size) 0 := by
  rw [ByteArray.data_append, Array.toList_append, zeros_ext _ h]
theorem filled_size (s : ByteArray) (h : s.size ≤ 8) : (s ++ (⟨#[0, 0, 0, 0, 0, 0, 0, 0]⟩ : ByteArray).extract s.size 8).size = 8 := by
  rw [← len_data, filled s h, List.length_append, List.length_replicate, len_data]; omega

set_option maxRecDepth 100000 in
theorem number_any (s : ByteArray) (w : World) (hs : s.size ≤ 8) :
    Calls Try.prog 38 #[.string s] w fun e w' => e = .returned (.int .u64 (wval s.data.toList : Nat)) ∧ w' = w := by
  have c := fun w => getword_any (s ++ (⟨#[0, 0, 0, 0, 0, 0, 0, 0]⟩ : ByteArray).extract s.size 8) w (filled_size s hs)
  rw [filled s hs, wval_zeros] at c
  generalize wval s.data.toList = v at *
  go_enter Try.func38, Try.ntmps38
  go_wp2_with (first | (go_at_call 45; refine (c _).mono ?_; rintro e w' ⟨rfl, rfl⟩) | go_in)
  go_ret
  exact ⟨rfl, rfl⟩

theorem with_any (h n k : Nat) (hh : h < 18446744073709551616) (hn : n < 18446744073709551616) (hk : k < 64) (w : World) :
    Calls Try.prog 37 #[.int .u64 h, .int .u64 n, .int .i64 k] w fun e w' => e = .returned (.int .u64 (rol (h ^^^ n) k : Nat)) ∧ w' = w := by
  have e := u64_xor_nat h n hh hn
  have c := fun w => rot_any (h ^^^ n) k (xor_lt _ _ hh hn) hk w
  generalize h ^^^ n = x at *
  go_enter Try.func37, Try.ntmps37
  go_wp2_with (first | (go_at_call 39; refine (c _).mono ?_; rintro e w' ⟨rfl, rfl⟩) | go_in)
  go_ret
  exact ⟨rfl, rfl⟩

theorem turned_any (h k : Nat) (hh : h < 18446744073709551616) (hk : k < 64) (w : World) :
    Calls Try.prog 43 #[.int .u64 h, .int .i64 k] w fun e w' => e = .returned (.int .u64 (rol h k : Nat)) ∧ w' = w := by
  have c := fun w => rot_any h k hh hk w
  go_enter Try.func43, Try.ntmps43
  go_wp2_with (first | (go_at_call 39; refine (c _).mono ?_; rintro e w' ⟨rfl, rfl⟩) | go_in)
  go_ret
  exact ⟨rfl, rfl⟩

theorem p4_bits (a : Nat) : IntKind.u64.wrap (((a % 18446744073709551616 : Nat) : Int) + 9650029242287828579) = (((a + 9650029242287828579) % 18446744073709551616 : Nat) : Int) := by
  rw [show (9650029242287828579 : Int) = ((9650029242287828579 : Nat) : Int) from rfl, wrapAdd, Nat.add_mod, Nat.mod_mod, ← Nat.add_mod]
theorem p3_bits (a : Nat) : IntKind.u64.wrap (((a % 18446744073709551616 : Nat) : Int) + 1609587929392839161) = (((a + 1609587929392839161) % 18446744073709551616 : Nat) : Int) := by
  rw [show (1609587929392839161 : Int) = ((1609587929392839161 : Nat) : Int) from rfl, wrapAdd, Nat.add_mod, Nat.mod_mod, ← Nat.add_mod]

theorem mulP14 (x : Nat) : ∃ y : Nat, IntKind.u64.wrap ((x : Int) * 11400714785074694791) = (y : Int) ∧ IntKind.u64.wrap ((y : Int) + 9650029242287828579) = (((x * 11400714785074694791 + 9650029242287828579) % 18446744073709551616 : Nat) : Int) :=
  ⟨_, mul1_bits x, p4_bits _⟩
theorem mulP23 (x : Nat) : ∃ y : Nat, IntKind.u64.wrap ((x : Int) * 14029467366897019727) = (y : Int) ∧ IntKind.u64.wrap ((y : Int) + 1609587929392839161) = (((x * 14029467366897019727 + 1609587929392839161) % 18446744073709551616 : Nat) : Int) :=
  ⟨_, mul2_bits x, p3_bits _⟩
theorem hlane_def (h l r : Nat) (hr : rnd 0 l = r) : ((h ^^^ r) * 11400714785074694791 + 9650029242287828579) % 18446744073709551616 = hlane h l := by rw [← hr]; rfl
theorem hword_def (h : Nat) (l : List UInt8) (r : Nat) (hr : rnd 0 (wval l) = r) : (rol (h ^^^ r) 27 * 11400714785074694791 + 9650029242287828579) % 18446744073709551616 = hword h l := by rw [← hr]; rfl
theorem hhalf_def (h : Nat) (l : List UInt8) (r : Nat) (hr : wval l * 11400714785074694791 % 18446744073709551616 = r) : (rol (h ^^^ r) 23 * 14029467366897019727 + 1609587929392839161) % 18446744073709551616 = hhalf h l := by rw [← hr]; rfl
theorem hsingle_def (h : Nat) (l : List UInt8) (r : Nat) (hr : wval l * 2870177450012600261 % 18446744073709551616 = r) : rol (h ^^^ r) 11 * 11400714785074694791 % 18446744073709551616 = hsingle h l := by rw [← hr]; rfl

theorem hlane_any (h l : Nat) (hh : h < 18446744073709551616) (w : World) :
    Calls Try.prog 44 #[.int .u64 h, .int .u64 l] w fun e w' => e = .returned (.int .u64 (hlane h l : Nat)) ∧ w' = w := by
  have c := fun w => round_any 0 l w
  have lr := rnd_lt 0 l
  obtain ⟨r, hr⟩ : ∃ r, rnd 0 l = r := ⟨_, rfl⟩
  rw [hr] at c lr
  obtain ⟨y, e2, e3⟩ := mulP14 (h ^^^ r)
  rw [hlane_def h l r hr] at e3
  have e1 := u64_xor_nat h r hh lr
  clear hr
  generalize h ^^^ r = x at e1 e2
  generalize hlane h l = z at *
  go_enter Try.func44, Try.ntmps44
  go_wp2_with (first | (go_at_call 30; refine (c _).mono ?_; rintro e w' ⟨rfl, rfl⟩) | go_in)
  go_ret
  exact ⟨rfl, rfl⟩

theorem lword_any (l : Nat) (s : ByteArray) (hs : s.size = 8) (w : World) :
    Calls Try.prog 42 #[.int .u64 l, .string s] w fun e w' => e = .returned (.int .u64 (rnd l (wval s.data.toList) : Nat)) ∧ w' = w := by
  have cn := fun w => number_any s w (by omega)
  have c := fun w => round_any l (wval s.data.toList) w
  generalize rnd l (wval s.data.toList) = r at *
  generalize wval s.data.toList = v at *
  go_enter Try.func42, Try.ntmps42
  go_wp2_with (first | (go_at_call 38; refine (cn _).mono ?_; rintro e w' ⟨rfl, rfl⟩) | (go_at_call 30; refine (c _).mono ?_; rintro e w' ⟨rfl, rfl⟩) | go_in)
  go_ret
  exact ⟨rfl, rfl⟩

theorem hword_any (h : Nat) (s : ByteArray) (hh : h < 18446744073709551616) (hs : s.size = 8) (w : World) :
    Calls Try.prog 25 #[.int .u64 h, .string s] w fun e w' => e = .returned (.int .u64 (hword h s.data.toList : Nat)) ∧ w' = w := by
  have cn := fun w => number_any s w (by omega)
  have c := fun w => round_any 0 (wval s.data.toList) w
  have lr := rnd_lt 0 (wval s.data.toList)
  obtain ⟨r, hr⟩ : ∃ r, rnd 0 (wval s.data.toList) = r := ⟨_, rfl⟩
  rw [hr] at c lr
  have cw := fun w => with_any h r 27 hh lr (by decide) w
  obtain ⟨y, e2, e3⟩ := mulP14 (rol (h ^^^ r) 27)
  rw [hword_def h _ r hr] at e3
  clear hr
  generalize rol (h ^^^ r) 27 = x at *
  generalize hword h s.data.toList = z at *
  generalize wval s.data.toList = v at *
  go_enter Try.func25, Try.ntmps25
  go_wp2_with (first | (go_at_call 38; refine (cn _).mono ?_; rintro e w' ⟨rfl, rfl⟩) | (go_at_call 30; refine (c _).mono ?_; rintro e w' ⟨rfl, rfl⟩) | (go_at_call 37; refine (cw _).mono ?_; rintro e w' ⟨rfl, rfl⟩) | go_in)
  go_ret
  exact ⟨rfl, rfl⟩

theorem hhalf_any (h : Nat) (s : ByteArray) (hh : h < 18446744073709551616) (hs : s.size = 4) (w : World) :
    Calls Try.prog 26 #[.int .u64 h, .string s] w fun e w' => e = .returned (.int .u64 (hhalf h s.data.toList : Nat)) ∧ w' = w := by
  have cn := fun w => number_any s w (by omega)
  have c := mul1_bits (wval s.data.toList)
  have lr := m64 (wval s.data.toList * 11400714785074694791)
  obtain ⟨r, hr⟩ : ∃ r, wval s.data.toList * 11400714785074694791 % 18446744073709551616 = r := ⟨_, rfl⟩
  rw [hr] at c lr
  have cw := fun w => with_any h r 23 hh lr (by decide) w
  obtain ⟨y, e2, e3⟩ := mulP23 (rol (h ^^^ r) 23)
  rw [hhalf_def h _ r hr] at e3
  clear hr
  generalize rol (h ^^^ r) 23 = x at *
  generalize hhalf h s.data.toList = z at *
  generalize wval s.data.toList = v at *
  go_enter Try.func26, Try.ntmps26
  go_wp2_with (first | (go_at_call 38; refine (cn _).mono ?_; rintro e w' ⟨rfl, rfl⟩) | (go_at_call 37; refine (cw _).mono ?_; rintro e w' ⟨rfl, rfl⟩) | go_in)
  go_ret
  exact ⟨rfl, rfl⟩

theorem hsingle_any (h : Nat) (s : ByteArray) (hh : h < 18446744073709551616) (hs : s.size = 1) (w : World) :
    Calls Try.prog 27 #[.int .u64 h, .string s] w fun e w' => e = .returned (.int .u64 (hsingle h s.data.toList : Nat)) ∧ w' = w := by
  have cn := fun w => number_any s w (by omega)
  have c := mul5_bits (wval s.data.toList)
  have lr := m64 (wval s.data.toList * 2870177450012600261)
  obtain ⟨r, hr⟩ : ∃ r, wval s.data.toList * 2870177450012600261 % 18446744073709551616 = r := ⟨_, rfl⟩
  rw [hr] at c lr
  have cw := fun w => with_any h r 11 hh lr (by decide) w
  have e2 := mul1_bits (rol (h ^^^ r) 11)
  rw [hsingle_def h _ r hr] at e2
  clear hr
  generalize rol (h ^^^ r) 11 = x at *
  generalize hsingle h s.data.toList = z at *
  generalize wval s.data.toList = v at *
  go_enter Try.func27, Try.ntmps27
  go_wp2_with (first | (go_at_call 38; refine (cn _).mono ?_; rintro e w' ⟨rfl, rfl⟩) | (go_at_call 37; refine (cw _).mono ?_; rintro e w' ⟨rfl, rfl⟩) | go_in)
  go_ret
  exact ⟨rfl, rfl⟩
end Go.Proofs.Ytlmkdadhdeielaa
