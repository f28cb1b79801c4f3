/-
  next, of a hash and of a lane: what it returns.
-/
import Derived.Test.YtlmkdadhdeielaaNum
import Derived.Deep.QuietTactic
import Derived.BigQuiet
namespace Go.Proofs.Ytlmkdadhdeielaa
open Go.ChangeShapes Go.WideShapes Go.ChangeAt Go.RowKit
open Go.ChangeMaps (open_string shut_string)

theorem cut_list (s : ByteArray) (k : Nat) : (s.extract 0 k).data.toList = s.data.toList.take k := by
  rw [ByteArray.data_extract, Array.toList_extract]
  show (s.data.toList.drop 0).take (k - 0) = _
  rw [List.drop_zero, Nat.sub_zero]
theorem cut_size (s : ByteArray) (k : Nat) (h : k ≤ s.size) : (s.extract 0 k).size = k := by
  rw [ByteArray.size_extract]; omega
theorem rest_list (s : ByteArray) (k : Nat) : (s.extract k s.size).data.toList = s.data.toList.drop k := by
  rw [ByteArray.data_extract, Array.toList_extract]
  show (s.data.toList.drop k).take (s.size - k) = _
  exact List.take_of_length_le (by rw [List.length_drop, Array.length_toList]; exact Nat.le_refl _)
theorem rest_size (s : ByteArray) (k : Nat) : (s.extract k s.size).size = s.size - k := by
  rw [ByteArray.size_extract]; omega

set_option maxRecDepth 100000 in
theorem next17 (h : Nat) (s : ByteArray) (hh : h < 18446744073709551616) (hs : 8 ≤ s.size) (w : World) :
    Calls Try.prog 36 #[.int .u64 h, .string s, .int .i64 8, .func (.func 25) #[] #[]] w fun e w' => e = .returned (.tuple #[.int .u64 (hword h (s.data.toList.take 8) : Nat), .string (s.extract 8 s.size)]) ∧ ∃ m, w' = w.drewN m := by
  have c := fun w => hword_any h (s.extract 0 8) hh (cut_size s 8 hs) w
  rw [cut_list] at c
  generalize hword h (s.data.toList.take 8) = z at *
  go_enter Try.func36, Try.ntmps36
  go_wp2
  go_quiet ((go_at_call 25; refine Calls.quiet_of_same (c _)))
  go_wp2
  go_ret2
  exact ⟨rfl, nq, rfl⟩

set_option maxRecDepth 100000 in
theorem next18 (h : Nat) (s : ByteArray) (hh : h < 18446744073709551616) (hs : 4 ≤ s.size) (w : World) :
    Calls Try.prog 36 #[.int .u64 h, .string s, .int .i64 4, .func (.func 26) #[] #[]] w fun e w' => e = .returned (.tuple #[.int .u64 (hhalf h (s.data.toList.take 4) : Nat), .string (s.extract 4 s.size)]) ∧ ∃ m, w' = w.drewN m := by
  have c := fun w => hhalf_any h (s.extract 0 4) hh (cut_size s 4 hs) w
  rw [cut_list] at c
  generalize hhalf h (s.data.toList.take 4) = z at *
  go_enter Try.func36, Try.ntmps36
  go_wp2
  go_quiet ((go_at_call 26; refine Calls.quiet_of_same (c _)))
  go_wp2
  go_ret2
  exact ⟨rfl, nq, rfl⟩

set_option maxRecDepth 100000 in
theorem next19 (h : Nat) (s : ByteArray) (hh : h < 18446744073709551616) (hs : 1 ≤ s.size) (w : World) :
    Calls Try.prog 36 #[.int .u64 h, .string s, .int .i64 1, .func (.func 27) #[] #[]] w fun e w' => e = .returned (.tuple #[.int .u64 (hsingle h (s.data.toList.take 1) : Nat), .string (s.extract 1 s.size)]) ∧ ∃ m, w' = w.drewN m := by
  have c := fun w => hsingle_any h (s.extract 0 1) hh (cut_size s 1 hs) w
  rw [cut_list] at c
  generalize hsingle h (s.data.toList.take 1) = z at *
  go_enter Try.func36, Try.ntmps36
  go_wp2
  go_quiet ((go_at_call 27; refine Calls.quiet_of_same (c _)))
  go_wp2
  go_ret2
  exact ⟨rfl, nq, rfl⟩

set_option maxRecDepth 100000 in
theorem next32 (h : Nat) (s : ByteArray) (hs : 8 ≤ s.size) (w : World) :
    Calls Try.prog 41 #[.int .u64 h, .string s, .int .i64 8, .func (.func 42) #[] #[]] w fun e w' => e = .returned (.tuple #[.int .u64 (rnd h (wval (s.data.toList.take 8)) : Nat), .string (s.extract 8 s.size)]) ∧ ∃ m, w' = w.drewN m := by
  have c := fun w => lword_any h (s.extract 0 8) (cut_size s 8 hs) w
  rw [cut_list] at c
  generalize rnd h (wval (s.data.toList.take 8)) = z at *
  go_enter Try.func41, Try.ntmps41
  go_wp2
  go_quiet ((go_at_call 42; refine Calls.quiet_of_same (c _)))
  go_wp2
  go_ret2
  exact ⟨rfl, nq, rfl⟩
end Go.Proofs.Ytlmkdadhdeielaa
