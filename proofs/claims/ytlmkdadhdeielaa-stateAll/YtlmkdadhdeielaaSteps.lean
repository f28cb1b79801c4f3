/-
  RotateLeft64, Round, Mix: what they return, for all numbers.
-/
import Derived.Test.YtlmkdadhdeielaaRows
import Derived.Test.YtlmkdadhdeielaaMath
import Derived.WalkKit
import Derived.ProofKit
import Derived.OpenShut
import Derived.ArgAppend
import Derived.Laws.IdiomStrings
import Derived.Deep.Heap
import Derived.Below
namespace Go.Proofs.Ytlmkdadhdeielaa
open Go.ChangeShapes Go.WideShapes Go.ChangeAt Go.RowKit
open Go.ChangeMaps (open_string shut_string)

theorem ret64 {x y : Nat} (h : x = y) : Ending.returned (.int .u64 (x : Int)) = .returned (.int .u64 (y : Int)) := by rw [h]
theorem wrapN (n : Nat) : IntKind.u64.wrap (n : Int) = ((n % 18446744073709551616 : Nat) : Int) := by
  simp only [IntKind.wrap, IntKind.bits, IntKind.signed]; simp
theorem wrapAdd (a b : Nat) : IntKind.u64.wrap ((a : Int) + (b : Int)) = (((a + b) % 18446744073709551616 : Nat) : Int) := by
  rw [← wrapN]; simp
theorem wrapMul (a b : Nat) : IntKind.u64.wrap ((a : Int) * (b : Int)) = (((a * b) % 18446744073709551616 : Nat) : Int) := by
  rw [← wrapN]; simp
theorem and63 (k : Nat) (hk : k < 64) : bits .and .u64 (k : Int) 63 = (k : Int) := by
  rw [show (63 : Int) = ((63 : Nat) : Int) from rfl, u64_and_nat _ _ (by omega) (by omega), nat_mask6, Nat.mod_eq_of_lt hk]
theorem castDiv (x p : Nat) : (x : Int) / (p : Int) = ((x / p : Nat) : Int) := by simp
theorem rol_bits (x k : Nat) (hx : x < 18446744073709551616) (hk : k < 64) : bits .or .u64 (IntKind.u64.wrap ((x : Int) * 2 ^ k)) ((x : Int) / 2 ^ (64 - k)) = ((rol x k : Nat) : Int) := by
  have p : ∀ n : Nat, (2 : Int) ^ n = ((2 ^ n : Nat) : Int) := fun n => by simp
  have e : (2 : Nat) ^ (64 - k) * 2 ^ k = 18446744073709551616 := by rw [← Nat.pow_add, Nat.sub_add_cancel (by omega)]
  have h2 : x / 2 ^ (64 - k) < 2 ^ k := by rw [Nat.div_lt_iff_lt_mul (Nat.pow_pos (by decide)), Nat.mul_comm, e]; exact hx
  rw [p, p, wrapMul, castDiv, u64_or_nat _ _ (m64 _) (div_lt64 _ _ hx), shl_mod x k (by omega), Nat.or_comm, or_hi _ _ _ h2, Nat.add_comm]
  rfl

set_option maxRecDepth 100000 in
theorem rot_any (x k : Nat) (hx : x < 18446744073709551616) (hk : k < 64) (w : World) :
    Calls Try.prog 39 #[.int .u64 x, .int .i64 k] w fun e w' => e = .returned (.int .u64 (rol x k : Nat)) ∧ w' = w := by
  have e1 := and63 k hk
  have e2 := rol_bits x k hx hk
  go_enter Try.func39, Try.ntmps39
  go_wp2
  go_ret
  exact ⟨rfl, rfl⟩

theorem mixA_bits (x : Nat) (hx : x < 18446744073709551616) : IntKind.u64.wrap (bits .xor .u64 (x : Int) ((x : Int) / 8589934592) * 14029467366897019727) = ((mixA x : Nat) : Int) := by
  rw [show (x : Int) / 8589934592 = ((x / 8589934592 : Nat) : Int) from by simp, u64_xor_nat _ _ hx (div_lt64 _ _ hx), show (14029467366897019727 : Int) = ((14029467366897019727 : Nat) : Int) from rfl, wrapMul]
  rfl
theorem mixB_bits (x : Nat) (hx : x < 18446744073709551616) : IntKind.u64.wrap (bits .xor .u64 (x : Int) ((x : Int) / 536870912) * 1609587929392839161) = ((mixB x : Nat) : Int) := by
  rw [show (x : Int) / 536870912 = ((x / 536870912 : Nat) : Int) from by simp, u64_xor_nat _ _ hx (div_lt64 _ _ hx), show (1609587929392839161 : Int) = ((1609587929392839161 : Nat) : Int) from rfl, wrapMul]
  rfl
theorem mixC_bits (x : Nat) (hx : x < 18446744073709551616) : bits .xor .u64 (x : Int) ((x : Int) / 4294967296) = ((mixC x : Nat) : Int) := by
  rw [show (x : Int) / 4294967296 = ((x / 4294967296 : Nat) : Int) from by simp, u64_xor_nat _ _ hx (div_lt64 _ _ hx)]
  rfl

theorem mix_any (x : Nat) (hx : x < 18446744073709551616) (w : World) :
    Calls Try.prog 28 #[.int .u64 x] w fun e w' => e = .returned (.int .u64 (mix x : Nat)) ∧ w' = w := by
  have e1 := mixA_bits x hx
  have e2 := mixB_bits (mixA x) (mixA_lt x)
  have e3 := mixC_bits (mixB (mixA x)) (mixB_lt _)
  have e : Hid (mixC (mixB (mixA x)) = mix x) := rfl
  have l1 := mixA_lt x
  have l2 := mixB_lt (mixA x)
  generalize mixA x = a at *
  generalize mixB a = b at *
  generalize mixC b = c at *
  go_enter Try.func28, Try.ntmps28
  go_wp2
  go_ret
  exact ⟨ret64 e.out, rfl⟩

theorem refMix_any (x : Nat) (hx : x < 18446744073709551616) (w : World) :
    Calls Try.prog 20 #[.int .u64 x] w fun e w' => e = .returned (.int .u64 (mix x : Nat)) ∧ w' = w := by
  have e1 := mixA_bits x hx
  have e2 := mixB_bits (mixA x) (mixA_lt x)
  have e3 := mixC_bits (mixB (mixA x)) (mixB_lt _)
  have e : Hid (mixC (mixB (mixA x)) = mix x) := rfl
  have l1 := mixA_lt x
  have l2 := mixB_lt (mixA x)
  generalize mixA x = a at *
  generalize mixB a = b at *
  generalize mixC b = c at *
  go_enter Try.func20, Try.ntmps20
  go_wp2
  go_ret
  exact ⟨ret64 e.out, rfl⟩

theorem rnd_bits (a x : Nat) : IntKind.u64.wrap ((a : Int) + IntKind.u64.wrap ((x : Int) * 14029467366897019727)) = (((a + x * 14029467366897019727) % 18446744073709551616 : Nat) : Int) := by
  rw [show (14029467366897019727 : Int) = ((14029467366897019727 : Nat) : Int) from rfl, wrapMul, wrapAdd, Nat.add_mod, Nat.mod_mod, ← Nat.add_mod]
theorem mul1_bits (a : Nat) : IntKind.u64.wrap ((a : Int) * 11400714785074694791) = ((a * 11400714785074694791 % 18446744073709551616 : Nat) : Int) := by
  rw [show (11400714785074694791 : Int) = ((11400714785074694791 : Nat) : Int) from rfl, wrapMul]
theorem mul2_bits (a : Nat) : IntKind.u64.wrap ((a : Int) * 14029467366897019727) = ((a * 14029467366897019727 % 18446744073709551616 : Nat) : Int) := by
  rw [show (14029467366897019727 : Int) = ((14029467366897019727 : Nat) : Int) from rfl, wrapMul]
theorem mul5_bits (a : Nat) : IntKind.u64.wrap ((a : Int) * 2870177450012600261) = ((a * 2870177450012600261 % 18446744073709551616 : Nat) : Int) := by
  rw [show (2870177450012600261 : Int) = ((2870177450012600261 : Nat) : Int) from rfl, wrapMul]

theorem round_any (a x : Nat) (w : World) :
    Calls Try.prog 30 #[.int .u64 a, .int .u64 x] w fun e w' => e = .returned (.int .u64 (rnd a x : Nat)) ∧ w' = w := by
  have e1 := rnd_bits a x
  have l1 := m64 (a + x * 14029467366897019727)
  have e : Hid (rol ((a + x * 14029467366897019727) % 18446744073709551616) 31 * 11400714785074694791 % 18446744073709551616 = rnd a x) := rfl
  generalize (a + x * 14029467366897019727) % 18446744073709551616 = y at *
  have hr := fun w => rot_any y 31 l1 (by decide) w
  have l2 := rol_lt y 31 l1 (by decide)
  generalize rol y 31 = z at *
  have e2 := mul1_bits z
  have l3 := m64 (z * 11400714785074694791)
  generalize z * 11400714785074694791 % 18446744073709551616 = v at *
  go_enter Try.func30, Try.ntmps30
  go_wp2_with (first | (go_at_call 39; refine (hr _).mono ?_; rintro e w' ⟨rfl, rfl⟩) | go_in)
  go_ret
  exact ⟨ret64 e.out, rfl⟩
end Go.Proofs.Ytlmkdadhdeielaa
