/-
  Plain mathematics for the laws: the lowest bits, how far bits carry an encoder.
-/
import Derived.Test.YtbmjehpkcelogaaOw
namespace Go.Proofs.Ytbmjehpkcelogaa
open Go.ChangeShapes Go.WideShapes Go.ChangeAt Go.RowKit
open Go.ChangeMaps (open_string shut_string)

theorem apart_nil {A B : Nat} (h : A ≠ B) : Apart A (.slice none 0 0) B (.slice none 0 0) := by
  rintro k (rfl | e) (g | g)
  · exact h g
  · simp [Value.ownBlock] at g
  · simp [Value.ownBlock] at e
  · simp [Value.ownBlock] at e
theorem low64 (x k : Nat) (hx : x < 18446744073709551616) (hk : k < 64) : bits .and .u64 (x : Int) (IntKind.u64.wrap (IntKind.u64.wrap ((2 : Int) ^ k) - 1)) = ((x % 2 ^ k : Nat) : Int) := by
  have h1 : 2 ^ k ≤ 2 ^ 63 := Nat.pow_le_pow_right (by decide) (by omega)
  have h2 : (2 : Nat) ^ 63 = 9223372036854775808 := rfl
  have h3 : 0 < 2 ^ k := Nat.pow_pos (by decide)
  have e : IntKind.u64.wrap (IntKind.u64.wrap ((2 : Int) ^ k) - 1) = ((2 ^ k - 1 : Nat) : Int) := by
    rw [IntKind.wrap_u64, IntKind.wrap_u64, show ((2 : Int) ^ k) = ((2 ^ k : Nat) : Int) from by simp]; omega
  rw [e, u64_and_nat _ _ hx (by omega), Nat.and_two_pow_sub_one_eq_mod]
theorem dir_low (v m : Nat) (st : Nat × Nat × Nat) : dirN (v / 2 ^ m % 2) 1 st = dirS (v.testBit m) st := by
  have h : (v / 2 ^ m % 2).testBit 0 = v.testBit m := by
    rw [show v / 2 ^ m % 2 = (v / 2 ^ m) % 2 ^ 1 from by simp, Nat.testBit_mod_two_pow, Nat.testBit_div_two_pow]; simp
  rw [dirN, dirN, h]
theorem dirS_up (b : Bool) (st : Nat × Nat × Nat) : (dirS b st).1 ≤ st.1 + 2 := by
  unfold dirS
  cases b <;> simp [nar, gr_le]
theorem dirN_up (v : Nat) : ∀ (n : Nat) (st : Nat × Nat × Nat), (dirN v n st).1 ≤ st.1 + 2 * n
  | 0, st => Nat.le_refl _
  | n + 1, st => by
    have h1 := dirS_up (v.testBit n) st
    have h2 := dirN_up v n (dirS (v.testBit n) st)
    rw [dirN]; omega
theorem bitS_up (p : Int) (b : Bool) (st : Nat × Nat × Nat) : (bitS p b st).1 ≤ st.1 + 2 := by
  unfold bitS
  cases b <;> simp [nar, gr_le]
end Go.Proofs.Ytbmjehpkcelogaa
