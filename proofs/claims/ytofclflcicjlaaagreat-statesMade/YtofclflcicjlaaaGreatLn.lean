/-
  The standard library's bit length of numbers of 64 bits; condition: there is one bit at least.
-/
import Derived.Test.YtofclflcicjlaaaGreatRows
import Derived.Lib.Strings
import Derived.Lib.Slices
import Derived.Lib.Small
import Derived.Lib.Walk
import Derived.Lib.BitFns
namespace Go.Proofs.YtofclflcicjlaaaGreat

theorem len_at (x b : Int) (k : Nat) (h0 : 0 ≤ x) (h1 : x < 18446744073709551616) (hk : 2 ^ k ≤ x ∨ k = 0) (hb : b = x / 2 ^ k) (hl : b ≤ 255) :
    Lib.len8 b + k = Lib.bitLen x.toNat ∧ 0 ≤ Lib.len8 b ∧ Lib.len8 b ≤ 8 := by
  have hp : (0 : Int) < 2 ^ k := Int.pow_pos (by omega)
  have hb0 : 0 ≤ b := by rw [hb]; exact Int.ediv_nonneg h0 (by omega)
  have hle := Lib.bitLen_le8' b hb0 hl
  rw [Lib.len8_of b hb0 hl]
  obtain ⟨n, rfl⟩ := Int.eq_ofNat_of_zero_le h0
  have e : b.toNat = n / 2 ^ k := by
    rw [hb]; exact_mod_cast congrArg Int.toNat (rfl : ((n / 2 ^ k : Nat) : Int) = _)
  rw [e] at hle ⊢
  simp only [Int.toNat_natCast]
  refine ⟨?_, by omega, by omega⟩
  rcases hk with hk | rfl
  · have := Lib.bitLen_shift k n (by exact_mod_cast hk) (by omega)
    omega
  · simp

set_option maxHeartbeats 1000000 in
set_option maxRecDepth 100000 in
theorem len64_any (x : Int) (w : World) (h0 : 0 ≤ x) (h1 : x ≤ 18446744073709551615) :
    Calls Tryz.prog 97 #[.int .u64 x] w fun e w' => e = .returned (.int .i64 (Lib.bitLen x.toNat)) ∧ w' = w := by
  go_enter Tryz.func97, Tryz.ntmps97
  go_wp2
  all_goals (go_ret; refine ⟨congrArg Ending.returned (congrArg (Value.int IntKind.i64) ?_), rfl⟩)
  · obtain ⟨_, _, _⟩ := len_at x (x / 4294967296 / 65536 / 256 % 256) 56 h0 (by omega) (by omega) (by omega) (by omega)
    omega
  · obtain ⟨_, _, _⟩ := len_at x (x / 4294967296 / 65536 % 256) 48 h0 (by omega) (by omega) (by omega) (by omega)
    omega
  · obtain ⟨_, _, _⟩ := len_at x (x / 4294967296 / 256 % 256) 40 h0 (by omega) (by omega) (by omega) (by omega)
    omega
  · obtain ⟨_, _, _⟩ := len_at x (x / 4294967296 % 256) 32 h0 (by omega) (by omega) (by omega) (by omega)
    omega
  · obtain ⟨_, _, _⟩ := len_at x (x / 65536 / 256 % 256) 24 h0 (by omega) (by omega) (by omega) (by omega)
    omega
  · obtain ⟨_, _, _⟩ := len_at x (x / 65536 % 256) 16 h0 (by omega) (by omega) (by omega) (by omega)
    omega
  · obtain ⟨_, _, _⟩ := len_at x (x / 256 % 256) 8 h0 (by omega) (by omega) (by omega) (by omega)
    omega
  · obtain ⟨_, _, _⟩ := len_at x (x % 256) 0 h0 (by omega) (by omega) (by omega) (by omega)
    omega
theorem bitLen_log2 : ∀ x : Nat, 0 < x → x < 2 ^ 64 → Lib.bitLen x = Nat.log2 x + 1 := by
  intro x
  induction x using Nat.strongRecOn with
  | ind x ih =>
    intro h0 h1
    rw [Lib.bitLen_half x (by omega) h1, Nat.log2_def]
    by_cases h : 2 ≤ x
    · rw [if_pos h, ih (x / 2) (by omega) (by omega) (by omega)]; omega
    · rw [if_neg h]
      obtain rfl : x = 1 := by omega
      decide
theorem blen_any (x : Nat) (w : World) (h0 : 0 < x) (h1 : x ≤ 100000) :
    Calls Tryz.prog 73 #[.int .u64 (x : Int)] w fun e w' => e = .returned (.int .i64 ((Nat.log2 x + 1 : Nat) : Int)) ∧ w' = w := by
  have LE := len64_any (x : Int) w (by omega) (by omega)
  rw [Int.toNat_natCast, bitLen_log2 x h0 (by omega)] at LE
  go_enter Tryz.func73, Tryz.ntmps73
  go_wp2_with fail
  with_reducible refine LE.mono ?_
  rintro e w1 ⟨rfl, rfl⟩
  clear LE
  go_wp2_with fail
  go_ret
  exact ⟨rfl, rfl⟩
end Go.Proofs.YtofclflcicjlaaaGreat
