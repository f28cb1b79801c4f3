/-
  The standard library's bit length returns how many halvings a number takes till nothing is left, and leaves the world as it was; its condition: the number is one of 64 bits.
-/
import Derived.Test.YtnnecccnoemkpaaProg
import Derived.Lib.Strings
import Derived.Lib.Slices
import Derived.Lib.Small
import Derived.Lib.Walk
import Derived.Lib.BitFns
namespace Go.Proofs.Ytnnecccnoemkpaa

/-- The table's byte at what is left behind k bits, and k: the bits of all. -/
theorem len_at (x b : Int) (k : Nat) (h0 : 0 ≤ x) (h1 : x < 18446744073709551616) (hk : 2 ^ k ≤ x ∨ k = 0) (hb : b = x / 2 ^ k) (hl : b ≤ 255) :
    Lib.len8 b + k = Lib.bitLen x.toNat ∧ 0 ≤ Lib.len8 b ∧ Lib.len8 b ≤ 8 := by
  have hp : (0 : Int) < 2 ^ k := Int.pow_pos (by omega)
  have hb0 : 0 ≤ b := by rw [hb]; exact Int.ediv_nonneg h0 (by omega)
  have hle := Lib.bitLen_le8' b hb0 hl
  rw [Lib.len8_of b hb0 hl]
  obtain ⟨n, rfl⟩ := Int.eq_ofNat_of_zero_le h0
  have e : b.toNat = n / 2 ^ k := by
    rw [hb]; exact_mod_cast congrArg Int.toNat (rfl : ((n / 2 ^ k : Nat) : Int) = _)
  rw [e] at hle ⊢
  simp only [Int.toNat_natCast]
  refine ⟨?_, by omega, by omega⟩
  rcases hk with hk | rfl
  · have := Lib.bitLen_shift k n (by exact_mod_cast hk) (by omega)
    omega
  · simp

set_option maxHeartbeats 1000000 in
set_option maxRecDepth 100000 in
theorem len64_any (x : Int) (w : World) (h0 : 0 ≤ x) (h1 : x ≤ 18446744073709551615) :
    Calls Try.prog 40 #[.int .u64 x] w fun e w' => e = .returned (.int .i64 (Lib.bitLen x.toNat)) ∧ w' = w := by
  go_enter Try.func40, Try.ntmps40
  go_wp2
  all_goals (go_ret; refine ⟨congrArg Ending.returned (congrArg (Value.int IntKind.i64) ?_), rfl⟩)
  · obtain ⟨_, _, _⟩ := len_at x (x / 4294967296 / 65536 / 256 % 256) 56 h0 (by omega) (by omega) (by omega) (by omega)
    omega
  · obtain ⟨_, _, _⟩ := len_at x (x / 4294967296 / 65536 % 256) 48 h0 (by omega) (by omega) (by omega) (by omega)
    omega
  · obtain ⟨_, _, _⟩ := len_at x (x / 4294967296 / 256 % 256) 40 h0 (by omega) (by omega) (by omega) (by omega)
    omega
  · obtain ⟨_, _, _⟩ := len_at x (x / 4294967296 % 256) 32 h0 (by omega) (by omega) (by omega) (by omega)
    omega
  · obtain ⟨_, _, _⟩ := len_at x (x / 65536 / 256 % 256) 24 h0 (by omega) (by omega) (by omega) (by omega)
    omega
  · obtain ⟨_, _, _⟩ := len_at x (x / 65536 % 256) 16 h0 (by omega) (by omega) (by omega) (by omega)
    omega
  · obtain ⟨_, _, _⟩ := len_at x (x / 256 % 256) 8 h0 (by omega) (by omega) (by omega) (by omega)
    omega
  · obtain ⟨_, _, _⟩ := len_at x (x % 256) 0 h0 (by omega) (by omega) (by omega) (by omega)
    omega
end Go.Proofs.Ytnnecccnoemkpaa
