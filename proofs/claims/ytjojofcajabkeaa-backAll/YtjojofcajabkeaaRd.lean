/-
  Package back, the reader: its small functions, and where the mark stands.
-/
import Derived.Test.YtjojofcajabkeaaOwn
import Derived.Test.YtjojofcajabkeaaMark
import Derived.Lib.Strings
import Derived.Lib.Slices
import Derived.Lib.Small
import Derived.Lib.Walk
import Derived.Lib.BitFns
import Derived.Deep.QuietTactic
import Derived.BigQuiet
namespace Go.Proofs.Ytjojofcajabkeaa
open Go.ChangeShapes Go.WideShapes Go.ChangeAt Go.RowKit
open Go.ChangeMaps (open_string shut_string)

/-- Block A is a reader of s with a bits left. -/
def Rd (W : World) (A : Nat) (s : ByteArray) (a : Nat) : Prop := Blk W A #[.string s, .int .i64 a] 56
theorem rd_drew {W : World} {A : Nat} {s : ByteArray} {a : Nat} (h : Rd W A s a) : Rd W.drew A s a := h

theorem low_any (n L : Nat) (w : World) (h : n ≤ 8) (hL : L = 2 ^ n - 1) : Calls Try.prog 31 #[.int .i64 n] w fun e w' => e = .returned (.int .u8 L) ∧ w = w' := by
  have H : Hid (L = 2 ^ n - 1) := hL
  clear hL
  go_enter Try.func31, Try.ntmps31
  go_wp2
  go_ret
  exact ⟨ret_int (by rw [low_eq n h, H.out]), rfl⟩

theorem len8_log : ∀ n : Fin 256, n.val ≠ 0 → Lib.bitLen n.val = Nat.log2 n.val + 1 := by decide +kernel

set_option maxRecDepth 100000 in
theorem len8_int (b : Int) (w : World) (h0 : 0 ≤ b) (h : b ≤ 255) : Calls Try.prog 21 #[.int .u8 b] w fun e w' => e = .returned (.int .i64 (Lib.bitLen b.toNat : Nat)) ∧ w = w' := by
  go_enter Try.func21, Try.ntmps21
  go_wp2
  go_ret
  refine ⟨ret_int ?_, rfl⟩
  have e1 := Lib.len8_of b h0 h
  have e2 := Lib.bitLen_le8' b h0 h
  unfold wrap64
  omega
theorem len8_any (c : Nat) (w : World) (h0 : c ≠ 0) (h : c < 256) : Calls Try.prog 21 #[.int .u8 c] w fun e w' => e = .returned (.int .i64 ((Nat.log2 c + 1 : Nat) : Int)) ∧ w = w' := by
  have e := len8_log ⟨c, h⟩ h0
  have := len8_int c w (by omega) (by omega)
  rw [Int.toNat_natCast, show Lib.bitLen c = Nat.log2 c + 1 from e] at this
  exact this

theorem last_zero (w : World) : Calls Try.prog 23 #[.int .i64 0] w fun e w' => e = .returned (.int .i64 0) ∧ w = w' := by
  go_enter Try.func23, Try.ntmps23
  go_wp2
  go_ret
  exact ⟨rfl, rfl⟩
theorem last_any (a r : Nat) (w : World) (h : a ≤ 10000000) (hr : r = if a = 0 then 0 else (a - 1) % 8 + 1) : Calls Try.prog 23 #[.int .i64 a] w fun e w' => e = .returned (.int .i64 r) ∧ w = w' := by
  by_cases h0 : a = 0
  · subst h0
    rw [if_pos rfl] at hr
    rw [hr]
    exact last_zero w
  · rw [if_neg h0] at hr
    have h1 : ¬ (a : Int) = 0 := by omega
    go_enter Try.func23, Try.ntmps23
    go_wp2
    go_ret
    exact ⟨ret_int (by omega), rfl⟩
end Go.Proofs.Ytjojofcajabkeaa
