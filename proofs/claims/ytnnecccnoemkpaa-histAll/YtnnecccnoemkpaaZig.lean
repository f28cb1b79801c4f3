/-
  The calls of package zig return what the plain functions say, for every number and part; where they make memory nothing that was there turns.
-/
import Derived.Test.YtnnecccnoemkpaaRows
import Derived.WalkKit
import Derived.ProofKit
import Derived.OpenShut
import Derived.Deep.QuietTactic
import Derived.BigQuiet
import Derived.Test.YtnnecccnoemkpaaMath
import Derived.Test.YtnnecccnoemkpaaLen
namespace Go.Proofs.Ytnnecccnoemkpaa
open Go.ChangeShapes Go.WideShapes Go.ChangeAt Go.RowKit

theorem ret_int {k : IntKind} {a b : Int} (h : a = b) : Ending.returned (.int k a) = .returned (.int k b) := by rw [h]
theorem hmf : ∀ (fn : Fn) (first cap : Array Value) (w : World), (Instr.makeFunc fn first cap).run Try.prog w = .ok (.func fn first cap) w := fun _ _ _ _ => rfl
theorem bcell {W w1 : World} (hb : Below W.heap.size W w1) : (∀ b o, b < W.heap.size → w1.cell? ⟨b, o, none⟩ = W.cell? ⟨b, o, none⟩) ∧ (∀ b o, b < W.heap.size → w1.frozen? ⟨b, o, none⟩ = W.frozen? ⟨b, o, none⟩) :=
  ⟨fun b o h => hb.cell (p := ⟨b, o, none⟩) h, fun b o h => hb.frozen (p := ⟨b, o, none⟩) h⟩
theorem below_drewN {B : Nat} {a w : World} (h : Below B a w) (n : Nat) : Below B a (w.drewN n) := by
  induction n with
  | zero => exact h
  | succ n ih => exact ih.drew

theorem fold_any (v : Int) (w : World) (h1 : -9223372036854775808 ≤ v) (h2 : v ≤ 9223372036854775807) :
    Calls Try.prog 32 #[.int .i64 v] w fun e w' => e = .returned (.int .u64 (zmap v)) ∧ w' = w := by
  by_cases h : v < 0
  · have H : Hid (bits .or .u64 (IntKind.u64.wrap (IntKind.u64.wrap (bits .xor .i64 (-1) v) * 2)) 1 = zmap v) := fold_bits v h1 h
    go_enter Try.func32, Try.ntmps32
    go_wp2
    go_ret
    exact ⟨ret_int H.out, rfl⟩
  · have H : Hid (zmap v = 2 * v) := zmap_pos v h
    go_enter Try.func32, Try.ntmps32
    go_wp2
    go_ret
    exact ⟨ret_int (by rw [H.out]; omega), rfl⟩

theorem unfold_any (u : Int) (w : World) (h1 : 0 ≤ u) (h2 : u ≤ 18446744073709551615) :
    Calls Try.prog 38 #[.int .u64 u] w fun e w' => e = .returned (.int .i64 (zback u)) ∧ w' = w := by
  have H : Hid (bits .and .u64 u 1 = u % 2) := and_one_u64 u h1 h2
  have N : Hid (bits .xor .i64 (-1) (u / 2) = -1 - u / 2) := not_i64 (u / 2) (by omega) (by omega)
  by_cases h : u % 2 = 1
  · have t : (bits .and .u64 u 1 == 1) = true := by rw [H.out]; simp [h]
    have Z : Hid (zback u = -(u / 2) - 1) := by show zback u = _; simp [zback, h]
    clear h
    go_enter Try.func38, Try.ntmps38
    go_wp2
    go_ret
    exact ⟨ret_int (by rw [N.out, Z.out]; omega), rfl⟩
  · have t : (bits .and .u64 u 1 == 1) = false := by rw [H.out]; simpa using h
    have Z : Hid (zback u = u / 2) := by show zback u = _; simp [zback, h]
    clear h
    go_enter Try.func38, Try.ntmps38
    go_wp2
    go_ret
    exact ⟨ret_int (by rw [Z.out]), rfl⟩

theorem highest_any (c : Int) (w : World) (h1 : 1 ≤ c) (h2 : c ≤ 64) :
    Calls Try.prog 39 #[.int .i64 c] w fun e w' => e = .returned (.int .u64 (hi c)) ∧ w' = w := by
  have H : Hid (IntKind.u64.wrap (2 ^ (c.toNat - 1)) = hi c) := wrap_hi c h2
  go_enter Try.func39, Try.ntmps39
  go_wp2
  go_ret
  exact ⟨ret_int H.out, rfl⟩

theorem len_any (u : Int) (w : World) (h1 : 0 ≤ u) (h2 : u ≤ 18446744073709551615) :
    Calls Try.prog 40 #[.int .u64 u] w fun e w' => e = .returned (.int .i64 (blen u)) ∧ w' = w := len64_any u w h1 h2

set_option maxHeartbeats 400000 in
theorem sized_any (v : Int) (w : World) (h1 : -9223372036854775808 ≤ v) (h2 : v ≤ 9223372036854775807) :
    Calls Try.prog 31 #[.func (.func 32) #[.int .i64 v] #[]] w fun e w' => e = .returned (.agg #[.int .i64 (blen (zmap v)), .int .u64 (srest (zmap v))]) ∧ Below w.heap.size w w' := by
  obtain ⟨b1, b2⟩ := zmap_bd v h1 h2
  by_cases h : zmap v = 0
  · have t : (zmap v == 0) = true := by simp [h]
    have B : Hid (blen (zmap v) = 0) := by rw [h]; exact blen_zero
    have S : Hid (srest (zmap v) = 0) := by show srest (zmap v) = 0; rw [h]; simp [srest]
    clear h
    go_enter Try.func31, Try.ntmps31
    go_wp2_with (first | (go_at_call 32; refine (fold_any _ _ h1 h2).mono ?_; rintro e w' ⟨rfl, rfl⟩))
    rw [B.out, S.out]
    exact bodyPost_ret (v := .agg #[.int .i64 0, .int .u64 0]) (by simp [results, Try.results31, go_sem]) rfl ⟨rfl, (Below.refl _ _).alloc (Nat.le_refl _) _⟩
  · have t : (zmap v == 0) = false := by simp [h]
    obtain ⟨p1, p2, p3, p4⟩ := blen_spec (zmap v) (by omega) b2
    have S : Hid (srest (zmap v) = zmap v - hi (blen (zmap v))) := by show srest (zmap v) = _; simp [srest, h]
    have hp := hi_pos (blen (zmap v))
    clear h
    go_enter Try.func31, Try.ntmps31
    go_wp2_with (first | (go_at_call 32; refine (fold_any _ _ h1 h2).mono ?_; rintro e w' ⟨rfl, rfl⟩) | (go_at_call 40; refine (len_any _ _ b1 b2).mono ?_; rintro e w' ⟨rfl, rfl⟩) | (go_at_call 39; refine (highest_any _ _ p1 p2).mono ?_; rintro e w' ⟨rfl, rfl⟩))
    rw [S.out]
    exact bodyPost_ret (v := .agg #[.int .i64 (blen (zmap v)), .int .u64 (zmap v - hi (blen (zmap v)))]) (by simp [results, Try.results31, go_sem]) rfl ⟨rfl, (Below.refl _ _).alloc (Nat.le_refl _) _⟩
end Go.Proofs.Ytnnecccnoemkpaa
