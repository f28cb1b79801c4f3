/-
  The reference's calls for layer 1 return what the plain functions say, for every number and part; nothing that was there turns.
-/
import Derived.Test.YtnnecccnoemkpaaZigB
namespace Go.Proofs.Ytnnecccnoemkpaa
open Go.ChangeShapes Go.WideShapes Go.ChangeAt Go.RowKit

theorem refMap_any (v : Int) (w : World) (h1 : -9223372036854775808 ≤ v) (h2 : v ≤ 9223372036854775807) :
    Calls Try.prog 33 #[.int .i64 v] w fun e w' => e = .returned (.int .u64 (zmap v)) ∧ w' = w := by
  by_cases h : v < 0
  · have H : Hid (zmap v = -2 * v - 1) := zmap_neg v h
    go_enter Try.func33, Try.ntmps33
    go_wp2
    go_ret
    exact ⟨ret_int (by rw [H.out]; omega), rfl⟩
  · have H : Hid (zmap v = 2 * v) := zmap_pos v h
    go_enter Try.func33, Try.ntmps33
    go_wp2
    go_ret
    exact ⟨ret_int (by rw [H.out]), rfl⟩

theorem refBack_any (u : Int) (w : World) (h1 : 0 ≤ u) (h2 : u ≤ 18446744073709551615) :
    Calls Try.prog 30 #[.int .u64 u] w fun e w' => e = .returned (.int .i64 (zback u)) ∧ w' = w := by
  have H : Hid (bits .and .u64 u 1 = u % 2) := and_one_u64 u h1 h2
  by_cases h : u % 2 = 1
  · have t : (bits .and .u64 u 1 == 1) = true := by rw [H.out]; simp [h]
    have Z : Hid (zback u = -(u / 2) - 1) := by show zback u = _; simp [zback, h]
    clear h
    go_enter Try.func30, Try.ntmps30
    go_wp2
    go_ret
    exact ⟨ret_int (by rw [Z.out]), rfl⟩
  · have t : (bits .and .u64 u 1 == 1) = false := by rw [H.out]; simpa using h
    have Z : Hid (zback u = u / 2) := by show zback u = _; simp [zback, h]
    clear h
    go_enter Try.func30, Try.ntmps30
    go_wp2
    go_ret
    exact ⟨ret_int (by rw [Z.out]), rfl⟩

theorem blen_half (x : Int) (h0 : 0 < x) (h1 : x ≤ 18446744073709551615) : blen x = 1 + blen (x / 2) := by
  unfold blen
  rw [Lib.bitLen_half x.toNat (by omega) (by omega)]
  have : (x / 2).toNat = x.toNat / 2 := by omega
  rw [this]; omega

set_option maxHeartbeats 400000 in
theorem length_any (u : Int) (w : World) (h1 : 0 ≤ u) (h2 : u ≤ 18446744073709551615) :
    Calls Try.prog 34 #[.int .u64 u] w fun e w' => e = .returned (.int .i64 (blen u)) ∧ w' = w := by
  have hb := blen_bd u h1 h2
  obtain ⟨L, hL⟩ : ∃ L, L = blen u := ⟨_, rfl⟩
  rw [← hL] at hb ⊢
  have HL : Hid (L = blen u) := hL
  clear hL
  go_enter Try.func34, Try.ntmps34
  go_wp2
  go_loop [0, 3] (fun s n => ∃ x k : Int, 0 ≤ x ∧ x ≤ 18446744073709551615 ∧ 0 ≤ k ∧ k + blen x = L ∧ s = .int .u64 x ∧ n = .int .i64 k) (fun s _ => (intOf s).toNat)
  case atStart => exact ⟨u, 0, h1, h2, by omega, by rw [HL.out]; omega, rfl, rfl⟩
  case round =>
    obtain ⟨x, k, x0, x1, k0, hk, rfl, rfl⟩ := hrel
    have HK : Hid (k + blen x = L) := hk
    have kb := blen_bd x x0 x1
    have kl : k ≤ 64 := by omega
    clear hk
    by_cases hx : 0 < x
    · have hh : Hid (blen x = 1 + blen (x / 2)) := blen_half x hx x1
      clear kb
      go_wp2
      go_round
      case rel => exact ⟨x / 2, k + 1, by omega, by omega, by omega, by have := HK.out; have := hh.out; omega, rfl, by go_num⟩
      case measure => simp [intOf]; omega
    · clear kb
      go_wp2
      go_ret
      refine ⟨ret_int ?_, rfl⟩
      have : x = 0 := by omega
      subst this
      have := HK.out
      rw [blen_zero] at this
      omega
end Go.Proofs.Ytnnecccnoemkpaa
