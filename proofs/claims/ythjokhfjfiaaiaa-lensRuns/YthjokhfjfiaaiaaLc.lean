/-
  Four bits read by a method value; one length, or a row of noughts.
-/
import Derived.Test.YthjokhfjfiaaiaaLb
namespace Go.Proofs.Ythjokhfjfiaaiaa
open Go.ChangeShapes Go.WideShapes Go.ChangeAt Go.RowKit
open Go.ChangeMaps (open_string shut_string)

theorem nib_yes (A : Nat) (t : ByteArray) (k : Nat) (W : World) (h : Rd W A t (4 * k)) (hs : t.size ≤ 100000) (hk : k < (nbs t.data.toList).length) (y : Nat) (hy : at0 (nbs t.data.toList) k = y) :
    Calls Try.prog 31 #[.pointer (some ⟨A, 0, none⟩), .int .i64 4] W fun e W' => e = .returned (.tuple #[.int .u64 y, .int .i64 0]) ∧ Rd W' A t (4 * (k + 1)) ∧ Chg (· = A) W W' := by
  have hl := nbs_len t.data.toList
  rw [len_data] at hl
  have G : Calls Try.prog 31 #[.pointer (some ⟨A, 0, none⟩), .int .i64 4] W (GotPost A t (4 * k) 4 W) := get_nat A t hs 4 (4 * k) W h (by omega) (by omega)
  refine G.mono ?_
  rintro e W' ⟨rfl, k1, k2⟩
  refine ⟨by rw [got_nib _ k hk, hy], ?_, k2⟩
  rw [show 4 * (k + 1) = 4 * k + 4 from by omega]; exact k1
theorem nib_no (A : Nat) (t : ByteArray) (k : Nat) (W : World) (h : Rd W A t (4 * k)) (hs : t.size ≤ 100000) (hk : k = (nbs t.data.toList).length) :
    Calls Try.prog 31 #[.pointer (some ⟨A, 0, none⟩), .int .i64 4] W fun e W' => e = .returned (.tuple #[.int .u64 0, .int .i64 2]) ∧ Chg (· = A) W W' := by
  have hl := nbs_len t.data.toList
  rw [len_data] at hl
  have G : Calls Try.prog 31 #[.pointer (some ⟨A, 0, none⟩), .int .i64 4] W fun e W' => e = .returned (.tuple #[.int .u64 0, .int .i64 2]) ∧ W' = W.drew := get_more A t (4 * k) 4 W h hs (by omega) (by omega) (by omega)
  refine G.mono ?_
  rintro e W' ⟨rfl, rfl⟩
  exact ⟨rfl, chg_drew (chg_refl _ _)⟩
def hv (A : Nat) : Value := .agg #[.pointer (some ⟨A, 0, none⟩)]
theorem next_yes (A : Nat) (t : ByteArray) (k : Nat) (W : World) (h : Rd W A t (4 * k)) (hs : t.size ≤ 100000) (hk : k < (nbs t.data.toList).length) (y : Nat) (hy : at0 (nbs t.data.toList) k = y) (hy16 : y < 16) :
    Calls Try.prog 18 #[hv A] W fun e W' => e = .returned (.tuple #[.int .i64 y, .int .i64 0]) ∧ Rd W' A t (4 * (k + 1)) ∧ Chg (· = A) W W' := by
  have N := nib_yes A t k (W.alloc (.cells #[.pointer (some ⟨A, 0, none⟩)] 46)) (blk_alloc h _) hs hk y hy
  have C : Hid (Chg (· = A) W (W.alloc (.cells #[.pointer (some ⟨A, 0, none⟩)] 46))) := chg_alloc (chg_refl _ _) _
  clear h hs hk hy
  unfold hv
  go_enter Try.func18, Try.ntmps18
  go_wp2_with fail
  with_reducible refine N.mono ?_
  rintro e w1 ⟨rfl, k1, k2⟩
  have K1 := Hid.intro k1
  have K2 := Hid.intro (chg_same C.out k2)
  clear N k1 k2 C
  go_wp2_with fail
  go_ret2
  exact ⟨rfl, K1.out, K2.out⟩
theorem next_no (A : Nat) (t : ByteArray) (k : Nat) (W : World) (h : Rd W A t (4 * k)) (hs : t.size ≤ 100000) (hk : k = (nbs t.data.toList).length) :
    Calls Try.prog 18 #[hv A] W fun e W' => e = .returned (.tuple #[.int .i64 0, .int .i64 2]) ∧ Chg (· = A) W W' := by
  have N := nib_no A t k (W.alloc (.cells #[.pointer (some ⟨A, 0, none⟩)] 46)) (blk_alloc h _) hs hk
  have C : Hid (Chg (· = A) W (W.alloc (.cells #[.pointer (some ⟨A, 0, none⟩)] 46))) := chg_alloc (chg_refl _ _) _
  clear h hs hk
  unfold hv
  go_enter Try.func18, Try.ntmps18
  go_wp2_with fail
  with_reducible refine N.mono ?_
  rintro e w1 ⟨rfl, k2⟩
  have K2 := Hid.intro (chg_same C.out k2)
  clear N k2 C
  go_wp2_with fail
  go_ret2
  exact ⟨rfl, K2.out⟩
theorem ni_one (W : World) (y : Nat) : (W.alloc (.cells #[.int .i64 (y : Int)] 3)).ownsRow W.heap.size 3 1 (.slice (some ⟨W.heap.size, 0, none⟩) 1 1) 1 (ni [y]) :=
  ⟨rfl, .inr ⟨_, 1, _, rfl, Nat.le_refl _, blk_new _ _ _, Nat.le_refl _, by decide, by simp, rfl⟩⟩
theorem own_base {W W1 : World} {e size : Nat} {v : Value} {n : Nat} {xs : List Value} (h : W1.ownsRow W1.heap.size e size v n xs) (hs : W.heap.size ≤ W1.heap.size) : W1.ownsRow W.heap.size e size v n xs := own_low h hs
/-- What some leaves: so many lengths, and the place behind them. -/
def SmPost (A : Nat) (t : ByteArray) (zs : List Nat) (k : Nat) (W : World) (e : Ending) (W' : World) : Prop :=
  ∃ b, e = .returned (.tuple #[.slice (some ⟨b, 0, none⟩) zs.length zs.length, .int .i64 0]) ∧ W'.ownsRow W.heap.size 3 1 (.slice (some ⟨b, 0, none⟩) zs.length zs.length) zs.length (ni zs) ∧ Rd W' A t (4 * k) ∧ Chg (· = A) W W'
set_option maxRecDepth 100000 in
theorem some_pos (A : Nat) (t : ByteArray) (k : Nat) (W : World) (h : Rd W A t (4 * k)) (hs : t.size ≤ 100000) (hk : k < (nbs t.data.toList).length) (y : Nat) (hy : at0 (nbs t.data.toList) k = y) (h0 : 0 < y) (hy16 : y < 16) :
    Calls Try.prog 30 #[.func (.func 18) #[hv A] #[]] W (SmPost A t [y] (k + 1) W) := by
  have N := next_yes A t k W h hs hk y hy hy16
  have hA := blk_lt h
  clear h hs hk hy
  unfold SmPost
  go_enter Try.func30, Try.ntmps30
  go_wp2_with fail
  with_reducible refine N.mono ?_
  rintro e w1 ⟨rfl, k1, k2⟩
  have K1 := Hid.intro k1
  have K2 := Hid.intro k2
  clear N k1 k2
  go_wp2_with fail
  go_ret2
  exact ⟨w1.heap.size, rfl, own_low (ni_one w1 y) (chg_size K2.out), blk_alloc K1.out _, chg_alloc K2.out _⟩
end Go.Proofs.Ythjokhfjfiaaiaa
