/-
  Package bits, the reader: From, left, take, and Get of bits that stand in one byte.
-/
import Derived.Test.YthjokhfjfiaaiaaBq
import Derived.Deep.QuietTactic
import Derived.BigQuiet
namespace Go.Proofs.Ythjokhfjfiaaiaa
open Go.ChangeShapes Go.WideShapes Go.ChangeAt Go.RowKit
open Go.ChangeMaps (open_string shut_string)

theorem and_low2 (y m : Nat) (hy : y < 256) (hm : m ≤ 8) : bits .and .u8 (y : Int) ((2 ^ m - 1 : Nat) : Int) = ((y % 2 ^ m : Nat) : Int) := by
  have h8 : 2 ^ m ≤ 2 ^ 8 := pow_le_of hm
  have h88 : (2 : Nat) ^ 8 = 256 := rfl
  rw [u8_and_nat _ _ hy (by omega), Nat.and_two_pow_sub_one_eq_mod]

/-- Block A is a reader of s that has taken a bits. -/
def Rd (W : World) (A : Nat) (s : ByteArray) (a : Nat) : Prop := Blk W A #[.string s, .int .i64 a] 68

theorem from_any (s : ByteArray) (w : World) : Calls Try.prog 16 #[.string s] w fun e w' => e = .returned (ptr w.heap.size) ∧ Rd w' w.heap.size s 0 ∧ Chg (fun _ => False) w w' := by
  go_enter Try.func16, Try.ntmps16
  go_wp2
  go_ret
  exact ⟨rfl, blk_new _ _ _, chg_alloc (chg_refl _ _) _⟩

theorem left_any (A : Nat) (s : ByteArray) (a : Nat) (W : World) (h : Rd W A s a) (hs : s.size ≤ 100000) (ha : a ≤ 8 * s.size) (m : Nat) (hm : m = 8 * s.size - a) :
    Calls Try.prog 41 #[ptr A] W fun e W' => e = .returned (.int .i64 m) ∧ W' = W.drew := by
  have c0 : W.cell? ⟨A, 0, none⟩ = some (.string s) := by rw [blk_cell h]; rfl
  have c1 : W.cell? ⟨A, 1, none⟩ = some (.int .i64 a) := by rw [blk_cell h]; rfl
  have w1 : IntKind.i64.wrap ((s.size : Int) * 8) = (s.size : Int) * 8 := by rw [IntKind.wrap_i64]; omega
  have w2 : IntKind.i64.wrap ((s.size : Int) * 8 - a) = (s.size : Int) * 8 - a := by rw [IntKind.wrap_i64]; omega
  unfold ptr
  go_enter Try.func41, Try.ntmps41
  go_wp2
  go_region
  go_wp2
  go_ret
  exact ⟨ret_int (by omega), rfl⟩

theorem take_any (A : Nat) (s : ByteArray) (a n : Nat) (W : World) (h : Rd W A s a) (hs : s.size ≤ 100000) (hn : 0 < n) (hp : a % 8 + n ≤ 8) (ha : a + n ≤ 8 * s.size) :
    Calls Try.prog 43 #[ptr A, .int .i64 n] W fun e W' => e = .returned (.int .u8 (got (le s.data.toList) a n)) ∧ Rd W' A s (a + n) ∧ Chg (· = A) W W' := by
  have c0 : W.cell? ⟨A, 0, none⟩ = some (.string s) := by rw [blk_cell h]; rfl
  have c1 : W.cell? ⟨A, 1, none⟩ = some (.int .i64 a) := by rw [blk_cell h]; rfl
  have f1 := blk_free h 1
  obtain ⟨L, hL⟩ : ∃ L : Nat, L = 2 ^ n - 1 := ⟨_, rfl⟩
  have hlt : a / 8 < s.size := by omega
  have G := got_byte s.data.toList a n (by rw [len_data]; omega) hp
  obtain ⟨q, hq⟩ : ∃ q : Nat, q = a / 8 := ⟨_, rfl⟩
  obtain ⟨p, hpp⟩ : ∃ p : Nat, p = a % 8 := ⟨_, rfl⟩
  have e1 : (a : Int) / 8 = (q : Int) := by omega
  have e2 : (a : Int) % 8 = (p : Int) := by omega
  have hql : q < s.size := by omega
  have hq1 : q ≤ 100000 := by omega
  have hp7 : p ≤ 7 := by omega
  have hz : ¬ (n : Int) = 0 := by omega
  have GH : Hid (got (le s.data.toList) a n = s.data.toList[a / 8].toNat / 2 ^ (a % 8) % 2 ^ n) := G
  have HQ : Hid (q = a / 8 ∧ p = a % 8 ∧ L = 2 ^ n - 1) := ⟨hq, hpp, hL⟩
  clear hn G hq hpp hL
  unfold ptr
  go_enter Try.func43, Try.ntmps43
  go_wp2
  go_region
  go_wp2_with fail
  refine (lowest_any n L _ (by omega) HQ.out.2.2).mono ?_
  rintro e w1 ⟨rfl, rfl⟩
  go_wp2
  go_ret
  refine ⟨ret_int ?_, ?_, chg_drew (chg_set (chg_refl _ _) ⟨A, 1, none⟩ _ (fun _ => rfl))⟩
  · obtain ⟨rfl, rfl, rfl⟩ := HQ.out
    rw [GH.out, show ((s[a / 8].toNat : Int) / 2 ^ (a % 8)) = ((s[a / 8].toNat / 2 ^ (a % 8) : Nat) : Int) from by simp]
    exact and_low2 _ _ (Nat.lt_of_le_of_lt (Nat.div_le_self _ _) (UInt8.toNat_lt _)) (by omega)
  · have := blk_drew (blk_set h 1 (.int .i64 ((a : Int) + n)))
    unfold Rd
    simpa using this

theorem take_zero (A : Nat) (W : World) : Calls Try.prog 43 #[ptr A, .int .i64 0] W fun e W' => e = .returned (.int .u8 0) ∧ W = W' := by
  unfold ptr
  go_enter Try.func43, Try.ntmps43
  go_wp2
  go_ret
  exact ⟨rfl, rfl⟩

/-- What a Get of n bits, which are there, leaves. -/
def GotPost (A : Nat) (s : ByteArray) (a n : Nat) (W : World) (e : Ending) (W' : World) : Prop :=
  e = .returned (.tuple #[.int .u64 (got (le s.data.toList) a n), .int .i64 0]) ∧ Rd W' A s (a + n) ∧ Chg (· = A) W W'

theorem rd_drew {W : World} {A : Nat} {s : ByteArray} {a : Nat} (h : Rd W A s a) : Rd W.drew A s a := h

theorem get_small (A : Nat) (s : ByteArray) (a n : Nat) (W : World) (h : Rd W A s a) (hs : s.size ≤ 100000) (hp : a % 8 + n ≤ 8) (ha : a + n ≤ 8 * s.size) :
    Calls Try.prog 31 #[ptr A, .int .i64 n] W (GotPost A s a n W) := by
  have c1 : W.drew.cell? ⟨A, 1, none⟩ = some (.int .i64 a) := by rw [blk_cell (rd_drew h)]; rfl
  obtain ⟨r, hr⟩ : ∃ r : Nat, r = 8 - a % 8 := ⟨_, rfl⟩
  have T := toEnd_any a r W.drew (by omega) hr
  obtain ⟨m, hm⟩ : ∃ m : Nat, m = 8 * s.size - a := ⟨_, rfl⟩
  have LL := left_any A s a W h hs (by omega) m hm
  have hnm : n ≤ m := by omega
  have hnr : n ≤ r := by omega
  have hr8 : r ≤ 8 := by omega
  have hm8 : m ≤ 1000000 := by omega
  have K : Calls Try.prog 43 #[ptr A, .int .i64 n] W.drew fun e W' => e = .returned (.int .u8 (got (le s.data.toList) a n)) ∧ Rd W' A s (a + n) ∧ Chg (· = A) W.drew W' := by
    by_cases h0 : n = 0
    · subst h0
      refine (take_zero A W.drew).mono ?_
      rintro e w1 ⟨rfl, rfl⟩
      exact ⟨by rw [got_zero]; rfl, h, chg_refl _ _⟩
    · exact take_any A s a n W.drew h hs (by omega) hp ha
  clear hr hm
  unfold GotPost
  have hg : got (le s.data.toList) a n < 256 := Nat.lt_of_lt_of_le (got_lt _ _ _) (pow_le_of (a := n) (b := 8) (by omega))
  generalize got (le s.data.toList) a n = y at *
  unfold ptr at *
  go_enter Try.func31, Try.ntmps31
  go_wp2_with (first | (go_at_call 41; refine LL.mono ?_; rintro e w1 ⟨rfl, rfl⟩) | (go_at_call 36; refine T.mono ?_; rintro e w1 ⟨rfl, rfl⟩))
  refine K.mono ?_
  rintro e w1 ⟨rfl, k1, k2⟩
  go_wp2
  go_ret2
  exact ⟨rfl, k1, chg_trans (chg_drew (chg_refl _ _)) k2 (fun _ _ h => h)⟩
end Go.Proofs.Ythjokhfjfiaaiaa
