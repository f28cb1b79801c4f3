/-
  Package bits, Get: for every reader and every length, by the length of what is still to be got.
-/
import Derived.Test.YthjokhfjfiaaiaaBr
namespace Go.Proofs.Ythjokhfjfiaaiaa
open Go.ChangeShapes Go.WideShapes Go.ChangeAt Go.RowKit
open Go.ChangeMaps (open_string shut_string)

theorem u64_join (x y r m : Nat) (hx : x < 2 ^ r) (hy : y < 2 ^ m) (h : r + m ≤ 64) : bits .or .u64 (x : Int) ((y : Int) * 2 ^ r % 18446744073709551616) = ((x + y * 2 ^ r : Nat) : Int) := by
  have h1 : (y + 1) * 2 ^ r ≤ 2 ^ m * 2 ^ r := Nat.mul_le_mul_right _ hy
  rw [← Nat.pow_add, Nat.add_mul, Nat.one_mul] at h1
  have h2 : 2 ^ (m + r) ≤ 2 ^ 64 := pow_le_of (by omega)
  have h3 : (2 : Nat) ^ 64 = 18446744073709551616 := rfl
  have h4 : y * 2 ^ r < 18446744073709551616 := by omega
  have e : (y : Int) * 2 ^ r % 18446744073709551616 = ((y * 2 ^ r : Nat) : Int) := by
    rw [show (y : Int) * 2 ^ r = ((y * 2 ^ r : Nat) : Int) from by simp]; exact Int.emod_eq_of_lt (Int.natCast_nonneg _) (Int.ofNat_lt.2 h4)
  rw [e, u64_or_nat _ _ (by omega) h4, or_hi _ _ _ hx]

set_option maxRecDepth 100000 in
theorem getBoth_any (A : Nat) (s : ByteArray) (a r k : Nat) (W : World) (hr : r ≤ 8) (hk : r + k ≤ 64)
    (h1 : Calls Try.prog 31 #[ptr A, .int .i64 r] W (GotPost A s a r W))
    (h2 : ∀ W', Rd W' A s (a + r) → Calls Try.prog 31 #[ptr A, .int .i64 k] W' (GotPost A s (a + r) k W')) :
    Calls Try.prog 42 #[.int .i64 r, .int .i64 k, .func (.func 31) #[ptr A] #[]] W (GotPost A s a (r + k) W) := by
  have hj := u64_join (got (le s.data.toList) a r) (got (le s.data.toList) (a + r) k) r k (got_lt _ _ _) (got_lt _ _ _) hk
  rw [← got_two, ← IntKind.wrap_u64] at hj
  unfold GotPost at *
  generalize got (le s.data.toList) a r = x at *
  generalize got (le s.data.toList) (a + r) k = y at *
  generalize got (le s.data.toList) a (r + k) = z at *
  unfold ptr at *
  go_enter Try.func42, Try.ntmps42
  go_wp2_with fail
  refine h1.mono ?_
  rintro e w1 ⟨rfl, k1, k2⟩
  go_wp2_with fail
  refine (h2 w1 k1).mono ?_
  rintro e w2 ⟨rfl, j1, j2⟩
  go_wp2
  go_ret2
  refine ⟨rfl, ?_, chg_trans k2 j2 (fun _ _ h => h)⟩
  rw [← Nat.add_assoc]; exact j1

set_option maxRecDepth 100000 in
theorem get_large (A : Nat) (s : ByteArray) (a n r : Nat) (W : World) (h : Rd W A s a) (hs : s.size ≤ 100000) (ha : a + n ≤ 8 * s.size) (hr : r = 8 - a % 8) (hn : r < n) (hn64 : n ≤ 64)
    (h2 : ∀ W', Rd W' A s (a + r) → Calls Try.prog 31 #[ptr A, .int .i64 ((n - r : Nat) : Int)] W' (GotPost A s (a + r) (n - r) W')) :
    Calls Try.prog 31 #[ptr A, .int .i64 n] W (GotPost A s a n W) := by
  have c1 : W.drew.cell? ⟨A, 1, none⟩ = some (.int .i64 a) := by rw [blk_cell (rd_drew h)]; rfl
  have T := toEnd_any a r W.drew (by omega) hr
  obtain ⟨m, hm⟩ : ∃ m : Nat, m = 8 * s.size - a := ⟨_, rfl⟩
  have LL := left_any A s a W h hs (by omega) m hm
  have B := getBoth_any A s a r (n - r) W.drew (by omega) (by omega) (get_small A s a r W.drew h hs (by omega) (by omega)) h2
  rw [show r + (n - r) = n from by omega] at B
  clear h2
  have hk : ((n : Int) - r) = ((n - r : Nat) : Int) := by omega
  have hk64 : n - r ≤ 64 := by omega
  have hr8 : r ≤ 8 := by omega
  have hnm : n ≤ m := by omega
  have hm8 : m ≤ 1000000 := by omega
  clear hr hm
  generalize n - r = k at *
  unfold GotPost at *
  generalize got (le s.data.toList) a n = z at *
  unfold ptr at *
  go_enter Try.func31, Try.ntmps31
  go_wp2_with (first | (go_at_call 41; refine LL.mono ?_; rintro e w1 ⟨rfl, rfl⟩) | (go_at_call 36; refine T.mono ?_; rintro e w1 ⟨rfl, rfl⟩))
  refine B.mono ?_
  rintro e w1 ⟨rfl, k1, k2⟩
  go_wp2
  go_ret2
  exact ⟨rfl, k1, chg_trans (chg_drew (chg_refl _ _)) k2 (fun _ _ h => h)⟩

theorem get_nat (A : Nat) (s : ByteArray) (hs : s.size ≤ 100000) : ∀ (n a : Nat) (W : World), Rd W A s a → a + n ≤ 8 * s.size → n ≤ 64 → Calls Try.prog 31 #[ptr A, .int .i64 n] W (GotPost A s a n W) := by
  intro n
  induction n using Nat.strongRecOn with
  | _ n ih =>
    intro a W h ha hn
    by_cases h1 : a % 8 + n ≤ 8
    · exact get_small A s a n W h hs h1 ha
    · exact get_large A s a n (8 - a % 8) W h hs ha rfl (by omega) hn fun W' h' => ih (n - (8 - a % 8)) (by omega) _ W' h' (by omega) (by omega)

theorem get_arg (A : Nat) (n : Int) (W : World) (h : n < 0 ∨ 64 < n) :
    Calls Try.prog 31 #[ptr A, .int .i64 n] W fun e W' => e = .returned (.tuple #[.int .u64 0, .int .i64 1]) ∧ W = W' := by
  unfold ptr
  rcases h with h | h
  · go_enter Try.func31, Try.ntmps31
    go_wp2
    go_ret2
    exact ⟨rfl, rfl⟩
  · have h0 : ¬ n < 0 := by omega
    go_enter Try.func31, Try.ntmps31
    go_wp2
    go_ret2
    exact ⟨rfl, rfl⟩

theorem get_more (A : Nat) (s : ByteArray) (a n : Nat) (W : World) (h : Rd W A s a) (hs : s.size ≤ 100000) (ha : a ≤ 8 * s.size) (hn : n ≤ 64) (hm : 8 * s.size < a + n) :
    Calls Try.prog 31 #[ptr A, .int .i64 n] W fun e W' => e = .returned (.tuple #[.int .u64 0, .int .i64 2]) ∧ W' = W.drew := by
  obtain ⟨m, hm'⟩ : ∃ m : Nat, m = 8 * s.size - a := ⟨_, rfl⟩
  have LL := left_any A s a W h hs (by omega) m hm'
  have hnm : m < n := by omega
  clear hm hm'
  unfold ptr at *
  go_enter Try.func31, Try.ntmps31
  go_wp2_with (first | (go_at_call 41; refine LL.mono ?_; rintro e w1 ⟨rfl, rfl⟩))
  go_ret2
  exact ⟨rfl, rfl⟩

/-- The error of a Get of n bits of L behind the place a; how many bits it takes. -/
def ge (L a : Nat) (n : Int) : Nat := if n < 0 ∨ 64 < n then 1 else if (L : Int) < a + n then 2 else 0
def gk (L a : Nat) (n : Int) : Nat := if ge L a n = 0 then n.toNat else 0
theorem gk_le (L a : Nat) (n : Int) (h : a ≤ L) : a + gk L a n ≤ L := by
  unfold gk ge; (repeat' split) <;> omega
theorem ge_le (L a : Nat) (n : Int) : ge L a n ≤ 2 := by
  unfold ge; (repeat' split) <;> omega

/-- What a Get leaves, whatever n. -/
def GetPost (A : Nat) (s : ByteArray) (a : Nat) (n : Int) (W : World) (e : Ending) (W' : World) : Prop :=
  e = .returned (.tuple #[.int .u64 (got (le s.data.toList) a (gk (8 * s.size) a n)), .int .i64 (ge (8 * s.size) a n)]) ∧ Rd W' A s (a + gk (8 * s.size) a n) ∧ Chg (· = A) W W'

theorem get_any (A : Nat) (s : ByteArray) (a : Nat) (n : Int) (W : World) (h : Rd W A s a) (hs : s.size ≤ 100000) (ha : a ≤ 8 * s.size) :
    Calls Try.prog 31 #[ptr A, .int .i64 n] W (GetPost A s a n W) := by
  unfold GetPost
  by_cases h1 : n < 0 ∨ 64 < n
  · have e1 : ge (8 * s.size) a n = 1 := by unfold ge; rw [if_pos h1]
    have e2 : gk (8 * s.size) a n = 0 := by unfold gk; rw [e1]; rfl
    rw [e1, e2, got_zero]
    refine (get_arg A n W h1).mono ?_
    rintro e w1 ⟨rfl, rfl⟩
    exact ⟨rfl, h, chg_refl _ _⟩
  · obtain ⟨m, rfl⟩ := Int.eq_ofNat_of_zero_le (show 0 ≤ n by omega)
    by_cases h2 : 8 * s.size < a + m
    · have e1 : ge (8 * s.size) a m = 2 := by unfold ge; rw [if_neg h1, if_pos (by omega)]
      have e2 : gk (8 * s.size) a m = 0 := by unfold gk; rw [e1]; rfl
      rw [e1, e2, got_zero]
      refine (get_more A s a m W h hs ha (by omega) h2).mono ?_
      rintro e w1 ⟨rfl, rfl⟩
      exact ⟨rfl, h, chg_refl _ _⟩
    · have e1 : ge (8 * s.size) a m = 0 := by unfold ge; rw [if_neg h1, if_neg (by omega)]
      have e2 : gk (8 * s.size) a m = m := by unfold gk; rw [e1]; rfl
      rw [e1, e2]
      exact get_nat A s hs m a W h (by omega) (by omega)

end Go.Proofs.Ythjokhfjfiaaiaa
