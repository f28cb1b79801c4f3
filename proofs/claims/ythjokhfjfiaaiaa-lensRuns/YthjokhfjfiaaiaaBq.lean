/-
  Package bits, Put: for every number and every length, by the length of what is still to be put.
-/
import Derived.Test.YthjokhfjfiaaiaaBp
namespace Go.Proofs.Ythjokhfjfiaaiaa
open Go.ChangeShapes Go.WideShapes Go.ChangeAt Go.RowKit
open Go.ChangeMaps (open_string shut_string)

theorem and_low (x m : Nat) (hm : m ≤ 8) : bits .and .u8 ((x : Int) % 256) ((2 ^ m - 1 : Nat) : Int) = ((x % 2 ^ m : Nat) : Int) := by
  have h8 : 2 ^ m ≤ 2 ^ 8 := pow_le_of hm
  have h88 : (2 : Nat) ^ 8 = 256 := rfl
  rw [show (x : Int) % 256 = ((x % 256 : Nat) : Int) from by omega, u8_and_nat _ _ (Nat.mod_lt _ (by decide)) (by omega), Nat.and_two_pow_sub_one_eq_mod]
  have e : (256 : Nat) = 2 ^ m * 2 ^ (8 - m) := by rw [← Nat.pow_add, show m + (8 - m) = 8 from by omega]
  conv => lhs; rw [e]
  rw [Nat.mod_mul_right_mod]

theorem put_zero (A : Nat) (v : Value) (sz N x : Nat) (n : Int) (W : World) (h : Wr W A v sz N) (hsz : sz ≤ 1000000) (hn : n ≤ 0) (hn0 : -9223372036854775808 ≤ n) :
    Calls Try.prog 24 #[ptr A, .int .u64 x, .int .i64 n] W (PutPost A v sz N x 0 W) := by
  have c1 : W.cell? ⟨A, 1, none⟩ = some (.int .i64 sz) := by rw [blk_cell h.1]; rfl
  have hcl : (if n < 0 then 0 else n) = 0 := by split <;> omega
  obtain ⟨r, hr⟩ : ∃ r : Nat, r = 8 - sz % 8 := ⟨_, rfl⟩
  have T := toEnd_any sz r W (by omega) hr
  have hr1 : 1 ≤ r := by omega
  have hr8 : r ≤ 8 := by omega
  clear hr
  unfold ptr
  go_enter Try.func24, Try.ntmps24
  go_wp2_with (go_at_call 36; refine T.mono ?_; rintro e w1 ⟨rfl, rfl⟩)
  go_end0
  exact ⟨rfl, v, by simpa [Nat.mod_one] using h, chg_refl _ _, fun k hk => .inl hk⟩

theorem put_small (A : Nat) (v : Value) (sz N x m : Nat) (W : World) (h : Wr W A v sz N) (hsz : sz ≤ 1000000) (_hx : x < 18446744073709551616) (hm : 0 < m) (hm8 : sz % 8 + m ≤ 8) :
    Calls Try.prog 24 #[ptr A, .int .u64 x, .int .i64 m] W (PutPost A v sz N x m W) := by
  have c1 : W.cell? ⟨A, 1, none⟩ = some (.int .i64 sz) := by rw [blk_cell h.1]; rfl
  obtain ⟨r, hr⟩ : ∃ r : Nat, r = 8 - sz % 8 := ⟨_, rfl⟩
  have T := toEnd_any sz r W (by omega) hr
  have F := fill_any A v sz N (x % 2 ^ m) m W h (Nat.mod_lt _ (Nat.pow_pos (by decide))) hm hm8 hsz
  have hb := and_low x m (by omega)
  obtain ⟨L, hL⟩ : ∃ L : Nat, L = 2 ^ m - 1 := ⟨_, rfl⟩
  have LL := lowest_any m L W (by omega) hL
  rw [← hL] at hb
  unfold PutPost
  generalize x % 2 ^ m = y at *
  clear hL
  have hmr : m ≤ r := by omega
  have hr8 : r ≤ 8 := by omega
  clear hr hm8
  unfold ptr at *
  go_enter Try.func24, Try.ntmps24
  go_wp2_with (first | (go_at_call 36; refine T.mono ?_; rintro e w1 ⟨rfl, rfl⟩) | (go_at_call 39; refine LL.mono ?_; rintro e w1 ⟨rfl, rfl⟩))
  refine F.mono ?_
  rintro e w1 ⟨rfl, v1, k1, k2, k3⟩
  go_wp2
  go_end0
  exact ⟨rfl, v1, k1, k2, k3⟩
set_option maxRecDepth 100000 in
/-- Both of putBoth's puts. -/
theorem both_any (A : Nat) (v : Value) (sz N x r k : Nat) (W : World) (_hx : x < 18446744073709551616) (hr : r ≤ 8) (_hk : k ≤ 64)
    (h1 : Calls Try.prog 24 #[ptr A, .int .u64 x, .int .i64 r] W (PutPost A v sz N x r W))
    (h2 : ∀ v' W', Wr W' A v' (sz + r) (N + x % 2 ^ r * 2 ^ sz) → Calls Try.prog 24 #[ptr A, .int .u64 ((x : Int) / 2 ^ r), .int .i64 k] W' (PutPost A v' (sz + r) (N + x % 2 ^ r * 2 ^ sz) (x / 2 ^ r) k W')) :
    Calls Try.prog 37 #[.int .u64 x, .int .i64 r, .int .i64 k, .func (.func 24) #[ptr A] #[]] W (PutPost A v sz N x (r + k) W) := by
  unfold ptr at *
  go_enter Try.func37, Try.ntmps37
  go_wp2_with fail
  refine h1.mono ?_
  rintro e w1 ⟨rfl, v1, k1, k2, k3⟩
  go_wp2_with (first | (go_at_call 24; refine (h2 v1 w1 k1).mono ?_; rintro e w2 ⟨rfl, v2, j1, j2, j3⟩))
  go_end0
  refine ⟨rfl, v2, ?_, chg_trans k2 j2 ?_, ?_⟩
  · have := j1
    rw [Nat.add_assoc, put_put] at this
    exact this
  · rintro i hi (rfl | e)
    · exact .inl rfl
    · rcases k3 i e with h | h
      · exact .inr h
      · omega
  · intro i e
    rcases j3 i e with h | h
    · exact k3 i h
    · exact .inr (Nat.le_trans (chg_size k2) h)

set_option maxRecDepth 100000 in
theorem put_large (A : Nat) (v : Value) (sz N x : Nat) (n : Int) (m r : Nat) (W : World) (h : Wr W A v sz N) (hsz : sz ≤ 1000000) (hx : x < 18446744073709551616) (hn : n ≤ 9223372036854775807)
    (hcl : (0 ≤ n ∧ n ≤ 64 ∧ n = m) ∨ (64 < n ∧ m = 64)) (hr : r = 8 - sz % 8) (hm : r < m)
    (h2 : ∀ v' W', Wr W' A v' (sz + r) (N + x % 2 ^ r * 2 ^ sz) → Calls Try.prog 24 #[ptr A, .int .u64 ((x : Int) / 2 ^ r), .int .i64 ((m - r : Nat) : Int)] W' (PutPost A v' (sz + r) (N + x % 2 ^ r * 2 ^ sz) (x / 2 ^ r) (m - r) W')) :
    Calls Try.prog 24 #[ptr A, .int .u64 x, .int .i64 n] W (PutPost A v sz N x m W) := by
  have c1 : W.cell? ⟨A, 1, none⟩ = some (.int .i64 sz) := by rw [blk_cell h.1]; rfl
  have T := toEnd_any sz r W (by omega) hr
  have hm64 : m ≤ 64 := by omega
  have B := both_any A v sz N x r (m - r) W hx (by omega) (by omega) (put_small A v sz N x r W h hsz hx (by omega) (by omega)) h2
  rw [show r + (m - r) = m from by omega] at B
  clear h2
  have hr8 : r ≤ 8 := by omega
  have hr1 : 1 ≤ r := by omega
  clear hr
  have hk : ((m : Int) - r) = ((m - r : Nat) : Int) := by omega
  have hk64 : m - r ≤ 64 := by omega
  generalize m - r = k at *
  unfold ptr at *
  rcases hcl with ⟨a1, a2, rfl⟩ | ⟨a1, hm'⟩
  · clear a1
    go_enter Try.func24, Try.ntmps24
    go_wp2_with (first | (go_at_call 36; refine T.mono ?_; rintro e w1 ⟨rfl, rfl⟩))
    refine B.mono ?_
    rintro e w1 ⟨rfl, v1, k1, k2, k3⟩
    go_wp2
    go_end0
    exact ⟨rfl, v1, k1, k2, k3⟩
  · have b1 : ¬ n < 0 := by omega
    have hk' : (64 : Int) - r = (k : Int) := by omega
    have hr64 : r < 64 := by omega
    clear hk hm hm64 hm'
    go_enter Try.func24, Try.ntmps24
    go_wp2_with (first | (go_at_call 36; refine T.mono ?_; rintro e w1 ⟨rfl, rfl⟩))
    refine B.mono ?_
    rintro e w1 ⟨rfl, v1, k1, k2, k3⟩
    go_wp2
    go_end0
    exact ⟨rfl, v1, k1, k2, k3⟩

/-- Put of m bits, m at most 64. -/
theorem put_nat (A : Nat) : ∀ (m : Nat) (v : Value) (sz N x : Nat) (W : World), Wr W A v sz N → sz + 100 ≤ 1000000 + (64 - m) → x < 18446744073709551616 → m ≤ 64 →
    Calls Try.prog 24 #[ptr A, .int .u64 x, .int .i64 m] W (PutPost A v sz N x m W) := by
  intro m
  induction m using Nat.strongRecOn with
  | _ m ih =>
    intro v sz N x W h hsz hx hm
    by_cases h0 : m = 0
    · subst h0; exact put_zero A v sz N x 0 W h (by omega) (by omega) (by omega)
    by_cases h1 : sz % 8 + m ≤ 8
    · exact put_small A v sz N x m W h (by omega) hx (by omega) h1
    · refine put_large A v sz N x m m (8 - sz % 8) W h (by omega) hx (by omega) (.inl ⟨by omega, by omega, rfl⟩) rfl (by omega) fun v' W' h' => ?_
      have hd : ((x : Int) / 2 ^ (8 - sz % 8)) = ((x / 2 ^ (8 - sz % 8) : Nat) : Int) := by simp
      rw [hd]
      exact ih (m - (8 - sz % 8)) (by omega) v' _ _ _ W' h' (by omega) (Nat.lt_of_le_of_lt (Nat.div_le_self _ _) hx) (by omega)

/-- How many bits a Put of n bits puts. -/
def cl (n : Int) : Nat := if n < 0 then 0 else if 64 < n then 64 else n.toNat
theorem cl_le (n : Int) : cl n ≤ 64 := by unfold cl; split <;> (try split) <;> omega
theorem cl_nat (m : Nat) (h : m ≤ 64) : cl m = m := by unfold cl; split <;> (try split) <;> omega

theorem put_any (A : Nat) (v : Value) (sz N x : Nat) (n : Int) (W : World) (h : Wr W A v sz N) (hsz : sz ≤ 999000) (hx : x < 18446744073709551616) (hn0 : -9223372036854775808 ≤ n) (hn1 : n ≤ 9223372036854775807) :
    Calls Try.prog 24 #[ptr A, .int .u64 x, .int .i64 n] W (PutPost A v sz N x (cl n) W) := by
  by_cases h0 : n < 0
  · rw [show cl n = 0 from by simp [cl, h0]]
    exact put_zero A v sz N x n W h (by omega) (by omega) hn0
  by_cases h1 : 64 < n
  · rw [show cl n = 64 from by simp [cl, h0, h1]]
    refine put_large A v sz N x n 64 (8 - sz % 8) W h (by omega) hx hn1 (.inr ⟨h1, rfl⟩) rfl (by omega) fun v' W' h' => ?_
    have hd : ((x : Int) / 2 ^ (8 - sz % 8)) = ((x / 2 ^ (8 - sz % 8) : Nat) : Int) := by simp
    rw [hd]
    exact put_nat A _ v' _ _ _ W' h' (by omega) (Nat.lt_of_le_of_lt (Nat.div_le_self _ _) hx) (by omega)
  · obtain ⟨m, rfl⟩ := Int.eq_ofNat_of_zero_le (show 0 ≤ n by omega)
    rw [cl_nat m (by omega)]
    exact put_nat A m v sz N x W h (by omega) hx (by omega)
end Go.Proofs.Ythjokhfjfiaaiaa
