/-
  Package back, Get and Left: for every reader and every length, by the length of what is still to be got.
-/
import Derived.Test.YtofclflcicjlaaaGreatRdb
import Derived.Test.YtofclflcicjlaaaGreatLy
import Derived.Test.YtofclflcicjlaaaGreatSc
import Derived.Test.YtofclflcicjlaaaGreatSg
import Derived.Test.YtofclflcicjlaaaGreatBuh
import Derived.Test.YtofclflcicjlaaaGreatRefHxh
import Derived.Test.YtofclflcicjlaaaGreatPuh
import Derived.Test.YtofclflcicjlaaaGreatRpyh
import Derived.Test.YtofclflcicjlaaaGreatTyh
namespace Go.Proofs.YtofclflcicjlaaaGreat
set_option maxRecDepth 100000
open Go.ChangeShapes Go.WideShapes Go.ChangeAt Go.RowKit
open Go.ChangeMaps (open_string shut_string)

theorem take_anyb (A : Nat) (s : ByteArray) (b n : Nat) (W : World) (h : Rdb W A s (b + n)) (hs : s.size ≤ 100000) (hn : 0 < n) (hp : b % 8 + n ≤ 8) (ha : b + n ≤ 8 * s.size) :
    Calls Tryz.prog 89 #[ptr A, .int .i64 n] W fun e W' => e = .returned (.int .u8 (got (le s.data.toList) b n)) ∧ Rdb W' A s b ∧ Chg (· = A) W W' := by
  have c0 : W.cell? ⟨A, 0, none⟩ = some (.string s) := by rw [blk_cell h]; rfl
  have c1 : W.cell? ⟨A, 1, none⟩ = some (.int .i64 ((b : Int) + n)) := by rw [blk_cell h]; rfl
  have f1 := blk_free h 1
  obtain ⟨L, hL⟩ : ∃ L : Nat, L = 2 ^ n - 1 := ⟨_, rfl⟩
  have hlt : b / 8 < s.size := by omega
  have G := got_byte s.data.toList b n (by rw [len_data]; omega) hp
  obtain ⟨q, hq⟩ : ∃ q : Nat, q = b / 8 := ⟨_, rfl⟩
  obtain ⟨p, hpp⟩ : ∃ p : Nat, p = b % 8 := ⟨_, rfl⟩
  have e0 : (b : Int) + n - n = (b : Int) := by omega
  have e1 : (b : Int) / 8 = (q : Int) := by omega
  have e2 : (b : Int) % 8 = (p : Int) := by omega
  have hql : q < s.size := by omega
  have hq1 : q ≤ 100000 := by omega
  have hp7 : p ≤ 7 := by omega
  have hz : ¬ (n : Int) = 0 := by omega
  have hb2 := blk_set h 1 (.int .i64 (b : Int))
  have d0 : (W.setCell ⟨A, 1, none⟩ (.int .i64 (b : Int))).cell? ⟨A, 0, none⟩ = some (.string s) := by rw [blk_cell hb2]; rfl
  have GH := Hid.intro G
  have HQ : Hid (q = b / 8 ∧ p = b % 8 ∧ L = 2 ^ n - 1) := ⟨hq, hpp, hL⟩
  have HB := Hid.intro hb2
  clear hn G hq hpp hL hb2 h
  unfold ptr
  go_enter Tryz.func89, Tryz.ntmps89
  go_wp2
  go_region
  go_wp2_with fail
  refine (low_any n L _ (by omega) HQ.out.2.2).mono ?_
  rintro e w1 ⟨rfl, rfl⟩
  go_wp2
  go_ret
  refine ⟨ret_int ?_, ?_, chg_drew (chg_set (chg_refl _ _) ⟨A, 1, none⟩ _ (fun _ => rfl))⟩
  · obtain ⟨rfl, rfl, rfl⟩ := HQ.out
    rw [GH.out, show ((s[b / 8].toNat : Int) / 2 ^ (b % 8)) = ((s[b / 8].toNat / 2 ^ (b % 8) : Nat) : Int) from by simp]
    exact and_low2 _ _ (Nat.lt_of_le_of_lt (Nat.div_le_self _ _) (UInt8.toNat_lt _)) (by omega)
  · have := blk_drew HB.out
    unfold Rdb
    simpa using this

theorem take_zerob (A : Nat) (W : World) : Calls Tryz.prog 89 #[ptr A, .int .i64 0] W fun e W' => e = .returned (.int .u8 0) ∧ W = W' := by
  unfold ptr
  go_enter Tryz.func89, Tryz.ntmps89
  go_wp2
  go_ret
  exact ⟨rfl, rfl⟩

/-- What a Get of n bits, behind which b are left, leaves. -/
def GotPostb (A : Nat) (s : ByteArray) (b n : Nat) (W : World) (e : Ending) (W' : World) : Prop :=
  e = .returned (.tuple #[.int .u64 (got (le s.data.toList) b n), .int .i64 0]) ∧ Rdb W' A s b ∧ Chg (· = A) W W'

set_option maxRecDepth 100000 in
theorem get_smallb (A : Nat) (s : ByteArray) (b n : Nat) (W : World) (h : Rdb W A s (b + n)) (hs : s.size ≤ 100000) (hp : b % 8 + n ≤ 8) (ha : b + n ≤ 8 * s.size) :
    Calls Tryz.prog 60 #[ptr A, .int .i64 n] W (GotPostb A s b n W) := by
  have c1 : W.cell? ⟨A, 1, none⟩ = some (.int .i64 ((b + n : Nat) : Int)) := by rw [blk_cell h]; rfl
  obtain ⟨r, hr⟩ : ∃ r : Nat, r = if b + n = 0 then 0 else (b + n - 1) % 8 + 1 := ⟨_, rfl⟩
  have T := last_any (b + n) r W (by omega) hr
  have hnr : n ≤ r := by rw [hr]; split <;> omega
  have hr8 : r ≤ 8 := by rw [hr]; split <;> omega
  have K : Calls Tryz.prog 89 #[ptr A, .int .i64 n] W fun e W' => e = .returned (.int .u8 (got (le s.data.toList) b n)) ∧ Rdb W' A s b ∧ Chg (· = A) W W' := by
    by_cases h0 : n = 0
    · subst h0
      refine (take_zerob A W).mono ?_
      rintro e w1 ⟨rfl, rfl⟩
      exact ⟨by rw [got_zero]; rfl, h, chg_refl _ _⟩
    · exact take_anyb A s b n W h hs (by omega) hp ha
  clear hr h
  unfold GotPostb
  have hg : got (le s.data.toList) b n < 256 := Nat.lt_of_lt_of_le (got_lt _ _ _) (pow_le_of (a := n) (b := 8) (by omega))
  generalize got (le s.data.toList) b n = y at *
  have hm : n ≤ b + n := by omega
  have hm8 : b + n ≤ 1000000 := by omega
  generalize b + n = m at *
  unfold ptr at *
  go_enter Tryz.func60, Tryz.ntmps60
  go_wp2_with (first | (go_at_call 87; refine T.mono ?_; rintro e w1 ⟨rfl, rfl⟩))
  refine K.mono ?_
  rintro e w1 ⟨rfl, k1, k2⟩
  go_wp2
  go_ret2
  exact ⟨rfl, k1, k2⟩

set_option maxRecDepth 100000 in
theorem getBoth_anyb (A : Nat) (s : ByteArray) (b r k : Nat) (W : World) (hk : k + r ≤ 64)
    (h1 : Calls Tryz.prog 60 #[ptr A, .int .i64 r] W (GotPostb A s (b + k) r W))
    (h2 : ∀ W', Rdb W' A s (b + k) → Calls Tryz.prog 60 #[ptr A, .int .i64 k] W' (GotPostb A s b k W')) :
    Calls Tryz.prog 88 #[.int .i64 r, .int .i64 k, .func (.func 60) #[ptr A] #[]] W (GotPostb A s b (k + r) W) := by
  have hj := u64_join (got (le s.data.toList) b k) (got (le s.data.toList) (b + k) r) k r (got_lt _ _ _) (got_lt _ _ _) hk
  rw [← got_two, ← IntKind.wrap_u64] at hj
  unfold GotPostb at *
  generalize got (le s.data.toList) b k = x at *
  generalize got (le s.data.toList) (b + k) r = y at *
  generalize got (le s.data.toList) b (k + r) = z at *
  unfold ptr at *
  go_enter Tryz.func88, Tryz.ntmps88
  go_wp2_with fail
  refine h1.mono ?_
  rintro e w1 ⟨rfl, k1, k2⟩
  go_wp2_with fail
  refine (h2 w1 k1).mono ?_
  rintro e w2 ⟨rfl, j1, j2⟩
  go_wp2
  go_ret2
  exact ⟨rfl, j1, chg_trans k2 j2 (fun _ _ h => h)⟩

set_option maxRecDepth 100000 in
theorem get_largeb (A : Nat) (s : ByteArray) (b n r : Nat) (W : World) (h : Rdb W A s (b + n)) (hs : s.size ≤ 100000) (ha : b + n ≤ 8 * s.size) (hr : r = (b + n - 1) % 8 + 1) (hn : r < n) (hn64 : n ≤ 64)
    (h2 : ∀ W', Rdb W' A s (b + (n - r)) → Calls Tryz.prog 60 #[ptr A, .int .i64 ((n - r : Nat) : Int)] W' (GotPostb A s b (n - r) W')) :
    Calls Tryz.prog 60 #[ptr A, .int .i64 n] W (GotPostb A s b n W) := by
  have c1 : W.cell? ⟨A, 1, none⟩ = some (.int .i64 ((b + n : Nat) : Int)) := by rw [blk_cell h]; rfl
  have T := last_any (b + n) r W (by omega) (by rw [if_neg (by omega)]; exact hr)
  have hrd : Rdb W A s (b + (n - r) + r) := by rw [show b + (n - r) + r = b + n from by omega]; exact h
  have B := getBoth_anyb A s b r (n - r) W (by omega) (get_smallb A s (b + (n - r)) r W hrd hs (by omega) (by omega)) h2
  rw [show n - r + r = n from by omega] at B
  clear h2 hrd h
  have hk : ((n : Int) - r) = ((n - r : Nat) : Int) := by omega
  have hk64 : n - r ≤ 64 := by omega
  have hr8 : r ≤ 8 := by omega
  clear hr
  generalize n - r = k at *
  unfold GotPostb at *
  generalize got (le s.data.toList) b n = z at *
  have hm : n ≤ b + n := by omega
  have hm8 : b + n ≤ 1000000 := by omega
  generalize b + n = m at *
  unfold ptr at *
  go_enter Tryz.func60, Tryz.ntmps60
  go_wp2_with (first | (go_at_call 87; refine T.mono ?_; rintro e w1 ⟨rfl, rfl⟩))
  refine B.mono ?_
  rintro e w1 ⟨rfl, k1, k2⟩
  go_wp2
  go_ret2
  exact ⟨rfl, k1, k2⟩

theorem get_natb (A : Nat) (s : ByteArray) (hs : s.size ≤ 100000) : ∀ (n b : Nat) (W : World), Rdb W A s (b + n) → b + n ≤ 8 * s.size → n ≤ 64 → Calls Tryz.prog 60 #[ptr A, .int .i64 n] W (GotPostb A s b n W) := by
  intro n
  induction n using Nat.strongRecOn with
  | _ n ih =>
    intro b W h ha hn
    by_cases h1 : b % 8 + n ≤ 8
    · exact get_smallb A s b n W h hs h1 ha
    · exact get_largeb A s b n ((b + n - 1) % 8 + 1) W h hs ha rfl (by omega) hn fun W' h' => ih (n - ((b + n - 1) % 8 + 1)) (by omega) b W' h' (by omega) (by omega)

theorem get_argb (A : Nat) (n : Int) (W : World) (h : n < 0 ∨ 64 < n) :
    Calls Tryz.prog 60 #[ptr A, .int .i64 n] W fun e W' => e = .returned (.tuple #[.int .u64 0, .int .i64 1]) ∧ W = W' := by
  unfold ptr
  rcases h with h | h
  · go_enter Tryz.func60, Tryz.ntmps60
    go_wp2
    go_ret2
    exact ⟨rfl, rfl⟩
  · have h0 : ¬ n < 0 := by omega
    go_enter Tryz.func60, Tryz.ntmps60
    go_wp2
    go_ret2
    exact ⟨rfl, rfl⟩

theorem get_moreb (A : Nat) (s : ByteArray) (a n : Nat) (W : World) (h : Rdb W A s a) (hn : n ≤ 64) (hm : a < n) :
    Calls Tryz.prog 60 #[ptr A, .int .i64 n] W fun e W' => e = .returned (.tuple #[.int .u64 0, .int .i64 2]) ∧ W = W' := by
  have c1 : W.cell? ⟨A, 1, none⟩ = some (.int .i64 (a : Int)) := by rw [blk_cell h]; rfl
  unfold ptr at *
  go_enter Tryz.func60, Tryz.ntmps60
  go_wp2
  go_ret2
  exact ⟨rfl, rfl⟩

theorem get_nil (n : Int) (W : World) : Calls Tryz.prog 60 #[.pointer none, .int .i64 n] W fun e W' => e = .returned (.tuple #[.int .u64 0, .int .i64 6]) ∧ W = W' := by
  go_enter Tryz.func60, Tryz.ntmps60
  go_wp2
  go_ret2
  exact ⟨rfl, rfl⟩
theorem left_anyb (A : Nat) (s : ByteArray) (a : Nat) (W : World) (h : Rdb W A s a) : Calls Tryz.prog 63 #[ptr A] W fun e W' => e = .returned (.int .i64 a) ∧ W = W' := by
  have c1 : W.cell? ⟨A, 1, none⟩ = some (.int .i64 (a : Int)) := by rw [blk_cell h]; rfl
  unfold ptr
  go_enter Tryz.func63, Tryz.ntmps63
  go_wp2
  go_ret
  exact ⟨rfl, rfl⟩

/-- The error of a Get of n bits where a are left; how many bits it takes. -/
def geb (a : Nat) (n : Int) : Nat := if n < 0 ∨ 64 < n then 1 else if (a : Int) < n then 2 else 0
def gkb (a : Nat) (n : Int) : Nat := if geb a n = 0 then n.toNat else 0
/-- What a Get leaves, whatever n. -/
theorem get_anyb (A : Nat) (s : ByteArray) (a : Nat) (n : Int) (W : World) (h : Rdb W A s a) (hs : s.size ≤ 100000) (ha : a ≤ 8 * s.size) :
    Calls Tryz.prog 60 #[ptr A, .int .i64 n] W fun e W' =>
      e = .returned (.tuple #[.int .u64 (got (le s.data.toList) (a - gkb a n) (gkb a n)), .int .i64 (geb a n)]) ∧ Rdb W' A s (a - gkb a n) ∧ Chg (· = A) W W' := by
  by_cases h1 : n < 0 ∨ 64 < n
  · have e1 : geb a n = 1 := by unfold geb; rw [if_pos h1]
    have e2 : gkb a n = 0 := by unfold gkb; rw [e1]; rfl
    rw [e1, e2, got_zero]
    refine (get_argb A n W h1).mono ?_
    rintro e w1 ⟨rfl, rfl⟩
    exact ⟨rfl, h, chg_refl _ _⟩
  · obtain ⟨m, rfl⟩ := Int.eq_ofNat_of_zero_le (show 0 ≤ n by omega)
    by_cases h2 : a < m
    · have e1 : geb a m = 2 := by unfold geb; rw [if_neg h1, if_pos (by omega)]
      have e2 : gkb a m = 0 := by unfold gkb; rw [e1]; rfl
      rw [e1, e2, got_zero]
      refine (get_moreb A s a m W h (by omega) h2).mono ?_
      rintro e w1 ⟨rfl, rfl⟩
      exact ⟨rfl, h, chg_refl _ _⟩
    · have e1 : geb a m = 0 := by unfold geb; rw [if_neg h1, if_neg (by omega)]
      have e2 : gkb a m = m := by unfold gkb; rw [e1]; rfl
      rw [e1, e2]
      exact get_natb A s hs m (a - m) W (by rw [show a - m + m = a from by omega]; exact h) (by omega) (by omega)
end Go.Proofs.YtofclflcicjlaaaGreat
