/-
  Package bits, the reader: From, left, take, and Get of bits that stand in one byte; package bits, Get: for every reader and every length, by the length of what is still to be got; objects that a call owns, two of them apart, Put for an owner; the document's example; the reference's row of bits: Put, for every number and every length; the reference's row of bits: its bytes.
-/
import Derived.Test.YtofclflcicjlaaaGreatBqh
import Derived.Test.YtofclflcicjlaaaGreatLy
import Derived.Test.YtofclflcicjlaaaGreatSc
import Derived.Test.YtofclflcicjlaaaGreatSg
import Derived.Deep.QuietTactic
import Derived.BigQuiet
import Derived.Deep.RegionLaw
import Derived.OwnWalk
namespace Go.Proofs.YtofclflcicjlaaaGreat
set_option maxRecDepth 100000
open Go.ChangeShapes Go.WideShapes Go.ChangeAt Go.RowKit
open Go.ChangeMaps (open_string shut_string)

theorem and_low2 (y m : Nat) (hy : y < 256) (hm : m ≤ 8) : bits .and .u8 (y : Int) ((2 ^ m - 1 : Nat) : Int) = ((y % 2 ^ m : Nat) : Int) := by
  have h8 : 2 ^ m ≤ 2 ^ 8 := pow_le_of hm
  have h88 : (2 : Nat) ^ 8 = 256 := rfl
  rw [u8_and_nat _ _ hy (by omega), Nat.and_two_pow_sub_one_eq_mod]

/-- Block A is a reader of s that has taken a bits. -/
def Rd (W : World) (A : Nat) (s : ByteArray) (a : Nat) : Prop := Blk W A #[.string s, .int .i64 a] 162

theorem from_any (s : ByteArray) (w : World) : Calls Tryz.prog 61 #[.string s] w fun e w' => e = .returned (ptr w.heap.size) ∧ Rd w' w.heap.size s 0 ∧ Chg (fun _ => False) w w' := by
  go_enter Tryz.func61, Tryz.ntmps61
  go_wp2
  go_ret
  exact ⟨rfl, blk_new _ _ _, chg_alloc (chg_refl _ _) _⟩

theorem left_any (A : Nat) (s : ByteArray) (a : Nat) (W : World) (h : Rd W A s a) (hs : s.size ≤ 100000) (ha : a ≤ 8 * s.size) (m : Nat) (hm : m = 8 * s.size - a) :
    Calls Tryz.prog 90 #[ptr A] W fun e W' => e = .returned (.int .i64 m) ∧ W' = W.drew := by
  have c0 : W.cell? ⟨A, 0, none⟩ = some (.string s) := by rw [blk_cell h]; rfl
  have c1 : W.cell? ⟨A, 1, none⟩ = some (.int .i64 a) := by rw [blk_cell h]; rfl
  have w1 : IntKind.i64.wrap ((s.size : Int) * 8) = (s.size : Int) * 8 := by rw [IntKind.wrap_i64]; omega
  have w2 : IntKind.i64.wrap ((s.size : Int) * 8 - a) = (s.size : Int) * 8 - a := by rw [IntKind.wrap_i64]; omega
  unfold ptr
  go_enter Tryz.func90, Tryz.ntmps90
  go_wp2
  go_region
  go_wp2
  go_ret
  exact ⟨ret_int (by omega), rfl⟩

theorem take_any (A : Nat) (s : ByteArray) (a n : Nat) (W : World) (h : Rd W A s a) (hs : s.size ≤ 100000) (hn : 0 < n) (hp : a % 8 + n ≤ 8) (ha : a + n ≤ 8 * s.size) :
    Calls Tryz.prog 92 #[ptr A, .int .i64 n] W fun e W' => e = .returned (.int .u8 (got (le s.data.toList) a n)) ∧ Rd W' A s (a + n) ∧ Chg (· = A) W W' := by
  have c0 : W.cell? ⟨A, 0, none⟩ = some (.string s) := by rw [blk_cell h]; rfl
  have c1 : W.cell? ⟨A, 1, none⟩ = some (.int .i64 a) := by rw [blk_cell h]; rfl
  have f1 := blk_free h 1
  obtain ⟨L, hL⟩ : ∃ L : Nat, L = 2 ^ n - 1 := ⟨_, rfl⟩
  have hlt : a / 8 < s.size := by omega
  have G := got_byte s.data.toList a n (by rw [len_data]; omega) hp
  obtain ⟨q, hq⟩ : ∃ q : Nat, q = a / 8 := ⟨_, rfl⟩
  obtain ⟨p, hpp⟩ : ∃ p : Nat, p = a % 8 := ⟨_, rfl⟩
  have e1 : (a : Int) / 8 = (q : Int) := by omega
  have e2 : (a : Int) % 8 = (p : Int) := by omega
  have hql : q < s.size := by omega
  have hq1 : q ≤ 100000 := by omega
  have hp7 : p ≤ 7 := by omega
  have hz : ¬ (n : Int) = 0 := by omega
  have GH : Hid (got (le s.data.toList) a n = s.data.toList[a / 8].toNat / 2 ^ (a % 8) % 2 ^ n) := G
  have HQ : Hid (q = a / 8 ∧ p = a % 8 ∧ L = 2 ^ n - 1) := ⟨hq, hpp, hL⟩
  clear hn G hq hpp hL
  unfold ptr
  go_enter Tryz.func92, Tryz.ntmps92
  go_wp2
  go_region
  go_wp2_with fail
  refine (lowest_any n L _ (by omega) HQ.out.2.2).mono ?_
  rintro e w1 ⟨rfl, rfl⟩
  go_wp2
  go_ret
  refine ⟨ret_int ?_, ?_, chg_drew (chg_set (chg_refl _ _) ⟨A, 1, none⟩ _ (fun _ => rfl))⟩
  · obtain ⟨rfl, rfl, rfl⟩ := HQ.out
    rw [GH.out, show ((s[a / 8].toNat : Int) / 2 ^ (a % 8)) = ((s[a / 8].toNat / 2 ^ (a % 8) : Nat) : Int) from by simp]
    exact and_low2 _ _ (Nat.lt_of_le_of_lt (Nat.div_le_self _ _) (UInt8.toNat_lt _)) (by omega)
  · have := blk_drew (blk_set h 1 (.int .i64 ((a : Int) + n)))
    unfold Rd
    simpa using this

theorem take_zero (A : Nat) (W : World) : Calls Tryz.prog 92 #[ptr A, .int .i64 0] W fun e W' => e = .returned (.int .u8 0) ∧ W = W' := by
  unfold ptr
  go_enter Tryz.func92, Tryz.ntmps92
  go_wp2
  go_ret
  exact ⟨rfl, rfl⟩

/-- What a Get of n bits, which are there, leaves. -/
def GotPost (A : Nat) (s : ByteArray) (a n : Nat) (W : World) (e : Ending) (W' : World) : Prop :=
  e = .returned (.tuple #[.int .u64 (got (le s.data.toList) a n), .int .i64 0]) ∧ Rd W' A s (a + n) ∧ Chg (· = A) W W'

theorem rd_drew {W : World} {A : Nat} {s : ByteArray} {a : Nat} (h : Rd W A s a) : Rd W.drew A s a := h

theorem get_small (A : Nat) (s : ByteArray) (a n : Nat) (W : World) (h : Rd W A s a) (hs : s.size ≤ 100000) (hp : a % 8 + n ≤ 8) (ha : a + n ≤ 8 * s.size) :
    Calls Tryz.prog 62 #[ptr A, .int .i64 n] W (GotPost A s a n W) := by
  have c1 : W.drew.cell? ⟨A, 1, none⟩ = some (.int .i64 a) := by rw [blk_cell (rd_drew h)]; rfl
  obtain ⟨r, hr⟩ : ∃ r : Nat, r = 8 - a % 8 := ⟨_, rfl⟩
  have T := toEnd_any a r W.drew (by omega) hr
  obtain ⟨m, hm⟩ : ∃ m : Nat, m = 8 * s.size - a := ⟨_, rfl⟩
  have LL := left_any A s a W h hs (by omega) m hm
  have hnm : n ≤ m := by omega
  have hnr : n ≤ r := by omega
  have hr8 : r ≤ 8 := by omega
  have hm8 : m ≤ 1000000 := by omega
  have K : Calls Tryz.prog 92 #[ptr A, .int .i64 n] W.drew fun e W' => e = .returned (.int .u8 (got (le s.data.toList) a n)) ∧ Rd W' A s (a + n) ∧ Chg (· = A) W.drew W' := by
    by_cases h0 : n = 0
    · subst h0
      refine (take_zero A W.drew).mono ?_
      rintro e w1 ⟨rfl, rfl⟩
      exact ⟨by rw [got_zero]; rfl, h, chg_refl _ _⟩
    · exact take_any A s a n W.drew h hs (by omega) hp ha
  clear hr hm
  unfold GotPost
  have hg : got (le s.data.toList) a n < 256 := Nat.lt_of_lt_of_le (got_lt _ _ _) (pow_le_of (a := n) (b := 8) (by omega))
  generalize got (le s.data.toList) a n = y at *
  unfold ptr at *
  go_enter Tryz.func62, Tryz.ntmps62
  go_wp2_with (first | (go_at_call 90; refine LL.mono ?_; rintro e w1 ⟨rfl, rfl⟩) | (go_at_call 80; refine T.mono ?_; rintro e w1 ⟨rfl, rfl⟩))
  refine K.mono ?_
  rintro e w1 ⟨rfl, k1, k2⟩
  go_wp2
  go_ret2
  exact ⟨rfl, k1, chg_trans (chg_drew (chg_refl _ _)) k2 (fun _ _ h => h)⟩

theorem u64_join (x y r m : Nat) (hx : x < 2 ^ r) (hy : y < 2 ^ m) (h : r + m ≤ 64) : bits .or .u64 (x : Int) ((y : Int) * 2 ^ r % 18446744073709551616) = ((x + y * 2 ^ r : Nat) : Int) := by
  have h1 : (y + 1) * 2 ^ r ≤ 2 ^ m * 2 ^ r := Nat.mul_le_mul_right _ hy
  rw [← Nat.pow_add, Nat.add_mul, Nat.one_mul] at h1
  have h2 : 2 ^ (m + r) ≤ 2 ^ 64 := pow_le_of (by omega)
  have h3 : (2 : Nat) ^ 64 = 18446744073709551616 := rfl
  have h4 : y * 2 ^ r < 18446744073709551616 := by omega
  have e : (y : Int) * 2 ^ r % 18446744073709551616 = ((y * 2 ^ r : Nat) : Int) := by
    rw [show (y : Int) * 2 ^ r = ((y * 2 ^ r : Nat) : Int) from by simp]; exact Int.emod_eq_of_lt (Int.natCast_nonneg _) (Int.ofNat_lt.2 h4)
  rw [e, u64_or_nat _ _ (by omega) h4, or_hi _ _ _ hx]

set_option maxRecDepth 100000 in
theorem getBoth_any (A : Nat) (s : ByteArray) (a r k : Nat) (W : World) (hr : r ≤ 8) (hk : r + k ≤ 64)
    (h1 : Calls Tryz.prog 62 #[ptr A, .int .i64 r] W (GotPost A s a r W))
    (h2 : ∀ W', Rd W' A s (a + r) → Calls Tryz.prog 62 #[ptr A, .int .i64 k] W' (GotPost A s (a + r) k W')) :
    Calls Tryz.prog 91 #[.int .i64 r, .int .i64 k, .func (.func 62) #[ptr A] #[]] W (GotPost A s a (r + k) W) := by
  have hj := u64_join (got (le s.data.toList) a r) (got (le s.data.toList) (a + r) k) r k (got_lt _ _ _) (got_lt _ _ _) hk
  rw [← got_two, ← IntKind.wrap_u64] at hj
  unfold GotPost at *
  generalize got (le s.data.toList) a r = x at *
  generalize got (le s.data.toList) (a + r) k = y at *
  generalize got (le s.data.toList) a (r + k) = z at *
  unfold ptr at *
  go_enter Tryz.func91, Tryz.ntmps91
  go_wp2_with fail
  refine h1.mono ?_
  rintro e w1 ⟨rfl, k1, k2⟩
  go_wp2_with fail
  refine (h2 w1 k1).mono ?_
  rintro e w2 ⟨rfl, j1, j2⟩
  go_wp2
  go_ret2
  refine ⟨rfl, ?_, chg_trans k2 j2 (fun _ _ h => h)⟩
  rw [← Nat.add_assoc]; exact j1

set_option maxRecDepth 100000 in
theorem get_large (A : Nat) (s : ByteArray) (a n r : Nat) (W : World) (h : Rd W A s a) (hs : s.size ≤ 100000) (ha : a + n ≤ 8 * s.size) (hr : r = 8 - a % 8) (hn : r < n) (hn64 : n ≤ 64)
    (h2 : ∀ W', Rd W' A s (a + r) → Calls Tryz.prog 62 #[ptr A, .int .i64 ((n - r : Nat) : Int)] W' (GotPost A s (a + r) (n - r) W')) :
    Calls Tryz.prog 62 #[ptr A, .int .i64 n] W (GotPost A s a n W) := by
  have c1 : W.drew.cell? ⟨A, 1, none⟩ = some (.int .i64 a) := by rw [blk_cell (rd_drew h)]; rfl
  have T := toEnd_any a r W.drew (by omega) hr
  obtain ⟨m, hm⟩ : ∃ m : Nat, m = 8 * s.size - a := ⟨_, rfl⟩
  have LL := left_any A s a W h hs (by omega) m hm
  have B := getBoth_any A s a r (n - r) W.drew (by omega) (by omega) (get_small A s a r W.drew h hs (by omega) (by omega)) h2
  rw [show r + (n - r) = n from by omega] at B
  clear h2
  have hk : ((n : Int) - r) = ((n - r : Nat) : Int) := by omega
  have hk64 : n - r ≤ 64 := by omega
  have hr8 : r ≤ 8 := by omega
  have hnm : n ≤ m := by omega
  have hm8 : m ≤ 1000000 := by omega
  clear hr hm
  generalize n - r = k at *
  unfold GotPost at *
  generalize got (le s.data.toList) a n = z at *
  unfold ptr at *
  go_enter Tryz.func62, Tryz.ntmps62
  go_wp2_with (first | (go_at_call 90; refine LL.mono ?_; rintro e w1 ⟨rfl, rfl⟩) | (go_at_call 80; refine T.mono ?_; rintro e w1 ⟨rfl, rfl⟩))
  refine B.mono ?_
  rintro e w1 ⟨rfl, k1, k2⟩
  go_wp2
  go_ret2
  exact ⟨rfl, k1, chg_trans (chg_drew (chg_refl _ _)) k2 (fun _ _ h => h)⟩

theorem get_nat (A : Nat) (s : ByteArray) (hs : s.size ≤ 100000) : ∀ (n a : Nat) (W : World), Rd W A s a → a + n ≤ 8 * s.size → n ≤ 64 → Calls Tryz.prog 62 #[ptr A, .int .i64 n] W (GotPost A s a n W) := by
  intro n
  induction n using Nat.strongRecOn with
  | _ n ih =>
    intro a W h ha hn
    by_cases h1 : a % 8 + n ≤ 8
    · exact get_small A s a n W h hs h1 ha
    · exact get_large A s a n (8 - a % 8) W h hs ha rfl (by omega) hn fun W' h' => ih (n - (8 - a % 8)) (by omega) _ W' h' (by omega) (by omega)

theorem get_arg (A : Nat) (n : Int) (W : World) (h : n < 0 ∨ 64 < n) :
    Calls Tryz.prog 62 #[ptr A, .int .i64 n] W fun e W' => e = .returned (.tuple #[.int .u64 0, .int .i64 1]) ∧ W = W' := by
  unfold ptr
  rcases h with h | h
  · go_enter Tryz.func62, Tryz.ntmps62
    go_wp2
    go_ret2
    exact ⟨rfl, rfl⟩
  · have h0 : ¬ n < 0 := by omega
    go_enter Tryz.func62, Tryz.ntmps62
    go_wp2
    go_ret2
    exact ⟨rfl, rfl⟩

theorem get_more (A : Nat) (s : ByteArray) (a n : Nat) (W : World) (h : Rd W A s a) (hs : s.size ≤ 100000) (ha : a ≤ 8 * s.size) (hn : n ≤ 64) (hm : 8 * s.size < a + n) :
    Calls Tryz.prog 62 #[ptr A, .int .i64 n] W fun e W' => e = .returned (.tuple #[.int .u64 0, .int .i64 2]) ∧ W' = W.drew := by
  obtain ⟨m, hm'⟩ : ∃ m : Nat, m = 8 * s.size - a := ⟨_, rfl⟩
  have LL := left_any A s a W h hs (by omega) m hm'
  have hnm : m < n := by omega
  clear hm hm'
  unfold ptr at *
  go_enter Tryz.func62, Tryz.ntmps62
  go_wp2_with (first | (go_at_call 90; refine LL.mono ?_; rintro e w1 ⟨rfl, rfl⟩))
  go_ret2
  exact ⟨rfl, rfl⟩

/-- The error of a Get of n bits of L behind the place a; how many bits it takes. -/
def ge (L a : Nat) (n : Int) : Nat := if n < 0 ∨ 64 < n then 1 else if (L : Int) < a + n then 2 else 0
def gk (L a : Nat) (n : Int) : Nat := if ge L a n = 0 then n.toNat else 0
/-- What a Get leaves, whatever n. -/
def GetPost (A : Nat) (s : ByteArray) (a : Nat) (n : Int) (W : World) (e : Ending) (W' : World) : Prop :=
  e = .returned (.tuple #[.int .u64 (got (le s.data.toList) a (gk (8 * s.size) a n)), .int .i64 (ge (8 * s.size) a n)]) ∧ Rd W' A s (a + gk (8 * s.size) a n) ∧ Chg (· = A) W W'

theorem get_any (A : Nat) (s : ByteArray) (a : Nat) (n : Int) (W : World) (h : Rd W A s a) (hs : s.size ≤ 100000) (ha : a ≤ 8 * s.size) :
    Calls Tryz.prog 62 #[ptr A, .int .i64 n] W (GetPost A s a n W) := by
  unfold GetPost
  by_cases h1 : n < 0 ∨ 64 < n
  · have e1 : ge (8 * s.size) a n = 1 := by unfold ge; rw [if_pos h1]
    have e2 : gk (8 * s.size) a n = 0 := by unfold gk; rw [e1]; rfl
    rw [e1, e2, got_zero]
    refine (get_arg A n W h1).mono ?_
    rintro e w1 ⟨rfl, rfl⟩
    exact ⟨rfl, h, chg_refl _ _⟩
  · obtain ⟨m, rfl⟩ := Int.eq_ofNat_of_zero_le (show 0 ≤ n by omega)
    by_cases h2 : 8 * s.size < a + m
    · have e1 : ge (8 * s.size) a m = 2 := by unfold ge; rw [if_neg h1, if_pos (by omega)]
      have e2 : gk (8 * s.size) a m = 0 := by unfold gk; rw [e1]; rfl
      rw [e1, e2, got_zero]
      refine (get_more A s a m W h hs ha (by omega) h2).mono ?_
      rintro e w1 ⟨rfl, rfl⟩
      exact ⟨rfl, h, chg_refl _ _⟩
    · have e1 : ge (8 * s.size) a m = 0 := by unfold ge; rw [if_neg h1, if_neg (by omega)]
      have e2 : gk (8 * s.size) a m = m := by unfold gk; rw [e1]; rfl
      rw [e1, e2]
      exact get_nat A s hs m a W h (by omega) (by omega)

/-- What lies at A and in v came from block B on. -/
def Up (B A : Nat) (v : Value) : Prop := B ≤ A ∧ ∀ k, v.ownBlock = some k → B ≤ k
theorem up_nil (B A : Nat) (h : B ≤ A) : Up B A (.slice none 0 0) := ⟨h, fun k hk => by simp [Value.ownBlock] at hk⟩
theorem up_moved {B A : Nat} {v v' : Value} {W : World} (h : Up B A v) (m : Moved W v v') (hB : B ≤ W.heap.size) : Up B A v' :=
  ⟨h.1, fun k hk => (m k hk).elim (h.2 k) (fun g => Nat.le_trans hB g)⟩
theorem up_foot {B A : Nat} {v : Value} (h : Up B A v) (k : Nat) (hk : foot A v k) : B ≤ k := hk.elim (fun e => e ▸ h.1) (h.2 k)
theorem below_foot {w W W' : World} {A : Nat} {v : Value} (hb : Below w.heap.size w W) (hc : Chg (foot A v) W W') (hu : Up w.heap.size A v) : Below w.heap.size w W' :=
  hb.trans (chg_below hc hb.size (up_foot hu))
theorem below_no {w W W' : World} (hb : Below w.heap.size w W) (hc : Chg (fun _ => False) W W') : Below w.heap.size w W' :=
  hb.trans (chg_below hc hb.size (fun _ h => h.elim))
theorem below_one {w W W' : World} {A : Nat} (hb : Below w.heap.size w W) (hc : Chg (· = A) W W') (hu : w.heap.size ≤ A) : Below w.heap.size w W' :=
  hb.trans (chg_below hc hb.size (fun _ h => h ▸ hu))
theorem new_own {w W : World} (hb : Below w.heap.size w W) : Calls Tryz.prog 52 #[] W fun e W' => ∃ A, e = .returned (ptr A) ∧ W.heap.size ≤ A ∧ Wr W' A (.slice none 0 0) 0 0 ∧ Up w.heap.size A (.slice none 0 0) ∧ Below w.heap.size w W' ∧ Chg (fun _ => False) W W' := by
  refine (new_any W).mono ?_
  rintro e W' ⟨rfl, a1, a2⟩
  exact ⟨_, rfl, Nat.le_refl _, a1, up_nil _ _ hb.size, below_no hb a2, a2⟩

theorem from_own {w W : World} (s : ByteArray) (hb : Below w.heap.size w W) : Calls Tryz.prog 61 #[.string s] W fun e W' => ∃ A, e = .returned (ptr A) ∧ W.heap.size ≤ A ∧ Rd W' A s 0 ∧ w.heap.size ≤ A ∧ Below w.heap.size w W' ∧ Chg (fun _ => False) W W' := by
  refine (from_any s W).mono ?_
  rintro e W' ⟨rfl, a1, a2⟩
  exact ⟨_, rfl, Nat.le_refl _, a1, hb.size, below_no hb a2, a2⟩

/-- What a Get leaves, for one who owns the reader. -/
theorem get_own {w W : World} (A : Nat) (s : ByteArray) (a : Nat) (n : Int) (h : Rd W A s a) (hu : w.heap.size ≤ A) (hb : Below w.heap.size w W) (hs : s.size ≤ 100000) (ha : a ≤ 8 * s.size)
    (a' : Nat) (y : Nat) (er : Nat) (e1 : a + gk (8 * s.size) a n = a') (e2 : got (le s.data.toList) a (gk (8 * s.size) a n) = y) (e3 : ge (8 * s.size) a n = er) :
    Calls Tryz.prog 62 #[ptr A, .int .i64 n] W fun e W' => e = .returned (.tuple #[.int .u64 y, .int .i64 er]) ∧ Rd W' A s a' ∧ Below w.heap.size w W' ∧ Chg (· = A) W W' := by
  subst e1 e2 e3
  refine (get_any A s a n W h hs ha).mono ?_
  rintro e W' ⟨rfl, k1, k2⟩
  exact ⟨rfl, k1, below_one hb k2 hu, k2⟩
theorem run_push8 {P : Program} (w : World) (t ty : TypeId)
    (i : TypeInfo) (h1 : P.underlying t = some (.slice 5)) (h2 : P.info? 5 = some i) (h3 : i.zero = some (.int .u8 0)) (h4 : i.size = 1) (h5 : i.bytes = 1)
    (v : Value) (n : Nat) (l : List UInt8) (hown : w.ownsRow 0 5 1 v n (l.map byteV)) (hl : n ≤ 1000000)
    (ad : Addr) (z : Int) (c : UInt8) (hz : z = (c.toNat : Int)) (hc : w.cell? ad = some (.int .u8 z)) :
    ∃ v' w', (Builtin.append_ #[t, t] ty #[v, .slice (some ad) 1 1]).run P w = .ok v' w' ∧ w'.ownsRow 0 5 1 v' (n + 1) ((l ++ [c]).map byteV) ∧ w.grownBy w' v.ownBlock ∧ Moved w v v' := by
  subst hz
  have hmap : (l ++ [c]).map byteV = l.map byteV ++ [.int .u8 (c.toNat : Int)] := by simp [byteV]
  have hcn : ∀ j u, [Value.int .u8 (c.toNat : Int)][j]? = some u → w.cell? (ad.add j) = some u := by
    intro j u hj
    match j, hj with
    | 0, hj => simp at hj; subst hj; simpa [Addr.add] using hc
  rcases hown.2 with ⟨hv, hn0⟩ | ⟨g, cap, cur, hv, _, hgb, hcap, _, hsz, ht⟩
  · subst hn0
    have hl0 : l = [] := by have := hown.1; simpa using this
    subst hl0
    obtain ⟨v', w', r0, r1, r2, _⟩ := run_append_own (P := P) w w.heap.size t ty 5 i (.int .u8 0) 1 1 h1 h2 h3 h4 h5 rfl (by decide) v 0 [] (by rw [hv]; exact World.ownsRow_nil _ _ _ _) ad 1 1 _ rfl hcn (by intro u hu; simp at hu; subst hu; rfl) (by simp only [maxLen]; omega) (by omega) (Nat.le_refl _)
    exact ⟨v', w', r0, by rw [hmap]; exact own_low8 r1, r2, fun k hk => .inr (r1.lt k hk).1⟩
  · have hlen : l.length = n := by have := hown.1; simpa using this
    subst hv
    have holds : ∀ j u, (l.map byteV)[j]? = some u → w.cell? ((⟨g, 0, none⟩ : Addr).add j) = some u := fun j u hj => hown.cells (g := g) rfl j u hj
    by_cases hr : n + 1 ≤ cap
    · have hrun := run_append_room_cells (P := P) w t ty 5 i h1 h2 g 0 n cap ad 1 1 [.int .u8 (c.toNat : Int)] (by simp [h4]) hcn (by intro u hu; simp at hu; subst hu; rfl) hr
        (by intro j hj; simp at hj; subst hj; rw [blk_cell hgb]; simp [h4]; omega) (by intro j hj; exact blk_free hgb _)
      refine ⟨_, _, hrun, ?_⟩
      simp only [h4, Nat.mul_one, Nat.zero_add, World.setCells]
      refine ⟨⟨by simp; omega, .inr ⟨g, cap, cur.setIfInBounds n (.int .u8 (c.toNat : Int)), rfl, Nat.zero_le _, ?_, hr, by omega, by simpa using hsz, ?_⟩⟩, ⟨rfl, rfl, rfl, by rw [Go.Deep.nblk_setCell]; exact Nat.le_refl _, fun k _ hk => Below.heap_setCell _ _ _ _ (fun e => hk (by rw [e]; rfl))⟩, fun k hk => .inl hk⟩
      · have := blk_set hgb n (.int .u8 (c.toNat : Int))
        simpa [Blk] using this
      · rw [Nat.mul_one] at ht ⊢
        have hnc : n < cur.toList.length := by simp; omega
        rw [Array.toList_setIfInBounds, List.take_set, List.take_succ_eq_append_getElem hnc, ht, hmap, List.set_append_right _ _ (by simp; omega)]
        simp [hlen]
    · obtain ⟨v', w', r0, r1, r2⟩ := run_append_arg_grows (P := P) w t ty 5 i (.int .u8 0) 1 1 h1 h2 h3 h4 h5 rfl (by decide) ⟨g, 0, none⟩ n cap (l.map byteV) (by simp; omega) holds ad 1 1 _ rfl hcn (by omega) (by simp only [maxLen]; omega) (by omega)
      exact ⟨v', w', r0, by rw [hmap]; exact own_low8 r1, ⟨r2.os, r2.tape, r2.output, r2.size, fun k hk _ => r2.block k hk (by simp)⟩, fun k hk => .inr (r1.lt k hk).1⟩

/-- One byte behind a row, as one step of a region that draws. -/
theorem step_push8 {P : Program} {ops : Array Oper} {o : Oper} {a : Act} {w : World} {K : Act → World → Prop} {Q : Exit → Act → World → Prop} {E : Prop}
    (hg : o.guard = none) (s x : Operand) (t : TypeId) (hop : o.op = Op.call { callee := Callee.builtin Builtin.append, args := #[s, x], argTypes := #[t, t] })
    (i : TypeInfo) (h1 : P.underlying t = some (.slice 5)) (h2 : P.info? 5 = some i) (h3 : i.zero = some (.int .u8 0)) (h4 : i.size = 1) (h5 : i.bytes = 1)
    (v : Value) (n : Nat) (l : List UInt8) (hs : a.eval s = v) (hown : w.ownsRow 0 5 1 v n (l.map byteV)) (hl : n ≤ 1000000)
    (ad : Addr) (z : Int) (c : UInt8) (hz : z = (c.toNat : Int)) (hx : a.eval x = .slice (some ad) 1 1) (hc : w.cell? ad = some (.int .u8 z))
    (hK : ∀ v' w', w'.ownsRow 0 5 1 v' (n + 1) ((l ++ [c]).map byteV) → w.grownBy w' v.ownBlock → Moved w v v' → K (a.put o.dst v') w') :
    if Region.wanted o (yielded ops a.tmps) = true then Oper.wp P o a w K Q else E := by
  have hw : Region.wanted o (yielded ops a.tmps) = true := by simp [Region.wanted, hg]
  rw [if_pos hw]
  obtain ⟨v', w', hrun, r1, r2, r3⟩ := run_push8 (P := P) w t o.type i h1 h2 h3 h4 h5 v n l hown hl ad z c hz hc
  unfold Oper.wp
  simp [execOp, hop, resolve, invoke, builtin, hs, hx, hrun, Result.andThen]
  exact hK v' w' r1 r2 r3

/-- Block A is the reference's row of sz bits, the number N; its bits lie in v. -/
def Ro (W : World) (A : Nat) (v : Value) (sz N : Nat) : Prop :=
  Blk W A #[v] 71 ∧ W.ownsRow 0 5 1 v sz ((bit N sz).map byteV) ∧ v.ownBlock ≠ some A ∧ N < 2 ^ sz

def RpRel (A : Nat) (v : Value) (sz N x m : Nat) (W : World) (iv : Value) (wr : World) : Prop :=
  ∃ (i : Nat) (v' : Value), i ≤ m ∧ iv = .int .i64 i ∧ Ro wr A v' (sz + i) (N + x % 2 ^ i * 2 ^ sz) ∧ Chg (foot A v) W wr ∧ Moved W v v'

theorem and_one (y : Nat) (h : y < 18446744073709551616) : bits .and .u64 (y : Int) 1 = ((y % 2 : Nat) : Int) := by
  rw [show (1 : Int) = ((1 : Nat) : Int) from rfl, u64_and_nat _ _ h (by decide), Nat.and_one_is_mod]

theorem push_facts {w1 w2 : World} {A : Nat} {v1 : Value} (hb1 : Blk w1 A #[v1] 71) (d3 : v1.ownBlock ≠ some A) (g2 : w1.grownBy w2 v1.ownBlock) :
    w2.cell? ⟨A, 0, none⟩ = some v1 ∧ w2.frozen? ⟨A, 0, none⟩ = false ∧ Hid (Blk w2 A #[v1] 71) := by
  have hb : Blk w2 A #[v1] 71 := (g2.block A (blk_lt hb1) (fun e => d3 e.symm)).trans hb1
  exact ⟨by rw [blk_cell hb]; rfl, blk_free hb 0, hb⟩

theorem ro_step {W wr w1 w2 : World} {A n : Nat} {v v1 v2 : Value} {xs : List Value} (d1 : Blk wr A #[v1] 71) (d3 : v1.ownBlock ≠ some A) (d5 : Chg (foot A v) W wr) (d6 : Moved W v v1)
    (h1 : Chg (fun _ => False) wr w1) (g7 : Blk w2 A #[v1] 71) (G1 : w2.ownsRow 0 5 1 v2 n xs) (G2 : w1.grownBy w2 v1.ownBlock) (G3 : Moved w1 v1 v2) :
    Blk (w2.setCell ⟨A, 0, none⟩ v2) A #[v2] 71 ∧ (w2.setCell ⟨A, 0, none⟩ v2).ownsRow 0 5 1 v2 n xs ∧ v2.ownBlock ≠ some A ∧ Chg (foot A v) W (w2.setCell ⟨A, 0, none⟩ v2) ∧ Moved W v v2 := by
  have hA : A < w1.heap.size := Nat.lt_of_lt_of_le (blk_lt d1) (chg_size h1)
  have hne : v2.ownBlock ≠ some A := fun e => by
    rcases G3 A e with h | h
    · exact d3 h
    · omega
  have c1 : Chg (foot A v) W w1 := chg_trans d5 h1 (fun _ _ h => h.elim)
  have c2 : Chg (foot A v) W w2 := chg_grown c1 G2 (fun k hk hlt => by
    rcases d6 k hk with h | h
    · exact .inr h
    · omega)
  refine ⟨by simpa using blk_set g7 0 v2, own_kept (S := (· = A)) G1 (chg_set (chg_refl _ _) _ _ (fun _ => rfl)) (fun k hk e => hne (by rw [hk, e])), hne, chg_set c2 _ _ (fun _ => .inl rfl), fun k hk => ?_⟩
  rcases G3 k hk with h | h
  · exact d6 k h
  · exact .inr (Nat.le_trans (chg_size c1) h)

set_option maxRecDepth 100000 in
set_option maxHeartbeats 1000000 in
theorem rput_walk (A : Nat) (v : Value) (sz N x m : Nat) (n t : Int) (W : World) (h : Ro W A v sz N) (hsz : sz ≤ 100000) (hx : x < 18446744073709551616)
    (e1 : (if (64 : Int) < n then 64 else n) = t) (e2 : (if (0 : Int) < t then t else 0) = (m : Int)) (hm : m ≤ 64) :
    Calls Tryz.prog 57 #[ptr A, .int .u64 x, .int .i64 n] W fun e W' => e = .returned (.tuple #[]) ∧ ∃ v', Ro W' A v' (sz + m) (N + x % 2 ^ m * 2 ^ sz) ∧ Chg (foot A v) W W' ∧ Moved W v v' := by
  unfold ptr
  have e1' : min n 64 = t := by rw [← e1]; split <;> omega
  have e2' : max (0 : Int) t = (m : Int) := by rw [← e2]; split <;> omega
  obtain ⟨i0, hi0, hz0, hz1, hz2⟩ := info_parts info5
  go_enter Tryz.func57, Tryz.ntmps57
  go_wp2_with fail
  try simp only [e1, e2]
  try simp only [e1']
  try simp only [e2']
  clear e1 e2 e1' e2'
  go_loopw [6] (fun iv wr => RpRel A v sz N x m W iv wr) (fun iv _ => m - (intOf iv).toNat)
  case atStart => exact ⟨0, v, by omega, rfl, by simpa [Nat.mod_one] using h, chg_refl _ _, fun k hk => .inl hk⟩
  case round =>
    clear h
    obtain ⟨i, v1, hi, rfl, ⟨d1, d2, d3, d4⟩, d5, d6⟩ := hrel
    by_cases hlt : i < m
    · have c0 : wr.cell? ⟨A, 0, none⟩ = some v1 := by rw [blk_cell d1]; rfl
      have f0 := blk_free d1 0
      have hd : ((x : Int) / 2 ^ i) = ((x / 2 ^ i : Nat) : Int) := by simp
      have hband := and_one (x / 2 ^ i) (Nat.lt_of_le_of_lt (Nat.div_le_self _ _) hx)
      have hz : x / 2 ^ i % 2 < 2 := Nat.mod_lt _ (by decide)
      have HB := bit_put (N + x % 2 ^ i * 2 ^ sz) (sz + i) (x / 2 ^ i % 2) d4
      have HN : Hid (N + x % 2 ^ (i + 1) * 2 ^ sz = N + x % 2 ^ i * 2 ^ sz + x / 2 ^ i % 2 * 2 ^ (sz + i)) := by
        show _ = _
        rw [mod_succ, Nat.add_mul, ← Nat.add_assoc, Nat.mul_assoc, ← Nat.pow_add, Nat.add_comm i]
      generalize x / 2 ^ i = y at *
      rw [Nat.mod_mod] at HB
      have hN' : Hid (N + x % 2 ^ i * 2 ^ sz + y % 2 * 2 ^ (sz + i) < 2 ^ (sz + i + 1)) := by
        have := put_lt _ _ y 1 d4
        rw [Nat.pow_one] at this
        exact this
      generalize y % 2 = b at *
      generalize N + x % 2 ^ i * 2 ^ sz = M at *
      have HB' : Hid (bit (M + b * 2 ^ (sz + i)) (sz + i + 1) = bit M (sz + i) ++ [UInt8.ofNat b]) := HB
      clear HB d4
      have hu8 : IntKind.u8.wrap (b : Int) = (b : Int) := by rw [IntKind.wrap_u8]; omega
      have hlt1 := blk_lt d1
      go_wp2_with fail
      go_region_law (refine step_push8 rfl (.tmp 19) (.tmp 25) 48 rfl i0 Tryz.underlying48 hi0 hz0 hz1 hz2 v1 (sz + i) (bit M (sz + i)) rfl (World.ownsRow.alloc d2 _) (by omega) ⟨wr.heap.size, 0, none⟩ b (UInt8.ofNat b) (by rw [u8_of _ (by omega)]) rfl (by simp) ?_; intro v2 w2 g1 g2 g3; obtain ⟨g5, g6, g7⟩ := push_facts (blk_drew (blk_alloc d1 _)) d3 g2; have G1 := Hid.intro g1; have G2 := Hid.intro g2; have G3 := Hid.intro g3; obtain ⟨g, cap, cur, rfl, _, _, _, _, _⟩ := own_at8 g1 (Nat.succ_pos _); clear g1 g2 g3)
      all_goals
        obtain ⟨k1, k2, k3, k4, k5⟩ := ro_step d1 d3 d5 d6 (chg_drew (chg_alloc (chg_refl _ wr) _)) g7.out G1.out G2.out G3.out
        have hro : Ro (w2.setCell ⟨A, 0, none⟩ (.slice (some ⟨g, 0, none⟩) (sz + i + 1) cap)) A (.slice (some ⟨g, 0, none⟩) (sz + i + 1) cap) (sz + (i + 1)) (N + x % 2 ^ (i + 1) * 2 ^ sz) := by
          rw [HN.out]
          exact ⟨k1, by rw [← Nat.add_assoc, HB'.out]; exact k2, k3, hN'.out⟩
        clear k1 k2 k3 g5 g6 G1 G2 G3 d1 d2
        generalize w2.setCell ⟨A, 0, none⟩ (.slice (some ⟨g, 0, none⟩) (sz + i + 1) cap) = w3 at *
        go_wp2
        go_roundw
        case rel => exact ⟨i + 1, _, by omega, by go_num, hro, k4, k5⟩
        case measure => simp [intOf]; omega
    · obtain rfl : i = m := by omega
      go_wp2
      go_end0
      exact ⟨rfl, v1, ⟨d1, d2, d3, d4⟩, d5, d6⟩

theorem rput_any (A : Nat) (v : Value) (sz N x : Nat) (n : Int) (W : World) (h : Ro W A v sz N) (hsz : sz ≤ 100000) (hx : x < 18446744073709551616) :
    Calls Tryz.prog 57 #[ptr A, .int .u64 x, .int .i64 n] W fun e W' => e = .returned (.tuple #[]) ∧ ∃ v', Ro W' A v' (sz + cl n) (N + x % 2 ^ cl n * 2 ^ sz) ∧ Chg (foot A v) W W' ∧ Moved W v v' :=
  rput_walk A v sz N x (cl n) n (if (64 : Int) < n then 64 else n) W h hsz hx rfl (by unfold cl; (repeat' split) <;> omega) (cl_le n)

def RbRel (A : Nat) (v : Value) (sz N q G : Nat) (W : World) (iv : Value) (wr : World) : Prop :=
  ∃ (i : Nat), i ≤ sz ∧ iv = .int .i64 i ∧ wr.ownsRow 0 5 1 (.slice (some ⟨G, 0, none⟩) q q) q ((byt (N % 2 ^ i) q).map byteV) ∧ Ro wr A v sz N ∧ Chg (fun _ => False) W wr

theorem ro_kept {W W' : World} {S : Nat → Prop} {A : Nat} {v : Value} {sz N : Nat} (h : Ro W A v sz N) (g : Chg S W W') (hS : ∀ k, foot A v k → ¬ S k) : Ro W' A v sz N :=
  ⟨blk_kept h.1 g (hS A (.inl rfl)), own_kept h.2.1 g (fun k hk => hS k (.inr hk)), h.2.2.1, h.2.2.2⟩
theorem ro_lt {W : World} {A : Nat} {v : Value} {sz N : Nat} (h : Ro W A v sz N) (k : Nat) (hk : foot A v k) : k < W.heap.size :=
  hk.elim (fun e => e ▸ blk_lt h.1) (fun e => (h.2.1.lt k e).2)
/-- How many bits there are is the row's length. -/
theorem ro_val {W : World} {A : Nat} {v : Value} {sz N : Nat} (h : Ro W A v sz N) : ∃ a cap, v = .slice a sz cap := by
  rcases h.2.1.2 with ⟨hv, h0⟩ | ⟨g, cap, cur, hv, _⟩
  · exact ⟨none, 0, by rw [hv, h0]⟩
  · exact ⟨_, cap, hv⟩

theorem made_zero (n : Nat) : (madeCells (Value.int .u8 0).cells (n * 1)).toList = (byt 0 n).map byteV := by
  rw [show (Value.int .u8 0).cells = #[Value.int .u8 0] from rfl, Nat.mul_one, toList_madeCells_one]
  refine List.ext_getElem (by simp [byt_len]) fun j h1 h2 => ?_
  simp [byt, byteV]

theorem byte_or (N i : Nat) : bits .or .u8 ((N % 2 ^ i / 256 ^ (i / 8) % 256 : Nat) : Int) (((N / 2 ^ i % 2 : Nat) : Int) * 2 ^ (i % 8) % 256) = ((N % 2 ^ i / 256 ^ (i / 8) % 256 + N / 2 ^ i % 2 * 2 ^ (i % 8) : Nat) : Int) ∧
    N % 2 ^ i / 256 ^ (i / 8) % 256 + N / 2 ^ i % 2 * 2 ^ (i % 8) < 256 := by
  have hm : N % 2 ^ i < 2 ^ i := Nat.mod_lt _ (Nat.pow_pos (by decide))
  have ht := top_lt _ _ hm
  have h3 : 2 ^ (i % 8) ≤ 2 ^ 7 := pow_le_of (by omega)
  have h4 : N / 2 ^ i % 2 * 2 ^ (i % 8) ≤ 1 * 2 ^ (i % 8) := Nat.mul_le_mul_right _ (by omega)
  have h5 : (2 : Nat) ^ 7 = 128 := rfl
  have h6 : N % 2 ^ i / 256 ^ (i / 8) % 256 = N % 2 ^ i / 256 ^ (i / 8) := Nat.mod_eq_of_lt (by omega)
  rw [h6]
  have hlt : N / 2 ^ i % 2 * 2 ^ (i % 8) < 256 := by omega
  refine ⟨?_, by omega⟩
  have e : ((N / 2 ^ i % 2 : Nat) : Int) * 2 ^ (i % 8) % 256 = ((N / 2 ^ i % 2 * 2 ^ (i % 8) : Nat) : Int) := by
    rw [show ((N / 2 ^ i % 2 : Nat) : Int) * 2 ^ (i % 8) = ((N / 2 ^ i % 2 * 2 ^ (i % 8) : Nat) : Int) from by simp]; exact Int.emod_eq_of_lt (Int.natCast_nonneg _) (Int.ofNat_lt.2 hlt)
  rw [e, u8_or_nat _ _ (by omega) hlt, or_hi _ _ _ ht]

set_option maxRecDepth 100000 in
set_option maxHeartbeats 1000000 in
theorem rbytes_any (A : Nat) (v : Value) (sz N : Nat) (W : World) (h : Ro W A v sz N) (hsz : sz ≤ 100000) :
    Calls Tryz.prog 29 #[ptr A] W fun e W' => e = .returned (.string (bs (byt N (byc sz)))) ∧ Chg (fun _ => False) W W' := by
  obtain ⟨i0, hi0, hz0, hz1, hz2⟩ := info_parts info5
  obtain ⟨av, cap, rfl⟩ := ro_val h
  have c0 : W.cell? ⟨A, 0, none⟩ = some (.slice av sz cap) := by rw [blk_cell h.1]; rfl
  obtain ⟨q, hq⟩ : ∃ q : Nat, q = byc sz := ⟨_, rfl⟩
  have hq1 : ((sz : Int) + 7) / 8 = (q : Int) := by rw [hq]; unfold byc; omega
  have HQ : Hid (q = byc sz) := hq
  have hq2 : q ≤ 20000 := by rw [hq]; unfold byc; omega
  have hq3 : sz ≤ 8 * q := by rw [hq]; unfold byc; omega
  rw [← hq]
  clear hq
  unfold ptr
  go_enter Tryz.func29, Tryz.ntmps29
  go_wp2_with (at_make; refine wpList_make_full _ rfl (.tmp 11) (.tmp 11) 48 rfl 0 5 i0 (.int .u8 0) 1 Tryz.underlying48 hi0 hz0 hz1 .i64 .i64 _ _ q rfl rfl hq1 hq1 (by rw [hz2]; omega) (by simp only [maxLen]; omega) (Nat.zero_le _) ?_)
  intro w1 m1 m2
  have n1 : Chg (fun _ => False) W w1 := chg_grown (chg_refl _ _) m2 (fun k hk => by cases hk)
  have o1 : w1.ownsRow 0 5 1 (.slice (some ⟨W.heap.size, 0, none⟩) q q) q ((byt (N % 2 ^ 0) q).map byteV) := by
    have := made_zero q
    rw [show (Value.int .u8 0).cells = #[Value.int .u8 0] from rfl, Nat.mul_one] at this
    rw [this] at m1
    simpa [Nat.mod_one] using m1
  have h1 := ro_kept h n1 (fun _ _ h => h)
  have hG : Hid (∀ k, foot A (.slice av sz cap) k → ¬ (k = W.heap.size)) := fun k hk e => by have := ro_lt h k hk; omega
  have hGW : Hid (W.heap.size ≤ W.heap.size) := Nat.le_refl _
  clear m1 m2 h c0
  generalize hGG : W.heap.size = G at o1 hG ⊢
  have HG : Hid (W.heap.size = G) := hGG
  clear hGG hGW
  go_wp2_with fail
  try simp only [hq1]
  clear hq1
  go_loopw [4] (fun iv wr => RbRel A (.slice av sz cap) sz N q G W iv wr) (fun iv _ => sz - (intOf iv).toNat)
  case atStart => exact ⟨0, by omega, rfl, o1, h1, n1⟩
  case round =>
    clear o1 h1 n1
    obtain ⟨i, hi, rfl, d1, d2, d3⟩ := hrel
    have c0 : wr.cell? ⟨A, 0, none⟩ = some (.slice av sz cap) := by rw [blk_cell d2.1]; rfl
    by_cases hlt : i < sz
    · obtain ⟨g, cap', cur, hv, hc, hg, hcs, ht, hl⟩ := own_at8 d2.2.1 (by omega)
      injection hv with e1 _ e3
      subst e1 e3
      obtain ⟨g', cap'', cur', hv', hc', hg', hcs', ht', hl'⟩ := own_at8 d1 (by omega)
      injection hv' with e1 _ e3
      injection e1 with e1
      injection e1 with e1
      subst e1 e3
      have cb := own_cell8 hg ht i (by rw [bit_len]; exact hlt) hl
      rw [bit_get, byteV, u8_of _ (by omega)] at cb
      have cg := own_cell8 hg' ht' (i / 8) (by rw [byt_len]; omega) hl'
      rw [byt_get, byteV, u8_of _ (by omega)] at cg
      have fg := blk_free hg' (i / 8)
      obtain ⟨hor, hT⟩ := byte_or N i
      have hset := own_set8 d1 (i / 8) (UInt8.ofNat (N % 2 ^ i / 256 ^ (i / 8) % 256 + N / 2 ^ i % 2 * 2 ^ (i % 8))) _ (show ((N % 2 ^ i / 256 ^ (i / 8) % 256 + N / 2 ^ i % 2 * 2 ^ (i % 8) : Nat) : Int) = _ from by rw [u8_of _ hT])
      rw [← byt_set] at hset
      have HSET := Hid.intro hset
      have hT1 : N % 2 ^ i / 256 ^ (i / 8) % 256 < 256 := Nat.mod_lt _ (by decide)
      have hb2 : N / 2 ^ i % 2 < 2 := Nat.mod_lt _ (by decide)
      clear hset d1 ht ht' hl hl' hc hc' hcs hcs' hT
      generalize N % 2 ^ i / 256 ^ (i / 8) % 256 + N / 2 ^ i % 2 * 2 ^ (i % 8) = Y at *
      generalize N % 2 ^ i / 256 ^ (i / 8) % 256 = T at *
      generalize N / 2 ^ i % 2 = b at *
      have l8 : i / 8 < q := by omega
      have p8 : i % 8 < 8 := by omega
      have q1 : (i : Int) / 8 = ((i / 8 : Nat) : Int) := by omega
      have q2 : (i : Int) % 8 = ((i % 8 : Nat) : Int) := by omega
      generalize i / 8 = qq at *
      generalize i % 8 = pp at *
      go_wp2_with fail
      go_region
      have o2 : (wr.setCell ⟨G, qq, none⟩ (.int .u8 Y)).drew.ownsRow 0 5 1 (.slice (some ⟨G, 0, none⟩) q q) q ((byt (N % 2 ^ (i + 1)) q).map byteV) := HSET.out
      have r2 := ro_kept (S := (· = G)) d2 (chg_drew (chg_set (chg_refl _ _) ⟨G, qq, none⟩ (.int .u8 (Y : Int)) (fun _ => rfl))) hG.out
      have k2 : Chg (fun _ => False) W (wr.setCell ⟨G, qq, none⟩ (.int .u8 Y)).drew := chg_drew (chg_set d3 ⟨G, qq, none⟩ _ (fun hlt => by have := HG.out; simp at hlt; omega))
      clear HSET d2 d3 c0 cb cg fg hg hg'
      generalize (wr.setCell ⟨G, qq, none⟩ (.int .u8 Y)).drew = w3 at *
      go_wp2
      go_roundw
      case rel => exact ⟨i + 1, by omega, by go_num, o2, r2, k2⟩
      case measure => simp [intOf]; omega
    · obtain rfl : i = sz := by omega
      rw [Nat.mod_eq_of_lt d2.2.2.2] at d1
      have hcv := own_string d1
      go_wp2
      go_ret
      exact ⟨rfl, d3⟩
end Go.Proofs.YtofclflcicjlaaaGreat
