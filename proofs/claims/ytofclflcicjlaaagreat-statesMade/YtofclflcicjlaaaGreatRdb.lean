/-
  Rows of bits as plain numbers: the bytes of a number, its bits, what is put behind and what is got: no Go in sight; each condition stands at its theorem; numbers put in a row with a mark behind them, the last byte, the place of the highest bit: no Go in sight; each condition stands at its theorem; objects in memory: which blocks a call may change; a writer of bits and a reader of bits as blocks; what stays of them when other blocks change; objects that a call owns, two of them apart, Put and New for an owner; bits joined; package back, the reader: its small functions, and where the mark stands.
-/
import Derived.Test.YtofclflcicjlaaaGreatLy
import Derived.Test.YtofclflcicjlaaaGreatSc
import Derived.Test.YtofclflcicjlaaaGreatSg
import Derived.Test.YtofclflcicjlaaaGreatBuh
import Derived.Test.YtofclflcicjlaaaGreatRefHxh
import Derived.Test.YtofclflcicjlaaaGreatPuh
import Derived.Test.YtofclflcicjlaaaGreatRpyh
import Derived.Test.YtofclflcicjlaaaGreatTyh
import Derived.Laws.BitsAllLaws
import Derived.WalkSmall
import Derived.WalkKit
import Derived.ProofKit
import Derived.OpenShut
import Derived.ArgAppend
import Derived.Laws.IdiomStrings
import Derived.Deep.Heap
import Derived.Lib.Strings
import Derived.Lib.Slices
import Derived.Lib.Small
import Derived.Lib.Walk
import Derived.Lib.BitFns
import Derived.Deep.QuietTactic
import Derived.BigQuiet
namespace Go.Proofs.YtofclflcicjlaaaGreat
open Go.ChangeShapes Go.WideShapes Go.ChangeAt Go.RowKit
open Go.ChangeMaps (open_string shut_string)
set_option maxRecDepth 100000
set_option maxRecDepth 100000
theorem size_bs (l : List UInt8) : (bs l).size = l.length := by simp [bs, ByteArray.size]
theorem bs_data (l : List UInt8) : (bs l).data.toList = l := rfl
theorem le_lt (l : List UInt8) : le l < 256 ^ l.length := by
  induction l with
  | nil => simp [le]
  | cons d l ih => simp only [le, List.length_cons, Nat.pow_succ]; have := d.toNat_lt; omega
theorem lt_byc (N sz : Nat) (h : N < 2 ^ sz) : N < 256 ^ byc sz := by
  rw [pow256]; exact Nat.lt_of_lt_of_le h (pow_le_of (by unfold byc; omega))
theorem szs_le (K : Nat → Nat) (hK : ∀ i, K i ≤ 64) (i : Nat) : szs K i ≤ 64 * i := by
  induction i with
  | zero => simp [szs]
  | succ i ih => have := hK i; rw [szs]; omega
/-- The bytes of N and a bit 1 above its sz bits. -/
def sealed (N sz : Nat) : ByteArray := bs (byt (N + 2 ^ sz) (sz / 8 + 1))
theorem sealed_size (N sz : Nat) : (sealed N sz).size = sz / 8 + 1 := by rw [sealed, size_bs, byt_len]
theorem mark_lt (N sz : Nat) (h : N < 2 ^ sz) : N + 2 ^ sz < 2 ^ (sz + 1) := by rw [Nat.pow_succ]; omega
theorem sealed_le (N sz : Nat) (h : N < 2 ^ sz) : le (sealed N sz).data.toList = N + 2 ^ sz := by
  rw [sealed, bs_data, le_byt, Nat.mod_eq_of_lt]
  have := lt_byc _ _ (mark_lt N sz h)
  rwa [show byc (sz + 1) = sz / 8 + 1 from by unfold byc; omega] at this

/-- Where the highest 1 stands. -/
theorem log_eq (x k : Nat) (h1 : 2 ^ k ≤ x) (h2 : x < 2 ^ (k + 1)) : Nat.log2 x = k := by
  have h0 : x ≠ 0 := by have : 0 < 2 ^ k := Nat.pow_pos (by decide); omega
  exact (Nat.log2_eq_iff h0).2 ⟨h1, h2⟩
theorem log_mark (N sz : Nat) (h : N < 2 ^ sz) : Nat.log2 (N + 2 ^ sz) = sz := log_eq _ _ (by omega) (mark_lt N sz h)

/-- The last byte; 0 if there is none. -/
def last (s : ByteArray) : Nat := le s.data.toList / 256 ^ (s.size - 1)
theorem last_get (s : ByteArray) (i : Nat) (h : i < s.size) (e : i + 1 = s.size) : s[i].toNat = last s := by
  have h1 := le_lt s.data.toList
  have h2 := le_get s.data.toList i (by rw [len_data]; exact h)
  rw [len_data, ← e, Nat.pow_succ] at h1
  have h3 : le s.data.toList / 256 ^ i < 256 := (Nat.div_lt_iff_lt_mul (Nat.pow_pos (by decide))).2 (by rw [Nat.mul_comm]; exact h1)
  rw [Nat.mod_eq_of_lt h3] at h2
  rw [last, show s.size - 1 = i from by omega, h2]
  rfl
theorem last_nil (s : ByteArray) (h : s.size = 0) : last s = 0 := by
  have h1 := le_lt s.data.toList
  rw [len_data, h, Nat.pow_zero, Nat.lt_one_iff] at h1
  rw [last, h1, Nat.zero_div]
theorem last_lt (s : ByteArray) : last s < 256 := by
  by_cases h : s.size = 0
  · rw [last_nil s h]; decide
  · rw [← last_get s (s.size - 1) (by omega) (by omega)]; exact UInt8.toNat_lt _
theorem log_last (s : ByteArray) (h : last s ≠ 0) : Nat.log2 (le s.data.toList) = 8 * (s.size - 1) + Nat.log2 (last s) := by
  have h1 : 2 ^ Nat.log2 (last s) ≤ last s := Nat.log2_self_le h
  have h2 : last s < 2 ^ (Nat.log2 (last s) + 1) := Nat.lt_log2_self
  have hp : 0 < 256 ^ (s.size - 1) := Nat.pow_pos (by decide)
  have e : 2 ^ (8 * (s.size - 1)) = 256 ^ (s.size - 1) := (pow256 _).symm
  refine log_eq _ _ ?_ ?_
  · rw [Nat.pow_add, e, Nat.mul_comm]; exact (Nat.le_div_iff_mul_le hp).1 h1
  · rw [Nat.add_assoc, Nat.pow_add, e, Nat.mul_comm]; exact (Nat.div_lt_iff_lt_mul hp).1 h2
theorem log_le7 (s : ByteArray) (h : last s ≠ 0) : Nat.log2 (last s) ≤ 7 := by
  have h1 : 2 ^ Nat.log2 (last s) ≤ last s := Nat.log2_self_le h
  have h2 := last_lt s
  by_cases g : Nat.log2 (last s) ≤ 7
  · exact g
  · have : 2 ^ 8 ≤ 2 ^ Nat.log2 (last s) := pow_le_of (by omega)
    have h8 : (2 : Nat) ^ 8 = 256 := rfl
    omega
theorem log_lt (s : ByteArray) (h : last s ≠ 0) : 0 < s.size ∧ Nat.log2 (le s.data.toList) < 8 * s.size := by
  have h0 : 0 < s.size := by
    by_cases g : s.size = 0
    · exact absurd (last_nil s g) h
    · omega
  have := log_last s h
  have := log_le7 s h
  exact ⟨h0, by omega⟩
theorem last_sealed (N sz : Nat) (h : N < 2 ^ sz) : last (sealed N sz) ≠ 0 := by
  rw [last, sealed_le N sz h, sealed_size, Nat.add_sub_cancel, pow256]
  have h1 : 2 ^ (8 * (sz / 8)) ≤ N + 2 ^ sz := Nat.le_trans (pow_le_of (by omega)) (Nat.le_add_left _ _)
  have := Nat.div_pos h1 (Nat.pow_pos (by decide))
  omega
/-- Above the highest 1 all bits are 0, and it is 1. -/
theorem got_mark (x : Nat) (h : x ≠ 0) : got x (Nat.log2 x) 1 = 1 := by
  have h1 : 2 ^ Nat.log2 x ≤ x := Nat.log2_self_le h
  have h2 : x < 2 ^ (Nat.log2 x + 1) := Nat.lt_log2_self
  have hp : 0 < 2 ^ Nat.log2 x := Nat.pow_pos (by decide)
  unfold got
  have h3 : 1 ≤ x / 2 ^ Nat.log2 x := (Nat.le_div_iff_mul_le hp).2 (by omega)
  have h4 : x / 2 ^ Nat.log2 x < 2 := (Nat.div_lt_iff_lt_mul hp).2 (by rw [Nat.mul_comm, ← Nat.pow_succ]; exact h2)
  omega
theorem got_above (x a : Nat) (h : Nat.log2 x < a) : got x a 1 = 0 := by
  have h2 : x < 2 ^ (Nat.log2 x + 1) := Nat.lt_log2_self
  unfold got
  rw [Nat.div_eq_of_lt (Nat.lt_of_lt_of_le h2 (pow_le_of h)), Nat.zero_mod]
theorem own_keptb {W W' : World} {S : Nat → Prop} {v : Value} {n : Nat} {xs : List Value} (h : W.ownsRow 0 5 1 v n xs) (g : Chg S W W') (hS : ∀ k, v.ownBlock = some k → ¬ S k) : W'.ownsRow 0 5 1 v n xs := by
  refine ⟨h.1, ?_⟩
  rcases h.2 with hn | ⟨b, cap, cur, rfl, hb, hg, rest⟩
  · exact .inl hn
  · exact .inr ⟨b, cap, cur, rfl, hb, (g.2.2.2.2 b (Array.getElem?_eq_some_iff.1 hg).1 (hS b rfl)).trans hg, rest⟩

/-- A row of bytes with at least one: where it lies. -/
theorem own_at {W : World} {v : Value} {n : Nat} {l : List UInt8} (h : W.ownsRow 0 5 1 v n (l.map byteV)) (hn : 0 < n) :
    ∃ g cap cur, v = .slice (some ⟨g, 0, none⟩) n cap ∧ n ≤ cap ∧ Blk W g cur 5 ∧ cap ≤ cur.size ∧ cur.toList.take n = l.map byteV ∧ l.length = n := by
  obtain ⟨h1, h2⟩ := h
  rcases h2 with ⟨_, h0⟩ | ⟨g, cap, cur, hv, _, hg, hc, _, hs, ht⟩
  · omega
  · exact ⟨g, cap, cur, hv, hc, hg, by omega, by simpa using ht, by simpa using h1⟩

theorem own_cell {W : World} {g n : Nat} {cur : Array Value} {l : List UInt8} (h : Blk W g cur 5) (ht : cur.toList.take n = l.map byteV) (j : Nat) (hj : j < l.length) (hn : l.length = n) :
    W.cell? ⟨g, j, none⟩ = some (byteV l[j]) := by
  rw [blk_cell h]
  have : (cur.toList.take n)[j]? = some (byteV l[j]) := by rw [ht]; simp [hj]
  rw [List.getElem?_take, if_pos (by omega)] at this
  simpa using this
/-- What a Put leaves, for one who owns the writer. -/
theorem put_own {w W : World} (A : Nat) (v : Value) (sz N x : Nat) (n : Int) (h : Wr W A v sz N) (hu : Up w.heap.size A v) (hb : Below w.heap.size w W) (hsz : sz ≤ 999000) (hx : x < 18446744073709551616) (hn0 : -9223372036854775808 ≤ n) (hn1 : n ≤ 9223372036854775807)
    (sz' N' : Nat) (e1 : sz + cl n = sz') (e2 : N + x % 2 ^ cl n * 2 ^ sz = N') :
    Calls Tryz.prog 53 #[ptr A, .int .u64 x, .int .i64 n] W fun e W' => e = .returned (.tuple #[]) ∧ ∃ v', Wr W' A v' sz' N' ∧ Up w.heap.size A v' ∧ Below w.heap.size w W' ∧ Chg (foot A v) W W' ∧ Moved W v v' := by
  subst e1 e2
  refine (put_any A v sz N x n W h hsz hx hn0 hn1).mono ?_
  rintro e W' ⟨rfl, v', k1, k2, k3⟩
  exact ⟨rfl, v', k1, up_moved hu k3 hb.size, below_foot hb k2 hu, k2, k3⟩

/-- Block A is a reader of s with a bits left. -/
def Rdb (W : World) (A : Nat) (s : ByteArray) (a : Nat) : Prop := Blk W A #[.string s, .int .i64 a] 159
theorem low_any (n L : Nat) (w : World) (h : n ≤ 8) (hL : L = 2 ^ n - 1) : Calls Tryz.prog 111 #[.int .i64 n] w fun e w' => e = .returned (.int .u8 L) ∧ w = w' := by
  have H : Hid (L = 2 ^ n - 1) := hL
  clear hL
  go_enter Tryz.func111, Tryz.ntmps111
  go_wp2
  go_ret
  exact ⟨ret_int (by rw [low_eq n h, H.out]), rfl⟩

theorem len8_log : ∀ n : Fin 256, n.val ≠ 0 → Lib.bitLen n.val = Nat.log2 n.val + 1 := by decide +kernel

set_option maxRecDepth 100000 in
theorem len8_int (b : Int) (w : World) (h0 : 0 ≤ b) (h : b ≤ 255) : Calls Tryz.prog 86 #[.int .u8 b] w fun e w' => e = .returned (.int .i64 (Lib.bitLen b.toNat : Nat)) ∧ w = w' := by
  go_enter Tryz.func86, Tryz.ntmps86
  go_wp2
  go_ret
  refine ⟨ret_int ?_, rfl⟩
  have e1 := Lib.len8_of b h0 h
  have e2 := Lib.bitLen_le8' b h0 h
  unfold wrap64
  omega
theorem len8_any (c : Nat) (w : World) (h0 : c ≠ 0) (h : c < 256) : Calls Tryz.prog 86 #[.int .u8 c] w fun e w' => e = .returned (.int .i64 ((Nat.log2 c + 1 : Nat) : Int)) ∧ w = w' := by
  have e := len8_log ⟨c, h⟩ h0
  have := len8_int c w (by omega) (by omega)
  rw [Int.toNat_natCast, show Lib.bitLen c = Nat.log2 c + 1 from e] at this
  exact this

theorem last_zero (w : World) : Calls Tryz.prog 87 #[.int .i64 0] w fun e w' => e = .returned (.int .i64 0) ∧ w = w' := by
  go_enter Tryz.func87, Tryz.ntmps87
  go_wp2
  go_ret
  exact ⟨rfl, rfl⟩
theorem last_any (a r : Nat) (w : World) (h : a ≤ 10000000) (hr : r = if a = 0 then 0 else (a - 1) % 8 + 1) : Calls Tryz.prog 87 #[.int .i64 a] w fun e w' => e = .returned (.int .i64 r) ∧ w = w' := by
  by_cases h0 : a = 0
  · subst h0
    rw [if_pos rfl] at hr
    rw [hr]
    exact last_zero w
  · rw [if_neg h0] at hr
    have h1 : ¬ (a : Int) = 0 := by omega
    go_enter Tryz.func87, Tryz.ntmps87
    go_wp2
    go_ret
    exact ⟨ret_int (by omega), rfl⟩
end Go.Proofs.YtofclflcicjlaaaGreat
