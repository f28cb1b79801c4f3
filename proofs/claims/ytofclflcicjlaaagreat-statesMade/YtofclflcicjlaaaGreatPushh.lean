/-
  Rows of bits as plain numbers: the bytes of a number, its bits, what is put behind and what is got: no Go in sight; each condition stands at its theorem; which blocks a call may change; blocks and rows of the call's own; lists of whole numbers and of parts that can be read; rows that make lays, cells of rows set anew; a heap in a list, by its steps up and down, and what comes out of it one after the other; entries in memory; elements appended to a row of the call's own, in a walk and in a region that draws: where the row then lies.
-/
import Derived.Test.YtofclflcicjlaaaGreatLy
import Derived.Test.YtofclflcicjlaaaGreatSc
import Derived.Test.YtofclflcicjlaaaGreatSg
import Derived.Laws.BitsAllLaws
import Derived.WalkSmall
import Derived.WalkKit
import Derived.ProofKit
import Derived.OpenShut
import Derived.Deep.QuietTactic
import Derived.BigQuiet
import Derived.Deep.RegionHeld3
import Derived.Below
import Derived.Deep.Heap
import Derived.ArgAppend
import Derived.Maps.AppendAt
import Derived.Laws.IdiomStrings
import Derived.Deep.OwnRows
import Derived.Deep.RegionLaw
namespace Go.Proofs.YtofclflcicjlaaaGreat
open Go.ChangeShapes Go.WideShapes Go.ChangeAt Go.RowKit
open Go.ChangeMaps (open_string shut_string)
set_option maxRecDepth 100000
theorem len_data (s : ByteArray) : s.data.toList.length = s.size := Array.length_toList
/-- The first k bits of a number, the lowest first. -/
def bit (N k : Nat) : List UInt8 := (List.range k).map fun i => UInt8.ofNat (N / 2 ^ i % 2)
theorem bit_len (N k : Nat) : (bit N k).length = k := by simp [bit]
theorem byt_get (N k j : Nat) (h : j < (byt N k).length) : (byt N k)[j] = UInt8.ofNat (N / 256 ^ j % 256) := by simp [byt]
theorem bit_get (N k j : Nat) (h : j < (bit N k).length) : (bit N k)[j] = UInt8.ofNat (N / 2 ^ j % 2) := by simp [bit]
theorem byt_snoc (N k : Nat) : byt N (k + 1) = byt N k ++ [UInt8.ofNat (N / 256 ^ k % 256)] := by simp [byt, List.range_succ]
theorem bit_snoc (N k : Nat) : bit N (k + 1) = bit N k ++ [UInt8.ofNat (N / 2 ^ k % 2)] := by simp [bit, List.range_succ]
theorem byt_zero (N : Nat) : byt N 0 = [] := rfl
/-- What stands from a place on does not reach the digits below it. -/
theorem low_digit (B N x i k : Nat) (hB : 0 < B) (h : i < k) : (N + x * B ^ k) / B ^ i % B = N / B ^ i % B := by
  obtain ⟨d, rfl⟩ : ∃ d, k = i + 1 + d := ⟨k - i - 1, by omega⟩
  have e : x * B ^ (i + 1 + d) = (x * B ^ d * B) * B ^ i := by
    rw [Nat.pow_add, Nat.pow_succ]; ac_rfl
  rw [e, Nat.add_mul_div_right _ _ (Nat.pow_pos hB), Nat.add_mul_mod_self_right]

theorem byt_low (N x k : Nat) : byt (N + x * 256 ^ k) k = byt N k := by
  unfold byt
  refine List.map_congr_left fun i hi => ?_
  rw [low_digit 256 N x i k (by decide) (by simpa using hi)]
theorem bit_low (N x k : Nat) : bit (N + x * 2 ^ k) k = bit N k := by
  unfold bit
  refine List.map_congr_left fun i hi => ?_
  rw [low_digit 2 N x i k (by decide) (by simpa using hi)]

/-- One bit behind the others. -/
theorem bit_put (N sz x : Nat) (h : N < 2 ^ sz) : bit (N + x * 2 ^ sz) (sz + 1) = bit N sz ++ [UInt8.ofNat (x % 2)] := by
  rw [bit_snoc, bit_low, add_div _ _ _ (Nat.pow_pos (by decide)), Nat.div_eq_of_lt h, Nat.zero_add]

theorem le_snoc (l : List UInt8) (c : UInt8) : le (l ++ [c]) = le l + c.toNat * 256 ^ l.length := by
  induction l with
  | nil => simp [le]
  | cons d l ih => simp only [List.cons_append, le, ih, List.length_cons, Nat.pow_succ, Nat.mul_add]; rw [← Nat.add_assoc, Nat.mul_comm (256 ^ _) 256, Nat.mul_left_comm]
theorem le_byt (N k : Nat) : le (byt N k) = N % 256 ^ k := by
  induction k with
  | zero => simp [byt_zero, le, Nat.mod_one]
  | succ k ih => rw [byt_snoc, le_snoc, ih, byt_len, u8_of _ (Nat.mod_lt _ (by decide)), Nat.pow_succ, Nat.mod_mul, Nat.mul_comm (256 ^ k)]
theorem le_get (l : List UInt8) (q : Nat) (h : q < l.length) : le l / 256 ^ q % 256 = l[q].toNat := by
  induction l generalizing q with
  | nil => simp at h
  | cons d l ih =>
    have hd := d.toNat_lt
    cases q with
    | zero => simp [le]
    | succ q => rw [List.getElem_cons_succ, ← ih q (by simpa using h), le, Nat.pow_succ, Nat.mul_comm (256 ^ q), ← Nat.div_div_eq_div_mul, Nat.add_mul_div_left _ _ (by decide), Nat.div_eq_of_lt hd, Nat.zero_add]
theorem byt_le (l : List UInt8) : byt (le l) l.length = l := by
  refine List.ext_getElem (by rw [byt_len]) fun j h1 h2 => ?_
  rw [byt_get, le_get l j h2]
  simp
theorem pow_split (sz : Nat) : 2 ^ sz = 2 ^ (sz % 8) * 256 ^ (sz / 8) := by rw [pow256, ← Nat.pow_add]; congr 1; omega
/-- The top digit of a number of sz bits. -/
theorem top_lt (N sz : Nat) (h : N < 2 ^ sz) : N / 256 ^ (sz / 8) < 2 ^ (sz % 8) := by
  rw [Nat.div_lt_iff_lt_mul (Nat.pow_pos (by decide)), ← pow_split]; exact h

theorem fill_bytes (N sz x n : Nat) (h : N < 2 ^ sz) (hx : x < 2 ^ n) (hn : 0 < n) (hp : sz % 8 + n ≤ 8) :
    byc (sz + n) = sz / 8 + 1 ∧ N / 256 ^ (sz / 8) + x * 2 ^ (sz % 8) < 256 ∧
    byt (N + x * 2 ^ sz) (sz / 8 + 1) = byt N (sz / 8) ++ [UInt8.ofNat (N / 256 ^ (sz / 8) + x * 2 ^ (sz % 8))] := by
  have ht := top_lt N sz h
  have hlt : N / 256 ^ (sz / 8) + x * 2 ^ (sz % 8) < 256 := by
    have h1 : (x + 1) * 2 ^ (sz % 8) ≤ 2 ^ n * 2 ^ (sz % 8) := Nat.mul_le_mul_right _ hx
    rw [← Nat.pow_add, Nat.add_mul, Nat.one_mul] at h1
    have h2 : 2 ^ (n + sz % 8) ≤ 2 ^ 8 := pow_le_of (by omega)
    have h3 : (2 : Nat) ^ 8 = 256 := rfl
    omega
  refine ⟨by unfold byc; omega, hlt, ?_⟩
  have e : x * 2 ^ sz = x * 2 ^ (sz % 8) * 256 ^ (sz / 8) := by rw [Nat.mul_assoc, ← pow_split]
  rw [byt_snoc, e, byt_low, add_div _ _ _ (Nat.pow_pos (by decide)), Nat.mod_eq_of_lt hlt]

theorem put_put (N sz v r m : Nat) : N + v % 2 ^ r * 2 ^ sz + v / 2 ^ r % 2 ^ m * 2 ^ (sz + r) = N + v % 2 ^ (r + m) * 2 ^ sz := by
  rw [put_two, Nat.add_mul, Nat.add_assoc, Nat.mul_assoc _ (2 ^ r), ← Nat.pow_add, Nat.add_comm r]

theorem got_two (X a r m : Nat) : got X a (r + m) = got X a r + got X (a + r) m * 2 ^ r := by
  unfold got
  rw [put_two, Nat.pow_add, Nat.div_div_eq_div_mul]
/-- Within one byte. -/
theorem got_byte (l : List UInt8) (a n : Nat) (h : a / 8 < l.length) (hp : a % 8 + n ≤ 8) : got (le l) a n = l[a / 8].toNat / 2 ^ (a % 8) % 2 ^ n := by
  rw [← le_get l _ h]
  unfold got
  rw [pow_split a, Nat.mul_comm, ← Nat.div_div_eq_div_mul]
  generalize le l / 256 ^ (a / 8) = y
  have e : (256 : Nat) = 2 ^ (a % 8) * 2 ^ (8 - a % 8) := by rw [← Nat.pow_add, show a % 8 + (8 - a % 8) = 8 from by omega]
  conv => rhs; rw [e]
  rw [Nat.mod_mul_right_div_self]
  have e2 : (2 : Nat) ^ (8 - a % 8) = 2 ^ n * 2 ^ (8 - a % 8 - n) := by rw [← Nat.pow_add]; congr 1; omega
  rw [e2, Nat.mod_mul_right_mod]

/-- One bit set. -/
theorem or_hi (a x k : Nat) (ha : a < 2 ^ k) : a ||| (x * 2 ^ k) = a + x * 2 ^ k := by
  rw [Nat.or_comm, Nat.mul_comm x, Nat.two_pow_add_eq_or_of_lt ha x |>.symm, Nat.add_comm]

theorem mod_succ (N i : Nat) : N % 2 ^ (i + 1) = N % 2 ^ i + N / 2 ^ i % 2 * 2 ^ i := by have := put_two N i 1; simpa using this

theorem byt_set (N k i : Nat) : byt (N % 2 ^ (i + 1)) k = (byt (N % 2 ^ i) k).set (i / 8) (UInt8.ofNat (N % 2 ^ i / 256 ^ (i / 8) % 256 + N / 2 ^ i % 2 * 2 ^ (i % 8))) := by
  refine List.ext_getElem (by simp [byt_len]) fun j h1 h2 => ?_
  rw [byt_get, List.getElem_set]
  have hm : N % 2 ^ i < 2 ^ i := Nat.mod_lt _ (Nat.pow_pos (by decide))
  by_cases e : i / 8 = j
  · rw [if_pos e, ← e, mod_succ]
    have ht := top_lt _ _ hm
    have e1 : N / 2 ^ i % 2 * 2 ^ i = N / 2 ^ i % 2 * 2 ^ (i % 8) * 256 ^ (i / 8) := by rw [Nat.mul_assoc, ← pow_split]
    rw [e1, add_div _ _ _ (Nat.pow_pos (by decide))]
    have h3 : 2 ^ (i % 8) ≤ 2 ^ 7 := pow_le_of (by omega)
    have h4 : N / 2 ^ i % 2 * 2 ^ (i % 8) ≤ 1 * 2 ^ (i % 8) := Nat.mul_le_mul_right _ (by omega)
    have h5 : (2 : Nat) ^ 7 = 128 := rfl
    rw [Nat.mod_eq_of_lt (show N % 2 ^ i / 256 ^ (i / 8) < 256 by omega), Nat.mod_eq_of_lt (by omega)]
  · rw [if_neg e, byt_get]
    by_cases g : j < i / 8
    · rw [mod_succ, show i = (8 * (j + 1)) + (i - 8 * (j + 1)) from by omega]
      generalize i - 8 * (j + 1) = d
      rw [Nat.pow_add 2 (8 * (j + 1)), ← pow256, Nat.mul_comm (256 ^ _) (2 ^ d), ← Nat.mul_assoc, low_digit 256 _ _ _ _ (by decide) (Nat.lt_succ_self j)]
    · have h6 : 2 ^ (i + 1) ≤ 256 ^ j := by rw [pow256]; exact pow_le_of (by omega)
      have h7 : 2 ^ i ≤ 256 ^ j := by rw [pow256]; exact pow_le_of (by omega)
      rw [Nat.div_eq_of_lt (Nat.lt_of_lt_of_le (Nat.mod_lt _ (Nat.pow_pos (by decide))) h6), Nat.div_eq_of_lt (Nat.lt_of_lt_of_le (Nat.mod_lt _ (Nat.pow_pos (by decide))) h7)]

def ptr (A : Nat) : Value := .pointer (some ⟨A, 0, none⟩)

def pv (p : Int × Int) : List Value := [.int .i64 p.1, .int .u64 p.2]
def pvs (l : List (Int × Int)) : List Value := l.flatMap pv
theorem pvs_len (l : List (Int × Int)) : (pvs l).length = l.length * 2 := by
  induction l with
  | nil => rfl
  | cons p l ih => rw [pvs, List.flatMap_cons, List.length_append, ← pvs, ih]; simp [pv]; omega
theorem pvs_fst (l : List (Int × Int)) (i : Nat) (h : i < l.length) : (pvs l)[i * 2]? = some (.int .i64 l[i].1) := by
  induction l generalizing i with
  | nil => simp at h
  | cons p l ih =>
    cases i with
    | zero => rfl
    | succ i =>
      rw [pvs, List.flatMap_cons, ← pvs, List.getElem?_append_right (by simp [pv]; omega)]
      have : (i + 1) * 2 - (pv p).length = i * 2 := by simp [pv]; omega
      rw [this, ih i (by simpa using h)]; rfl
theorem pvs_snd (l : List (Int × Int)) (i : Nat) (h : i < l.length) : (pvs l)[i * 2 + 1]? = some (.int .u64 l[i].2) := by
  induction l generalizing i with
  | nil => simp at h
  | cons p l ih =>
    cases i with
    | zero => rfl
    | succ i =>
      rw [pvs, List.flatMap_cons, ← pvs, List.getElem?_append_right (by simp [pv]; omega)]
      have : (i + 1) * 2 + 1 - (pv p).length = i * 2 + 1 := by simp [pv]; omega
      rw [this, ih i (by simpa using h)]; rfl

def RP (W : World) (a : Option Addr) (n : Nat) (ps : List (Int × Int)) : Prop :=
  ps.length = n ∧ (0 < n → ∃ x, a = some x ∧ ∀ i (h : i < ps.length), W.cell? (x.add (i * 2)) = some (.int .i64 ps[i].1) ∧ W.cell? (x.add (i * 2 + 1)) = some (.int .u64 ps[i].2))
def foot (A : Nat) (v : Value) (k : Nat) : Prop := k = A ∨ v.ownBlock = some k

theorem run_pushh {P : Program} (w : World) (t ty e : TypeId) (i : TypeInfo) (z : Value) (size bytes : Nat) (ht : P.underlying t = some (.slice e)) (hi : P.info? e = some i) (hz : i.zero = some z)
    (hsize : i.size = size) (hby : i.bytes = bytes) (hzs : z.cells.size = size) (hsz : 0 < size) (h16 : bytes ≤ 64)
    (v : Value) (n : Nat) (xs : List Value) (hown : w.ownsRow 0 e size v n xs)
    (a : Addr) (m c : Nat) (news : List Value) (hl : news.length = m * size) (hnews : ∀ j u, news[j]? = some u → w.cell? (a.add j) = some u) (h1 : ∀ u ∈ news, u.oneCell' = true) (hn : n + m ≤ 100000) :
    ∃ v' w', (Builtin.append_ #[t, t] ty #[v, .slice (some a) m c]).run P w = .ok v' w' ∧ w'.ownsRow 0 e size v' (n + m) (xs ++ news) ∧ w.grownBy w' v.ownBlock ∧ Moved w v v' := by
  have hb : (n + m) * bytes ≤ 140737488355328 := by
    have : (n + m) * bytes ≤ 100000 * 64 := Nat.mul_le_mul hn h16
    omega
  obtain ⟨v', w', r0, r1, r2, _, r4⟩ := run_append_own_at (P := P) w 0 t ty e i z size bytes ht hi hz hsize hby hzs hsz v n xs hown a m c news hl hnews h1 (by simp only [maxLen]; omega) hb (Nat.zero_le _)
  refine ⟨v', w', r0, r1, r2, fun k hk => ?_⟩
  rcases r4 with r4 | r4
  · left; rw [← r4]; exact hk
  · right; rw [hk] at r4; injection r4 with r4; omega
theorem wpList_pushh {P : Program} (w : World) {ops : Array Oper} {rest : List Oper} {o : Oper} {a : Act} {Q : Exit → Act → World → Prop}
    (hg : o.guard = none) (s x : Operand) (t : TypeId) (hop : o.op = Op.call { callee := Callee.builtin Builtin.append, args := #[s, x], argTypes := #[t, t] })
    (e : TypeId) (i : TypeInfo) (z : Value) (size bytes : Nat) (ht : P.underlying t = some (.slice e)) (hi : P.info? e = some i) (hz : i.zero = some z)
    (hsize : i.size = size) (hby : i.bytes = bytes) (hzs : z.cells.size = size) (hsz : 0 < size) (h16 : bytes ≤ 64)
    (v : Value) (n : Nat) (xs : List Value) (hs : a.eval s = v) (hown : w.ownsRow 0 e size v n xs)
    (ad : Addr) (m c : Nat) (news : List Value) (hx : a.eval x = .slice (some ad) m c) (hl : news.length = m * size) (hnews : ∀ j u, news[j]? = some u → w.cell? (ad.add j) = some u) (h1 : ∀ u ∈ news, u.oneCell' = true) (hn : n + m ≤ 100000)
    (hK : ∀ v' w', w'.ownsRow 0 e size v' (n + m) (xs ++ news) → w.grownBy w' v.ownBlock → Moved w v v' → wpList P ops Q rest (a.put o.dst v') w') :
    wpList P ops Q (o :: rest) a w := by
  refine wpList_plain hg fun K hK' => ?_
  obtain ⟨v', w', hr, r1, r2, r3⟩ := run_pushh (P := P) w t o.type e i z size bytes ht hi hz hsize hby hzs hsz h16 v n xs hown ad m c news hl hnews h1 hn
  unfold Oper.wp execOp
  simp only [hop, resolve, invoke, builtin, Sem.run_bind, Sem.run_pure, Result.andThen_ok, List.map_toArray, List.map_cons, List.map_nil, hs, hx, hr]
  exact hK' _ _ (hK v' w' r1 r2 r3)
end Go.Proofs.YtofclflcicjlaaaGreat
