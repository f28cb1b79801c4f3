/-
  Rows of bits as plain numbers: the bytes of a number, its bits, what is put behind and what is got: no Go in sight; each condition stands at its theorem; which blocks a call may change; blocks and rows of the call's own; lists of whole numbers and of parts that can be read.
-/
import Derived.Test.YtlkebkchbgpnpaaRows
import Derived.Laws.BitsAllLaws
import Derived.WalkSmall
import Derived.WalkKit
import Derived.ProofKit
import Derived.OpenShut
import Derived.Deep.QuietTactic
import Derived.BigQuiet
import Derived.Deep.RegionHeld3
import Derived.Below
import Derived.Deep.Heap
import Derived.ArgAppend
import Derived.Maps.AppendAt
import Derived.Laws.IdiomStrings
namespace Go.Proofs.Ytlkebkchbgpnpaa
open Go.ChangeShapes Go.WideShapes Go.ChangeAt Go.RowKit
open Go.ChangeMaps (open_string shut_string)

def bs (l : List UInt8) : ByteArray := ⟨l.toArray⟩
theorem size_bs (l : List UInt8) : (bs l).size = l.length := by simp [bs, ByteArray.size]
theorem bs_list (s : ByteArray) : bs s.data.toList = s := rfl
theorem bs_data (l : List UInt8) : (bs l).data.toList = l := rfl
theorem len_data (s : ByteArray) : s.data.toList.length = s.size := Array.length_toList
theorem u8_of (n : Nat) (h : n < 256) : (UInt8.ofNat n).toNat = n := by simp [UInt8.toNat_ofNat']; omega

/-- The first k bytes of a number, the lowest first. -/
def byt (N k : Nat) : List UInt8 := (List.range k).map fun i => UInt8.ofNat (N / 256 ^ i % 256)
/-- The first k bits of a number, the lowest first. -/
def bit (N k : Nat) : List UInt8 := (List.range k).map fun i => UInt8.ofNat (N / 2 ^ i % 2)
/-- The number of bytes, the lowest first. -/
def le : List UInt8 → Nat
  | [] => 0
  | c :: l => c.toNat + 256 * le l

theorem byt_len (N k : Nat) : (byt N k).length = k := by simp [byt]
theorem bit_len (N k : Nat) : (bit N k).length = k := by simp [bit]
theorem byt_get (N k j : Nat) (h : j < (byt N k).length) : (byt N k)[j] = UInt8.ofNat (N / 256 ^ j % 256) := by simp [byt]
theorem bit_get (N k j : Nat) (h : j < (bit N k).length) : (bit N k)[j] = UInt8.ofNat (N / 2 ^ j % 2) := by simp [bit]
theorem byt_snoc (N k : Nat) : byt N (k + 1) = byt N k ++ [UInt8.ofNat (N / 256 ^ k % 256)] := by simp [byt, List.range_succ]
theorem bit_snoc (N k : Nat) : bit N (k + 1) = bit N k ++ [UInt8.ofNat (N / 2 ^ k % 2)] := by simp [bit, List.range_succ]
theorem byt_zero (N : Nat) : byt N 0 = [] := rfl
theorem bit_zero (N : Nat) : bit N 0 = [] := rfl

theorem add_div (N x a : Nat) (h : 0 < a) : (N + x * a) / a = N / a + x := Nat.add_mul_div_right _ _ h
theorem pow256 (k : Nat) : (256 : Nat) ^ k = 2 ^ (8 * k) := by rw [Nat.pow_mul]

/-- What stands from a place on does not reach the digits below it. -/
theorem low_digit (B N x i k : Nat) (hB : 0 < B) (h : i < k) : (N + x * B ^ k) / B ^ i % B = N / B ^ i % B := by
  obtain ⟨d, rfl⟩ : ∃ d, k = i + 1 + d := ⟨k - i - 1, by omega⟩
  have e : x * B ^ (i + 1 + d) = (x * B ^ d * B) * B ^ i := by
    rw [Nat.pow_add, Nat.pow_succ]; ac_rfl
  rw [e, Nat.add_mul_div_right _ _ (Nat.pow_pos hB), Nat.add_mul_mod_self_right]

theorem byt_low (N x k : Nat) : byt (N + x * 256 ^ k) k = byt N k := by
  unfold byt
  refine List.map_congr_left fun i hi => ?_
  rw [low_digit 256 N x i k (by decide) (by simpa using hi)]
theorem bit_low (N x k : Nat) : bit (N + x * 2 ^ k) k = bit N k := by
  unfold bit
  refine List.map_congr_left fun i hi => ?_
  rw [low_digit 2 N x i k (by decide) (by simpa using hi)]

/-- One bit behind the others. -/
theorem bit_put (N sz x : Nat) (h : N < 2 ^ sz) : bit (N + x * 2 ^ sz) (sz + 1) = bit N sz ++ [UInt8.ofNat (x % 2)] := by
  rw [bit_snoc, bit_low, add_div _ _ _ (Nat.pow_pos (by decide)), Nat.div_eq_of_lt h, Nat.zero_add]

theorem le_snoc (l : List UInt8) (c : UInt8) : le (l ++ [c]) = le l + c.toNat * 256 ^ l.length := by
  induction l with
  | nil => simp [le]
  | cons d l ih => simp only [List.cons_append, le, ih, List.length_cons, Nat.pow_succ, Nat.mul_add]; rw [← Nat.add_assoc, Nat.mul_comm (256 ^ _) 256, Nat.mul_left_comm]
theorem le_lt (l : List UInt8) : le l < 256 ^ l.length := by
  induction l with
  | nil => simp [le]
  | cons d l ih => simp only [le, List.length_cons, Nat.pow_succ]; have := d.toNat_lt; omega
theorem le_byt (N k : Nat) : le (byt N k) = N % 256 ^ k := by
  induction k with
  | zero => simp [byt_zero, le, Nat.mod_one]
  | succ k ih => rw [byt_snoc, le_snoc, ih, byt_len, u8_of _ (Nat.mod_lt _ (by decide)), Nat.pow_succ, Nat.mod_mul, Nat.mul_comm (256 ^ k)]
theorem le_get (l : List UInt8) (q : Nat) (h : q < l.length) : le l / 256 ^ q % 256 = l[q].toNat := by
  induction l generalizing q with
  | nil => simp at h
  | cons d l ih =>
    have hd := d.toNat_lt
    cases q with
    | zero => simp [le]
    | succ q => rw [List.getElem_cons_succ, ← ih q (by simpa using h), le, Nat.pow_succ, Nat.mul_comm (256 ^ q), ← Nat.div_div_eq_div_mul, Nat.add_mul_div_left _ _ (by decide), Nat.div_eq_of_lt hd, Nat.zero_add]
theorem byt_le (l : List UInt8) : byt (le l) l.length = l := by
  refine List.ext_getElem (by rw [byt_len]) fun j h1 h2 => ?_
  rw [byt_get, le_get l j h2]
  simp
theorem le_inj (a b : List UInt8) (h : a.length = b.length) (e : le a = le b) : a = b := by rw [← byt_le a, ← byt_le b, h, e]

/-- The number of bytes in which so many bits lie. -/
def byc (sz : Nat) : Nat := (sz + 7) / 8

theorem pow_split (sz : Nat) : 2 ^ sz = 2 ^ (sz % 8) * 256 ^ (sz / 8) := by rw [pow256, ← Nat.pow_add]; congr 1; omega
theorem pow_le_of {a b : Nat} (h : a ≤ b) : 2 ^ a ≤ 2 ^ b := Nat.pow_le_pow_right (by decide) h
theorem lt_byc (N sz : Nat) (h : N < 2 ^ sz) : N < 256 ^ byc sz := by
  rw [pow256]; exact Nat.lt_of_lt_of_le h (pow_le_of (by unfold byc; omega))

/-- The top digit of a number of sz bits. -/
theorem top_lt (N sz : Nat) (h : N < 2 ^ sz) : N / 256 ^ (sz / 8) < 2 ^ (sz % 8) := by
  rw [Nat.div_lt_iff_lt_mul (Nat.pow_pos (by decide)), ← pow_split]; exact h

theorem fill_bytes (N sz x n : Nat) (h : N < 2 ^ sz) (hx : x < 2 ^ n) (hn : 0 < n) (hp : sz % 8 + n ≤ 8) :
    byc (sz + n) = sz / 8 + 1 ∧ N / 256 ^ (sz / 8) + x * 2 ^ (sz % 8) < 256 ∧
    byt (N + x * 2 ^ sz) (sz / 8 + 1) = byt N (sz / 8) ++ [UInt8.ofNat (N / 256 ^ (sz / 8) + x * 2 ^ (sz % 8))] := by
  have ht := top_lt N sz h
  have hlt : N / 256 ^ (sz / 8) + x * 2 ^ (sz % 8) < 256 := by
    have h1 : (x + 1) * 2 ^ (sz % 8) ≤ 2 ^ n * 2 ^ (sz % 8) := Nat.mul_le_mul_right _ hx
    rw [← Nat.pow_add, Nat.add_mul, Nat.one_mul] at h1
    have h2 : 2 ^ (n + sz % 8) ≤ 2 ^ 8 := pow_le_of (by omega)
    have h3 : (2 : Nat) ^ 8 = 256 := rfl
    omega
  refine ⟨by unfold byc; omega, hlt, ?_⟩
  have e : x * 2 ^ sz = x * 2 ^ (sz % 8) * 256 ^ (sz / 8) := by rw [Nat.mul_assoc, ← pow_split]
  rw [byt_snoc, e, byt_low, add_div _ _ _ (Nat.pow_pos (by decide)), Nat.mod_eq_of_lt hlt]

/-- Putting in two is putting in one. -/
theorem put_two (v r m : Nat) : v % 2 ^ (r + m) = v % 2 ^ r + v / 2 ^ r % 2 ^ m * 2 ^ r := by
  rw [Nat.pow_add, Nat.mod_mul, Nat.mul_comm (2 ^ r)]

theorem put_lt (N sz v n : Nat) (h : N < 2 ^ sz) : N + v % 2 ^ n * 2 ^ sz < 2 ^ (sz + n) := by
  have h1 : v % 2 ^ n < 2 ^ n := Nat.mod_lt _ (Nat.pow_pos (by decide))
  have h2 : (v % 2 ^ n + 1) * 2 ^ sz ≤ 2 ^ n * 2 ^ sz := Nat.mul_le_mul_right _ h1
  rw [← Nat.pow_add, Nat.add_mul, Nat.one_mul, Nat.add_comm n] at h2
  omega

theorem put_put (N sz v r m : Nat) : N + v % 2 ^ r * 2 ^ sz + v / 2 ^ r % 2 ^ m * 2 ^ (sz + r) = N + v % 2 ^ (r + m) * 2 ^ sz := by
  rw [put_two, Nat.add_mul, Nat.add_assoc, Nat.mul_assoc _ (2 ^ r), ← Nat.pow_add, Nat.add_comm r]

/-- What is got: n bits from the place a on. -/
def got (X a n : Nat) : Nat := X / 2 ^ a % 2 ^ n
theorem got_lt (X a n : Nat) : got X a n < 2 ^ n := Nat.mod_lt _ (Nat.pow_pos (by decide))
theorem got_zero (X a : Nat) : got X a 0 = 0 := by simp [got, Nat.mod_one]
theorem got_two (X a r m : Nat) : got X a (r + m) = got X a r + got X (a + r) m * 2 ^ r := by
  unfold got
  rw [put_two, Nat.pow_add, Nat.div_div_eq_div_mul]
/-- Within one byte. -/
theorem got_byte (l : List UInt8) (a n : Nat) (h : a / 8 < l.length) (hp : a % 8 + n ≤ 8) : got (le l) a n = l[a / 8].toNat / 2 ^ (a % 8) % 2 ^ n := by
  rw [← le_get l _ h]
  unfold got
  rw [pow_split a, Nat.mul_comm, ← Nat.div_div_eq_div_mul]
  generalize le l / 256 ^ (a / 8) = y
  have e : (256 : Nat) = 2 ^ (a % 8) * 2 ^ (8 - a % 8) := by rw [← Nat.pow_add, show a % 8 + (8 - a % 8) = 8 from by omega]
  conv => rhs; rw [e]
  rw [Nat.mod_mul_right_div_self]
  have e2 : (2 : Nat) ^ (8 - a % 8) = 2 ^ n * 2 ^ (8 - a % 8 - n) := by rw [← Nat.pow_add]; congr 1; omega
  rw [e2, Nat.mod_mul_right_mod]

/-- What was put is got: behind N of sz bits. -/
theorem got_put (N sz v k R : Nat) (h : N < 2 ^ sz) : got (N + v % 2 ^ k * 2 ^ sz + R * 2 ^ (sz + k)) sz k = v % 2 ^ k := by
  unfold got
  have e : N + v % 2 ^ k * 2 ^ sz + R * 2 ^ (sz + k) = N + (v % 2 ^ k + R * 2 ^ k) * 2 ^ sz := by
    rw [Nat.add_mul, Nat.add_assoc, Nat.mul_assoc R, ← Nat.pow_add, Nat.add_comm k]
  rw [e, add_div _ _ _ (Nat.pow_pos (by decide)), Nat.div_eq_of_lt h, Nat.zero_add, Nat.add_mul_mod_self_right, Nat.mod_mod]

/-- One bit set. -/
theorem or_hi (a x k : Nat) (ha : a < 2 ^ k) : a ||| (x * 2 ^ k) = a + x * 2 ^ k := by
  rw [Nat.or_comm, Nat.mul_comm x, Nat.two_pow_add_eq_or_of_lt ha x |>.symm, Nat.add_comm]

theorem mod_succ (N i : Nat) : N % 2 ^ (i + 1) = N % 2 ^ i + N / 2 ^ i % 2 * 2 ^ i := by have := put_two N i 1; simpa using this

theorem byt_set (N k i : Nat) : byt (N % 2 ^ (i + 1)) k = (byt (N % 2 ^ i) k).set (i / 8) (UInt8.ofNat (N % 2 ^ i / 256 ^ (i / 8) % 256 + N / 2 ^ i % 2 * 2 ^ (i % 8))) := by
  refine List.ext_getElem (by simp [byt_len]) fun j h1 h2 => ?_
  rw [byt_get, List.getElem_set]
  have hm : N % 2 ^ i < 2 ^ i := Nat.mod_lt _ (Nat.pow_pos (by decide))
  by_cases e : i / 8 = j
  · rw [if_pos e, ← e, mod_succ]
    have ht := top_lt _ _ hm
    have e1 : N / 2 ^ i % 2 * 2 ^ i = N / 2 ^ i % 2 * 2 ^ (i % 8) * 256 ^ (i / 8) := by rw [Nat.mul_assoc, ← pow_split]
    rw [e1, add_div _ _ _ (Nat.pow_pos (by decide))]
    have h3 : 2 ^ (i % 8) ≤ 2 ^ 7 := pow_le_of (by omega)
    have h4 : N / 2 ^ i % 2 * 2 ^ (i % 8) ≤ 1 * 2 ^ (i % 8) := Nat.mul_le_mul_right _ (by omega)
    have h5 : (2 : Nat) ^ 7 = 128 := rfl
    rw [Nat.mod_eq_of_lt (show N % 2 ^ i / 256 ^ (i / 8) < 256 by omega), Nat.mod_eq_of_lt (by omega)]
  · rw [if_neg e, byt_get]
    by_cases g : j < i / 8
    · rw [mod_succ, show i = (8 * (j + 1)) + (i - 8 * (j + 1)) from by omega]
      generalize i - 8 * (j + 1) = d
      rw [Nat.pow_add 2 (8 * (j + 1)), ← pow256, Nat.mul_comm (256 ^ _) (2 ^ d), ← Nat.mul_assoc, low_digit 256 _ _ _ _ (by decide) (Nat.lt_succ_self j)]
    · have h6 : 2 ^ (i + 1) ≤ 256 ^ j := by rw [pow256]; exact pow_le_of (by omega)
      have h7 : 2 ^ i ≤ 256 ^ j := by rw [pow256]; exact pow_le_of (by omega)
      rw [Nat.div_eq_of_lt (Nat.lt_of_lt_of_le (Nat.mod_lt _ (Nat.pow_pos (by decide))) h6), Nat.div_eq_of_lt (Nat.lt_of_lt_of_le (Nat.mod_lt _ (Nat.pow_pos (by decide))) h7)]

theorem ret_int {k : IntKind} {a b : Int} (h : a = b) : Ending.returned (.int k a) = .returned (.int k b) := by rw [h]
theorem ret_bool {a b : Bool} (h : a = b) : Ending.returned (.bool a) = .returned (.bool b) := by rw [h]
theorem hmf : ∀ (fn : Fn) (first cap : Array Value) (w : World), (Instr.makeFunc fn first cap).run Try.prog w = .ok (.func fn first cap) w := fun _ _ _ _ => rfl
theorem bcell {W w1 : World} (hb : Below W.heap.size W w1) : (∀ b o, b < W.heap.size → w1.cell? ⟨b, o, none⟩ = W.cell? ⟨b, o, none⟩) ∧ (∀ b o, b < W.heap.size → w1.frozen? ⟨b, o, none⟩ = W.frozen? ⟨b, o, none⟩) :=
  ⟨fun b o h => hb.cell (p := ⟨b, o, none⟩) h, fun b o h => hb.frozen (p := ⟨b, o, none⟩) h⟩
theorem below_drewN {B : Nat} {a w : World} (h : Below B a w) (n : Nat) : Below B a (w.drewN n) := by
  induction n with
  | zero => exact h
  | succ n ih => exact ih.drew
theorem Hid.intro {p : Prop} (h : p) : Hid p := h
def ptr (A : Nat) : Value := .pointer (some ⟨A, 0, none⟩)

/-- From w to w' no old block has turned but those of S; the streams are as they were; no block has gone. -/
def Chg (S : Nat → Prop) (w w' : World) : Prop :=
  w'.os = w.os ∧ w'.tape = w.tape ∧ w'.output = w.output ∧ w.heap.size ≤ w'.heap.size ∧ ∀ k, k < w.heap.size → ¬ S k → w'.heap[k]? = w.heap[k]?
theorem chg_refl (S : Nat → Prop) (w : World) : Chg S w w := ⟨rfl, rfl, rfl, Nat.le_refl _, fun _ _ _ => rfl⟩
theorem chg_trans {S T : Nat → Prop} {a b c : World} (h : Chg S a b) (g : Chg T b c) (hT : ∀ k, k < a.heap.size → T k → S k) : Chg S a c :=
  ⟨g.1.trans h.1, g.2.1.trans h.2.1, g.2.2.1.trans h.2.2.1, Nat.le_trans h.2.2.2.1 g.2.2.2.1,
   fun k hk hS => (g.2.2.2.2 k (Nat.lt_of_lt_of_le hk h.2.2.2.1) (fun t => hS (hT k hk t))).trans (h.2.2.2.2 k hk hS)⟩
theorem chg_same {S : Nat → Prop} {a b c : World} (h : Chg S a b) (g : Chg S b c) : Chg S a c := chg_trans h g (fun _ _ s => s)
theorem chg_mono {S T : Nat → Prop} {a b : World} (h : Chg S a b) (hT : ∀ k, k < a.heap.size → S k → T k) : Chg T a b :=
  ⟨h.1, h.2.1, h.2.2.1, h.2.2.2.1, fun k hk hS => h.2.2.2.2 k hk (fun t => hS (hT k hk t))⟩
theorem chg_alloc {S : Nat → Prop} {a b : World} (h : Chg S a b) (o : Obj) : Chg S a (b.alloc o) :=
  ⟨h.1, h.2.1, h.2.2.1, by simp; exact Nat.le_trans h.2.2.2.1 (Nat.le_succ _), fun k hk hS => (Below.heap_alloc _ _ _ (Nat.lt_of_lt_of_le hk h.2.2.2.1)).trans (h.2.2.2.2 k hk hS)⟩
theorem chg_set {S : Nat → Prop} {a b : World} (h : Chg S a b) (p : Addr) (u : Value) (hp : p.block < a.heap.size → S p.block) : Chg S a (b.setCell p u) :=
  ⟨h.1, h.2.1, h.2.2.1, by rw [Go.Deep.nblk_setCell]; exact h.2.2.2.1,
   fun k hk hS => (Below.heap_setCell _ _ _ _ (fun e => by subst e; exact hS (hp hk))).trans (h.2.2.2.2 k hk hS)⟩
theorem chg_drew {S : Nat → Prop} {a b : World} (h : Chg S a b) : Chg S a b.drew := h
theorem chg_drewN {S : Nat → Prop} {a b : World} (h : Chg S a b) (m : Nat) : Chg S a (b.drewN m) := h
theorem chg_grown {S : Nat → Prop} {a b c : World} {row : Option Nat} (h : Chg S a b) (g : b.grownBy c row) (hr : ∀ k, row = some k → k < a.heap.size → S k) : Chg S a c :=
  ⟨g.os.trans h.1, g.tape.trans h.2.1, g.output.trans h.2.2.1, Nat.le_trans h.2.2.2.1 g.size,
   fun k hk hS => (g.block k (Nat.lt_of_lt_of_le hk h.2.2.2.1) (fun e => hS (hr k e.symm hk))).trans (h.2.2.2.2 k hk hS)⟩
theorem chg_below {S : Nat → Prop} {a b : World} {B : Nat} (h : Chg S a b) (hB : B ≤ a.heap.size) (hS : ∀ k, S k → B ≤ k) : Below B a b :=
  ⟨h.1, h.2.1, h.2.2.1, h.2.2.2.1, fun k hk => h.2.2.2.2 k (by omega) (fun s => by have := hS k s; omega)⟩
theorem chg_of {S : Nat → Prop} {a b : World} (h : Below a.heap.size a b) : Chg S a b := ⟨h.os, h.tape, h.output, h.size, fun k hk _ => h.block k hk⟩
theorem chg_from {S : Nat → Prop} {a b : World} {B : Nat} (h : Below B a b) (hS : ∀ k, k < a.heap.size → ¬ S k → k < B) : Chg S a b := ⟨h.os, h.tape, h.output, h.size, fun k hk hs => h.block k (hS k hk hs)⟩

/-- A block of cells, none frozen. -/
def Blk (W : World) (A : Nat) (cs : Array Value) (t : TypeId) : Prop := W.heap[A]? = some (.cells cs t (0, 0))
theorem blk_lt {W : World} {A : Nat} {cs : Array Value} {t : TypeId} (h : Blk W A cs t) : A < W.heap.size := (Array.getElem?_eq_some_iff.1 h).1
theorem blk_cell {W : World} {A : Nat} {cs : Array Value} {t : TypeId} (h : Blk W A cs t) (j : Nat) : W.cell? ⟨A, j, none⟩ = cs[j]? := by
  rw [Blk] at h; simp [World.cell?, h]
theorem blk_free {W : World} {A : Nat} {cs : Array Value} {t : TypeId} (h : Blk W A cs t) (j : Nat) : W.frozen? ⟨A, j, none⟩ = false := by
  rw [Blk] at h; simp [World.frozen?, h]
theorem blk_kept {W W' : World} {S : Nat → Prop} {A : Nat} {cs : Array Value} {t : TypeId} (h : Blk W A cs t) (g : Chg S W W') (hS : ¬ S A) : Blk W' A cs t :=
  (g.2.2.2.2 A (blk_lt h) hS).trans h
theorem blk_set {W : World} {A : Nat} {cs : Array Value} {t : TypeId} (h : Blk W A cs t) (j : Nat) (u : Value) : Blk (W.setCell ⟨A, j, none⟩ u) A (cs.setIfInBounds j u) t := by
  have hlt := blk_lt h
  have hv : W.heap[A] = .cells cs t (0, 0) := (Array.getElem?_eq_some_iff.1 h).2
  unfold Blk World.setCell
  rw [Array.getElem?_eq_getElem (by simpa using hlt), Array.getElem_modify]
  simp [hv]
theorem blk_alloc {W : World} {A : Nat} {cs : Array Value} {t : TypeId} (h : Blk W A cs t) (o : Obj) : Blk (W.alloc o) A cs t :=
  (Below.heap_alloc _ _ _ (blk_lt h)).trans h
theorem blk_below {W W' : World} {A B : Nat} {cs : Array Value} {t : TypeId} (h : Blk W A cs t) (g : Below B W W') (hB : A < B) : Blk W' A cs t := (g.block A hB).trans h
theorem blk_drew {W : World} {A : Nat} {cs : Array Value} {t : TypeId} (h : Blk W A cs t) : Blk W.drew A cs t := h
theorem blk_new (W : World) (cs : Array Value) (t : TypeId) : Blk (W.alloc (.cells cs t)) W.heap.size cs t := Go.Deep.blk_alloc_new W _

theorem own_kept {W W' : World} {S : Nat → Prop} {base e size : Nat} {v : Value} {n : Nat} {xs : List Value} (h : W.ownsRow base e size v n xs) (g : Chg S W W') (hS : ∀ k, v.ownBlock = some k → ¬ S k) : W'.ownsRow base e size v n xs := by
  refine ⟨h.1, ?_⟩
  rcases h.2 with hn | ⟨b, cap, cur, rfl, hb, hg, rest⟩
  · exact .inl hn
  · exact .inr ⟨b, cap, cur, rfl, hb, (g.2.2.2.2 b (Array.getElem?_eq_some_iff.1 hg).1 (hS b rfl)).trans hg, rest⟩
theorem own_below {W W' : World} {B base e size : Nat} {v : Value} {n : Nat} {xs : List Value} (h : W.ownsRow base e size v n xs) (g : Below B W W') (hB : ∀ k, v.ownBlock = some k → k < B) : W'.ownsRow base e size v n xs := by
  refine ⟨h.1, ?_⟩
  rcases h.2 with hn | ⟨b, cap, cur, rfl, hb, hg, rest⟩
  · exact .inl hn
  · exact .inr ⟨b, cap, cur, rfl, hb, (g.block b (hB b rfl)).trans hg, rest⟩
theorem own_later {W W' : World} {base e size : Nat} {v : Value} {n : Nat} {xs : List Value} (h : W.ownsRow base e size v n xs) (g : Below W.heap.size W W') : W'.ownsRow base e size v n xs :=
  own_below h g (fun k hk => (h.lt k hk).2)
theorem own_low {w : World} {base b' e size : Nat} {v : Value} {n : Nat} {xs : List Value} (h : w.ownsRow base e size v n xs) (hb : b' ≤ base) : w.ownsRow b' e size v n xs := by
  refine ⟨h.1, ?_⟩
  rcases h.2 with hn | ⟨g, cap, cur, hv, hg, rest⟩
  · exact .inl hn
  · exact .inr ⟨g, cap, cur, hv, Nat.le_trans hb hg, rest⟩

/-- The row has moved to new memory, or stands where it stood. -/
def Moved (W : World) (v v' : Value) : Prop := ∀ k, v'.ownBlock = some k → v.ownBlock = some k ∨ W.heap.size ≤ k

theorem info_all {e : TypeId} {z : Value} {s b : Nat} (h : (Try.prog.info? e).map (fun i => (i.zero, i.size, i.bytes)) = some (some z, s, b)) : ∃ i, Try.prog.info? e = some i ∧ i.zero = some z ∧ i.size = s ∧ i.bytes = b := by
  cases hi : Try.prog.info? e with
  | none => rw [hi] at h; simp at h
  | some i => rw [hi] at h; simp at h; exact ⟨i, rfl, h.1, h.2.1, h.2.2⟩
theorem info3 : (Try.prog.info? 3).map (fun i => (i.zero, i.size, i.bytes)) = some (some (.int .i64 0), 1, 8) := by kernel_rfl
/-- The whole numbers that a list of cells holds; the parts. -/
def iv (z : Int) : Value := .int .i64 z
def ivs (l : List Int) : List Value := l.map iv
def pv (p : Int × Int) : List Value := [.int .i64 p.1, .int .u64 p.2]
def pvs (l : List (Int × Int)) : List Value := l.flatMap pv
theorem pvs_len (l : List (Int × Int)) : (pvs l).length = l.length * 2 := by
  induction l with
  | nil => rfl
  | cons p l ih => rw [pvs, List.flatMap_cons, List.length_append, ← pvs, ih]; simp [pv]; omega
theorem pvs_fst (l : List (Int × Int)) (i : Nat) (h : i < l.length) : (pvs l)[i * 2]? = some (.int .i64 l[i].1) := by
  induction l generalizing i with
  | nil => simp at h
  | cons p l ih =>
    cases i with
    | zero => rfl
    | succ i =>
      rw [pvs, List.flatMap_cons, ← pvs, List.getElem?_append_right (by simp [pv]; omega)]
      have : (i + 1) * 2 - (pv p).length = i * 2 := by simp [pv]; omega
      rw [this, ih i (by simpa using h)]; rfl
theorem pvs_snd (l : List (Int × Int)) (i : Nat) (h : i < l.length) : (pvs l)[i * 2 + 1]? = some (.int .u64 l[i].2) := by
  induction l generalizing i with
  | nil => simp at h
  | cons p l ih =>
    cases i with
    | zero => rfl
    | succ i =>
      rw [pvs, List.flatMap_cons, ← pvs, List.getElem?_append_right (by simp [pv]; omega)]
      have : (i + 1) * 2 + 1 - (pv p).length = i * 2 + 1 := by simp [pv]; omega
      rw [this, ih i (by simpa using h)]; rfl

/-- A list of whole numbers, or of parts, that can be read from an address on. -/
def RI (W : World) (a : Option Addr) (n : Nat) (zs : List Int) : Prop :=
  zs.length = n ∧ (0 < n → ∃ x, a = some x ∧ ∀ i (h : i < zs.length), W.cell? (x.add i) = some (.int .i64 zs[i]))
def RP (W : World) (a : Option Addr) (n : Nat) (ps : List (Int × Int)) : Prop :=
  ps.length = n ∧ (0 < n → ∃ x, a = some x ∧ ∀ i (h : i < ps.length), W.cell? (x.add (i * 2)) = some (.int .i64 ps[i].1) ∧ W.cell? (x.add (i * 2 + 1)) = some (.int .u64 ps[i].2))
/-- All fit 64 bits. -/
def FI (zs : List Int) : Prop := ∀ z ∈ zs, -9223372036854775808 ≤ z ∧ z ≤ 9223372036854775807
theorem ri_below {W W' : World} {a : Option Addr} {n : Nat} {zs : List Int} (h : RI W a n zs) (g : Below W.heap.size W W') : RI W' a n zs :=
  ⟨h.1, fun h0 => by
    obtain ⟨x, hx, hc⟩ := h.2 h0
    exact ⟨x, hx, fun i hi => by rw [g.cell (World.block_lt_of_cell? _ _ (hc i hi))]; exact hc i hi⟩⟩
theorem own_ri {W : World} {base e : Nat} {v : Value} {n : Nat} {zs : List Int} (h : W.ownsRow base e 1 v n (ivs zs)) : ∃ a cap, v = .slice a n cap ∧ n ≤ cap ∧ cap ≤ maxLen ∧ RI W a n zs := by
  have hl : zs.length = n := by have := h.1; simpa [ivs] using this
  rcases h.2 with ⟨hv, hn⟩ | ⟨g, cap, cur, hv, _, hg, hc, hm, hs, ht⟩
  · exact ⟨none, 0, by rw [hv, hn], by omega, by decide, hl, fun h0 => by omega⟩
  · refine ⟨_, cap, hv, hc, hm, hl, fun _ => ⟨_, rfl, fun i hi => ?_⟩⟩
    refine h.cells (g := g) (by rw [hv]; rfl) i _ ?_
    simp [ivs, iv, hi]
end Go.Proofs.Ytlkebkchbgpnpaa
