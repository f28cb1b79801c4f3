/-
  Rows of bits as plain numbers: the bytes of a number, its bits, what is put behind and what is got: no Go in sight; each condition stands at its theorem.
-/
import Derived.Laws.BitsAllLaws
import Derived.WalkSmall
namespace Go.Proofs.Ythjokhfjfiaaiaa

def bs (l : List UInt8) : ByteArray := ⟨l.toArray⟩
theorem size_bs (l : List UInt8) : (bs l).size = l.length := by simp [bs, ByteArray.size]
theorem bs_list (s : ByteArray) : bs s.data.toList = s := rfl
theorem bs_data (l : List UInt8) : (bs l).data.toList = l := rfl
theorem len_data (s : ByteArray) : s.data.toList.length = s.size := Array.length_toList
theorem u8_of (n : Nat) (h : n < 256) : (UInt8.ofNat n).toNat = n := by simp [UInt8.toNat_ofNat']; omega

/-- The first k bytes of a number, the lowest first. -/
def byt (N k : Nat) : List UInt8 := (List.range k).map fun i => UInt8.ofNat (N / 256 ^ i % 256)
/-- The first k bits of a number, the lowest first. -/
def bit (N k : Nat) : List UInt8 := (List.range k).map fun i => UInt8.ofNat (N / 2 ^ i % 2)
/-- The number of bytes, the lowest first. -/
def le : List UInt8 → Nat
  | [] => 0
  | c :: l => c.toNat + 256 * le l

theorem byt_len (N k : Nat) : (byt N k).length = k := by simp [byt]
theorem bit_len (N k : Nat) : (bit N k).length = k := by simp [bit]
theorem byt_get (N k j : Nat) (h : j < (byt N k).length) : (byt N k)[j] = UInt8.ofNat (N / 256 ^ j % 256) := by simp [byt]
theorem bit_get (N k j : Nat) (h : j < (bit N k).length) : (bit N k)[j] = UInt8.ofNat (N / 2 ^ j % 2) := by simp [bit]
theorem byt_snoc (N k : Nat) : byt N (k + 1) = byt N k ++ [UInt8.ofNat (N / 256 ^ k % 256)] := by simp [byt, List.range_succ]
theorem bit_snoc (N k : Nat) : bit N (k + 1) = bit N k ++ [UInt8.ofNat (N / 2 ^ k % 2)] := by simp [bit, List.range_succ]
theorem byt_zero (N : Nat) : byt N 0 = [] := rfl
theorem bit_zero (N : Nat) : bit N 0 = [] := rfl

theorem add_div (N x a : Nat) (h : 0 < a) : (N + x * a) / a = N / a + x := Nat.add_mul_div_right _ _ h
theorem pow256 (k : Nat) : (256 : Nat) ^ k = 2 ^ (8 * k) := by rw [Nat.pow_mul]

/-- What stands from a place on does not reach the digits below it. -/
theorem low_digit (B N x i k : Nat) (hB : 0 < B) (h : i < k) : (N + x * B ^ k) / B ^ i % B = N / B ^ i % B := by
  obtain ⟨d, rfl⟩ : ∃ d, k = i + 1 + d := ⟨k - i - 1, by omega⟩
  have e : x * B ^ (i + 1 + d) = (x * B ^ d * B) * B ^ i := by
    rw [Nat.pow_add, Nat.pow_succ]; ac_rfl
  rw [e, Nat.add_mul_div_right _ _ (Nat.pow_pos hB), Nat.add_mul_mod_self_right]

theorem byt_low (N x k : Nat) : byt (N + x * 256 ^ k) k = byt N k := by
  unfold byt
  refine List.map_congr_left fun i hi => ?_
  rw [low_digit 256 N x i k (by decide) (by simpa using hi)]
theorem bit_low (N x k : Nat) : bit (N + x * 2 ^ k) k = bit N k := by
  unfold bit
  refine List.map_congr_left fun i hi => ?_
  rw [low_digit 2 N x i k (by decide) (by simpa using hi)]

/-- One bit behind the others. -/
theorem bit_put (N sz x : Nat) (h : N < 2 ^ sz) : bit (N + x * 2 ^ sz) (sz + 1) = bit N sz ++ [UInt8.ofNat (x % 2)] := by
  rw [bit_snoc, bit_low, add_div _ _ _ (Nat.pow_pos (by decide)), Nat.div_eq_of_lt h, Nat.zero_add]

theorem le_snoc (l : List UInt8) (c : UInt8) : le (l ++ [c]) = le l + c.toNat * 256 ^ l.length := by
  induction l with
  | nil => simp [le]
  | cons d l ih => simp only [List.cons_append, le, ih, List.length_cons, Nat.pow_succ, Nat.mul_add]; rw [← Nat.add_assoc, Nat.mul_comm (256 ^ _) 256, Nat.mul_left_comm]
theorem le_lt (l : List UInt8) : le l < 256 ^ l.length := by
  induction l with
  | nil => simp [le]
  | cons d l ih => simp only [le, List.length_cons, Nat.pow_succ]; have := d.toNat_lt; omega
theorem le_byt (N k : Nat) : le (byt N k) = N % 256 ^ k := by
  induction k with
  | zero => simp [byt_zero, le, Nat.mod_one]
  | succ k ih => rw [byt_snoc, le_snoc, ih, byt_len, u8_of _ (Nat.mod_lt _ (by decide)), Nat.pow_succ, Nat.mod_mul, Nat.mul_comm (256 ^ k)]
theorem le_get (l : List UInt8) (q : Nat) (h : q < l.length) : le l / 256 ^ q % 256 = l[q].toNat := by
  induction l generalizing q with
  | nil => simp at h
  | cons d l ih =>
    have hd := d.toNat_lt
    cases q with
    | zero => simp [le]
    | succ q => rw [List.getElem_cons_succ, ← ih q (by simpa using h), le, Nat.pow_succ, Nat.mul_comm (256 ^ q), ← Nat.div_div_eq_div_mul, Nat.add_mul_div_left _ _ (by decide), Nat.div_eq_of_lt hd, Nat.zero_add]
theorem byt_le (l : List UInt8) : byt (le l) l.length = l := by
  refine List.ext_getElem (by rw [byt_len]) fun j h1 h2 => ?_
  rw [byt_get, le_get l j h2]
  simp
theorem le_inj (a b : List UInt8) (h : a.length = b.length) (e : le a = le b) : a = b := by rw [← byt_le a, ← byt_le b, h, e]

/-- The number of bytes in which so many bits lie. -/
def byc (sz : Nat) : Nat := (sz + 7) / 8

theorem pow_split (sz : Nat) : 2 ^ sz = 2 ^ (sz % 8) * 256 ^ (sz / 8) := by rw [pow256, ← Nat.pow_add]; congr 1; omega
theorem pow_le_of {a b : Nat} (h : a ≤ b) : 2 ^ a ≤ 2 ^ b := Nat.pow_le_pow_right (by decide) h
theorem lt_byc (N sz : Nat) (h : N < 2 ^ sz) : N < 256 ^ byc sz := by
  rw [pow256]; exact Nat.lt_of_lt_of_le h (pow_le_of (by unfold byc; omega))

/-- The top digit of a number of sz bits. -/
theorem top_lt (N sz : Nat) (h : N < 2 ^ sz) : N / 256 ^ (sz / 8) < 2 ^ (sz % 8) := by
  rw [Nat.div_lt_iff_lt_mul (Nat.pow_pos (by decide)), ← pow_split]; exact h

theorem fill_bytes (N sz x n : Nat) (h : N < 2 ^ sz) (hx : x < 2 ^ n) (hn : 0 < n) (hp : sz % 8 + n ≤ 8) :
    byc (sz + n) = sz / 8 + 1 ∧ N / 256 ^ (sz / 8) + x * 2 ^ (sz % 8) < 256 ∧
    byt (N + x * 2 ^ sz) (sz / 8 + 1) = byt N (sz / 8) ++ [UInt8.ofNat (N / 256 ^ (sz / 8) + x * 2 ^ (sz % 8))] := by
  have ht := top_lt N sz h
  have hlt : N / 256 ^ (sz / 8) + x * 2 ^ (sz % 8) < 256 := by
    have h1 : (x + 1) * 2 ^ (sz % 8) ≤ 2 ^ n * 2 ^ (sz % 8) := Nat.mul_le_mul_right _ hx
    rw [← Nat.pow_add, Nat.add_mul, Nat.one_mul] at h1
    have h2 : 2 ^ (n + sz % 8) ≤ 2 ^ 8 := pow_le_of (by omega)
    have h3 : (2 : Nat) ^ 8 = 256 := rfl
    omega
  refine ⟨by unfold byc; omega, hlt, ?_⟩
  have e : x * 2 ^ sz = x * 2 ^ (sz % 8) * 256 ^ (sz / 8) := by rw [Nat.mul_assoc, ← pow_split]
  rw [byt_snoc, e, byt_low, add_div _ _ _ (Nat.pow_pos (by decide)), Nat.mod_eq_of_lt hlt]

/-- Putting in two is putting in one. -/
theorem put_two (v r m : Nat) : v % 2 ^ (r + m) = v % 2 ^ r + v / 2 ^ r % 2 ^ m * 2 ^ r := by
  rw [Nat.pow_add, Nat.mod_mul, Nat.mul_comm (2 ^ r)]

theorem put_lt (N sz v n : Nat) (h : N < 2 ^ sz) : N + v % 2 ^ n * 2 ^ sz < 2 ^ (sz + n) := by
  have h1 : v % 2 ^ n < 2 ^ n := Nat.mod_lt _ (Nat.pow_pos (by decide))
  have h2 : (v % 2 ^ n + 1) * 2 ^ sz ≤ 2 ^ n * 2 ^ sz := Nat.mul_le_mul_right _ h1
  rw [← Nat.pow_add, Nat.add_mul, Nat.one_mul, Nat.add_comm n] at h2
  omega

theorem put_put (N sz v r m : Nat) : N + v % 2 ^ r * 2 ^ sz + v / 2 ^ r % 2 ^ m * 2 ^ (sz + r) = N + v % 2 ^ (r + m) * 2 ^ sz := by
  rw [put_two, Nat.add_mul, Nat.add_assoc, Nat.mul_assoc _ (2 ^ r), ← Nat.pow_add, Nat.add_comm r]

/-- What is got: n bits from the place a on. -/
def got (X a n : Nat) : Nat := X / 2 ^ a % 2 ^ n
theorem got_lt (X a n : Nat) : got X a n < 2 ^ n := Nat.mod_lt _ (Nat.pow_pos (by decide))
theorem got_zero (X a : Nat) : got X a 0 = 0 := by simp [got, Nat.mod_one]
theorem got_two (X a r m : Nat) : got X a (r + m) = got X a r + got X (a + r) m * 2 ^ r := by
  unfold got
  rw [put_two, Nat.pow_add, Nat.div_div_eq_div_mul]
/-- Within one byte. -/
theorem got_byte (l : List UInt8) (a n : Nat) (h : a / 8 < l.length) (hp : a % 8 + n ≤ 8) : got (le l) a n = l[a / 8].toNat / 2 ^ (a % 8) % 2 ^ n := by
  rw [← le_get l _ h]
  unfold got
  rw [pow_split a, Nat.mul_comm, ← Nat.div_div_eq_div_mul]
  generalize le l / 256 ^ (a / 8) = y
  have e : (256 : Nat) = 2 ^ (a % 8) * 2 ^ (8 - a % 8) := by rw [← Nat.pow_add, show a % 8 + (8 - a % 8) = 8 from by omega]
  conv => rhs; rw [e]
  rw [Nat.mod_mul_right_div_self]
  have e2 : (2 : Nat) ^ (8 - a % 8) = 2 ^ n * 2 ^ (8 - a % 8 - n) := by rw [← Nat.pow_add]; congr 1; omega
  rw [e2, Nat.mod_mul_right_mod]

/-- What was put is got: behind N of sz bits. -/
theorem got_put (N sz v k R : Nat) (h : N < 2 ^ sz) : got (N + v % 2 ^ k * 2 ^ sz + R * 2 ^ (sz + k)) sz k = v % 2 ^ k := by
  unfold got
  have e : N + v % 2 ^ k * 2 ^ sz + R * 2 ^ (sz + k) = N + (v % 2 ^ k + R * 2 ^ k) * 2 ^ sz := by
    rw [Nat.add_mul, Nat.add_assoc, Nat.mul_assoc R, ← Nat.pow_add, Nat.add_comm k]
  rw [e, add_div _ _ _ (Nat.pow_pos (by decide)), Nat.div_eq_of_lt h, Nat.zero_add, Nat.add_mul_mod_self_right, Nat.mod_mod]

/-- One bit set. -/
theorem or_hi (a x k : Nat) (ha : a < 2 ^ k) : a ||| (x * 2 ^ k) = a + x * 2 ^ k := by
  rw [Nat.or_comm, Nat.mul_comm x, Nat.two_pow_add_eq_or_of_lt ha x |>.symm, Nat.add_comm]

theorem mod_succ (N i : Nat) : N % 2 ^ (i + 1) = N % 2 ^ i + N / 2 ^ i % 2 * 2 ^ i := by have := put_two N i 1; simpa using this

theorem byt_set (N k i : Nat) : byt (N % 2 ^ (i + 1)) k = (byt (N % 2 ^ i) k).set (i / 8) (UInt8.ofNat (N % 2 ^ i / 256 ^ (i / 8) % 256 + N / 2 ^ i % 2 * 2 ^ (i % 8))) := by
  refine List.ext_getElem (by simp [byt_len]) fun j h1 h2 => ?_
  rw [byt_get, List.getElem_set]
  have hm : N % 2 ^ i < 2 ^ i := Nat.mod_lt _ (Nat.pow_pos (by decide))
  by_cases e : i / 8 = j
  · rw [if_pos e, ← e, mod_succ]
    have ht := top_lt _ _ hm
    have e1 : N / 2 ^ i % 2 * 2 ^ i = N / 2 ^ i % 2 * 2 ^ (i % 8) * 256 ^ (i / 8) := by rw [Nat.mul_assoc, ← pow_split]
    rw [e1, add_div _ _ _ (Nat.pow_pos (by decide))]
    have h3 : 2 ^ (i % 8) ≤ 2 ^ 7 := pow_le_of (by omega)
    have h4 : N / 2 ^ i % 2 * 2 ^ (i % 8) ≤ 1 * 2 ^ (i % 8) := Nat.mul_le_mul_right _ (by omega)
    have h5 : (2 : Nat) ^ 7 = 128 := rfl
    rw [Nat.mod_eq_of_lt (show N % 2 ^ i / 256 ^ (i / 8) < 256 by omega), Nat.mod_eq_of_lt (by omega)]
  · rw [if_neg e, byt_get]
    by_cases g : j < i / 8
    · rw [mod_succ, show i = (8 * (j + 1)) + (i - 8 * (j + 1)) from by omega]
      generalize i - 8 * (j + 1) = d
      rw [Nat.pow_add 2 (8 * (j + 1)), ← pow256, Nat.mul_comm (256 ^ _) (2 ^ d), ← Nat.mul_assoc, low_digit 256 _ _ _ _ (by decide) (Nat.lt_succ_self j)]
    · have h6 : 2 ^ (i + 1) ≤ 256 ^ j := by rw [pow256]; exact pow_le_of (by omega)
      have h7 : 2 ^ i ≤ 256 ^ j := by rw [pow256]; exact pow_le_of (by omega)
      rw [Nat.div_eq_of_lt (Nat.lt_of_lt_of_le (Nat.mod_lt _ (Nat.pow_pos (by decide))) h6), Nat.div_eq_of_lt (Nat.lt_of_lt_of_le (Nat.mod_lt _ (Nat.pow_pos (by decide))) h7)]
end Go.Proofs.Ythjokhfjfiaaiaa
