/-
  What the walks of package xxh come to, as plain functions on numbers and lists of bytes, and what holds of them: no Go in sight; each condition stands at its theorem.
-/
import Derived.Laws.BitsAllLaws
import Derived.WalkSmall
namespace Go.Proofs.Ytlmkdadhdeielaa

def bs (l : List UInt8) : ByteArray := ⟨l.toArray⟩
theorem bs_list (s : ByteArray) : bs s.data.toList = s := rfl
theorem len_data (s : ByteArray) : s.data.toList.length = s.size := Array.length_toList
theorem u8_of (n : Nat) (h : n < 256) : (UInt8.ofNat n).toNat = n := by simp [UInt8.toNat_ofNat']; omega

/-! ### bytes as a number, the lowest first -/
def wval : List UInt8 → Nat
  | [] => 0
  | c :: l => c.toNat + 256 * wval l
def getw (l : List UInt8) : Nat × Nat × Nat := if l.length < 8 then (0, 0, 2) else (wval (l.take 8), 8, 0)
theorem wval_snoc (l : List UInt8) (c : UInt8) : wval (l ++ [c]) = wval l + c.toNat * 256 ^ l.length := by
  induction l with
  | nil => simp [wval]
  | cons d l ih => simp only [List.cons_append, wval, ih, List.length_cons, Nat.pow_succ, Nat.mul_add, Nat.add_assoc]; congr 2; rw [Nat.mul_comm (256 ^ _) 256, Nat.mul_left_comm]
theorem wval_lt (l : List UInt8) : wval l < 256 ^ l.length := by
  induction l with
  | nil => simp [wval]
  | cons d l ih => have := d.toNat_lt; simp only [wval, List.length_cons, Nat.pow_succ]; omega
theorem wval_lt64 (l : List UInt8) (h : l.length ≤ 8) : wval l < 18446744073709551616 := by
  have h1 := wval_lt l
  have h2 : (256 : Nat) ^ l.length ≤ 256 ^ 8 := Nat.pow_le_pow_right (by decide) h
  have e : (256 : Nat) ^ 8 = 18446744073709551616 := by decide
  omega
theorem wval_zeros (l : List UInt8) (n : Nat) : wval (l ++ List.replicate n 0) = wval l := by
  induction l with
  | nil =>
    induction n with
    | zero => rfl
    | succ n ih => 
      have e : wval (0 :: List.replicate n 0) = (0 : UInt8).toNat + 256 * wval (List.replicate n 0) := rfl
      rw [List.nil_append] at ih
      rw [List.replicate_succ, List.nil_append, e, ih]; rfl
  | cons d l ih => rw [List.cons_append, wval, wval, ih]

/-! ### bits -/
theorem or_hi (a x k : Nat) (ha : a < 2 ^ k) : a ||| (x * 2 ^ k) = a + x * 2 ^ k := by
  rw [← Nat.shiftLeft_eq, Nat.or_comm, ← Nat.shiftLeft_add_eq_or_of_lt ha, Nat.add_comm]
theorem shl_mod (x k : Nat) (hk : k ≤ 64) : x * 2 ^ k % 18446744073709551616 = x % 2 ^ (64 - k) * 2 ^ k := by
  have : (18446744073709551616 : Nat) = 2 ^ (64 - k) * 2 ^ k := by rw [← Nat.pow_add, Nat.sub_add_cancel hk]
  rw [this, Nat.mul_mod_mul_right]
theorem xor_lt (a b : Nat) (ha : a < 18446744073709551616) (hb : b < 18446744073709551616) : a ^^^ b < 18446744073709551616 := Nat.xor_lt_two_pow (n := 64) ha hb
theorem xor_inj (a b c : Nat) (h : a ^^^ c = b ^^^ c) : a = b := by
  have : a ^^^ c ^^^ c = b ^^^ c ^^^ c := by rw [h]
  rwa [Nat.xor_assoc, Nat.xor_assoc, Nat.xor_self, Nat.xor_zero, Nat.xor_zero] at this
theorem xor_inj' (a b c : Nat) (h : c ^^^ a = c ^^^ b) : a = b := xor_inj a b c (by rw [Nat.xor_comm a, Nat.xor_comm b]; exact h)

/-! ### the steps -/
def rol (x n : Nat) : Nat := x % 2 ^ (64 - n) * 2 ^ n + x / 2 ^ (64 - n)
def rnd (a w : Nat) : Nat := rol ((a + w * 14029467366897019727) % 18446744073709551616) 31 * 11400714785074694791 % 18446744073709551616
def mixA (h : Nat) : Nat := (h ^^^ h / 8589934592) * 14029467366897019727 % 18446744073709551616
def mixB (h : Nat) : Nat := (h ^^^ h / 536870912) * 1609587929392839161 % 18446744073709551616
def mixC (h : Nat) : Nat := h ^^^ h / 4294967296
def mix (h : Nat) : Nat := mixC (mixB (mixA h))

theorem mul_inj (a b p q : Nat) (hq : p * q % 18446744073709551616 = 1) (ha : a < 18446744073709551616) (hb : b < 18446744073709551616)
    (h : a * p % 18446744073709551616 = b * p % 18446744073709551616) : a = b := by
  have e : ∀ c : Nat, c < 18446744073709551616 → c * p % 18446744073709551616 * q % 18446744073709551616 = c := fun c hc => by
    rw [Nat.mod_mul_mod, Nat.mul_assoc, Nat.mul_mod, hq, Nat.mul_one, Nat.mod_mod, Nat.mod_eq_of_lt hc]
  rw [← e a ha, h, e b hb]
theorem p1_inj (a b : Nat) (ha : a < 18446744073709551616) (hb : b < 18446744073709551616) (h : a * 11400714785074694791 % 18446744073709551616 = b * 11400714785074694791 % 18446744073709551616) : a = b :=
  mul_inj a b _ 614540362697595703 (by decide) ha hb h
theorem p2_inj (a b : Nat) (ha : a < 18446744073709551616) (hb : b < 18446744073709551616) (h : a * 14029467366897019727 % 18446744073709551616 = b * 14029467366897019727 % 18446744073709551616) : a = b :=
  mul_inj a b _ 839798700976720815 (by decide) ha hb h
theorem p3_inj (a b : Nat) (ha : a < 18446744073709551616) (hb : b < 18446744073709551616) (h : a * 1609587929392839161 % 18446744073709551616 = b * 1609587929392839161 % 18446744073709551616) : a = b :=
  mul_inj a b _ 16855272203555305545 (by decide) ha hb h
theorem p5_inj (a b : Nat) (ha : a < 18446744073709551616) (hb : b < 18446744073709551616) (h : a * 2870177450012600261 % 18446744073709551616 = b * 2870177450012600261 % 18446744073709551616) : a = b :=
  mul_inj a b _ 14236653164957433613 (by decide) ha hb h

theorem rol_lt (x n : Nat) (hx : x < 18446744073709551616) (hn : n ≤ 64) : rol x n < 18446744073709551616 := by
  have e : (2 : Nat) ^ (64 - n) * 2 ^ n = 18446744073709551616 := by rw [← Nat.pow_add, Nat.sub_add_cancel hn]
  have h1 : x % 2 ^ (64 - n) < 2 ^ (64 - n) := Nat.mod_lt _ (Nat.pow_pos (by decide))
  have h2 : x / 2 ^ (64 - n) < 2 ^ n := by rw [Nat.div_lt_iff_lt_mul (Nat.pow_pos (by decide)), Nat.mul_comm, e]; exact hx
  have h3 : (x % 2 ^ (64 - n) + 1) * 2 ^ n ≤ 2 ^ (64 - n) * 2 ^ n := Nat.mul_le_mul_right _ h1
  rw [e, Nat.add_mul, Nat.one_mul] at h3
  unfold rol; omega
theorem rol_inj (x y n : Nat) (hx : x < 18446744073709551616) (hy : y < 18446744073709551616) (hn : n ≤ 64) (h : rol x n = rol y n) : x = y := by
  have e : (2 : Nat) ^ (64 - n) * 2 ^ n = 18446744073709551616 := by rw [← Nat.pow_add, Nat.sub_add_cancel hn]
  have hp : 0 < (2 : Nat) ^ n := Nat.pow_pos (by decide)
  have d : ∀ z, z < 18446744073709551616 → z / 2 ^ (64 - n) < 2 ^ n := fun z hz => by rw [Nat.div_lt_iff_lt_mul (Nat.pow_pos (by decide)), Nat.mul_comm, e]; exact hz
  have a : ∀ z, z < 18446744073709551616 → rol z n / 2 ^ n = z % 2 ^ (64 - n) ∧ rol z n % 2 ^ n = z / 2 ^ (64 - n) := fun z hz => by
    unfold rol
    constructor
    · rw [Nat.mul_comm, Nat.mul_add_div hp, Nat.div_eq_of_lt (d z hz), Nat.add_zero]
    · rw [Nat.mul_comm, Nat.mul_add_mod, Nat.mod_eq_of_lt (d z hz)]
  have ax := a x hx
  have ay := a y hy
  rw [h] at ax
  rw [← Nat.div_add_mod x (2 ^ (64 - n)), ← Nat.div_add_mod y (2 ^ (64 - n)), ← ax.1, ← ax.2, ← ay.1, ← ay.2]
theorem add_inj (a b c : Nat) (ha : a < 18446744073709551616) (hb : b < 18446744073709551616) (h : (a + c) % 18446744073709551616 = (b + c) % 18446744073709551616) : a = b := by omega

theorem rnd_lt (a w : Nat) : rnd a w < 18446744073709551616 := Nat.mod_lt _ (by decide)
theorem m64 (z : Nat) : z % 18446744073709551616 < 18446744073709551616 := Nat.mod_lt _ (by decide)
theorem addmod (a b q : Nat) (h : (a + q) % 18446744073709551616 = (b + q) % 18446744073709551616) : a % 18446744073709551616 = b % 18446744073709551616 := by omega
theorem addmod' (a b q : Nat) (h : (q + a) % 18446744073709551616 = (q + b) % 18446744073709551616) : a % 18446744073709551616 = b % 18446744073709551616 := by omega
/-- Turned, times an odd number, and more: each step leads two numbers to two. -/
theorem turn_inj (x y n p q r : Nat) (hq : p * q % 18446744073709551616 = 1) (hn : n ≤ 64) (hx : x < 18446744073709551616) (hy : y < 18446744073709551616)
    (h : (rol x n * p + r) % 18446744073709551616 = (rol y n * p + r) % 18446744073709551616) : x = y :=
  rol_inj x y n hx hy hn (mul_inj (rol x n) (rol y n) p q hq (rol_lt x n hx hn) (rol_lt y n hy hn) (addmod (rol x n * p) (rol y n * p) r h))
theorem turn_inj0 (x y n p q : Nat) (hq : p * q % 18446744073709551616 = 1) (hn : n ≤ 64) (hx : x < 18446744073709551616) (hy : y < 18446744073709551616)
    (h : rol x n * p % 18446744073709551616 = rol y n * p % 18446744073709551616) : x = y :=
  rol_inj x y n hx hy hn (mul_inj (rol x n) (rol y n) p q hq (rol_lt x n hx hn) (rol_lt y n hy hn) h)
theorem q1 : 11400714785074694791 * 614540362697595703 % 18446744073709551616 = 1 := by decide
theorem q2 : 14029467366897019727 * 839798700976720815 % 18446744073709551616 = 1 := by decide
theorem rnd_inj (a b c : Nat) (ha : a < 18446744073709551616) (hb : b < 18446744073709551616) (h : rnd a c = rnd b c) : a = b := by
  unfold rnd at h
  exact add_inj a b (c * 14029467366897019727) ha hb (turn_inj0 _ _ 31 11400714785074694791 614540362697595703 q1 (by decide) (m64 _) (m64 _) h)
theorem rnd_inj' (a b c : Nat) (ha : a < 18446744073709551616) (hb : b < 18446744073709551616) (h : rnd c a = rnd c b) : a = b := by
  unfold rnd at h
  have h1 := turn_inj0 _ _ 31 11400714785074694791 614540362697595703 q1 (by decide) (m64 _) (m64 _) h
  exact p2_inj a b ha hb (addmod' (a * 14029467366897019727) (b * 14029467366897019727) c h1)

theorem div_lt64 (x k : Nat) (hx : x < 18446744073709551616) : x / k < 18446744073709551616 := Nat.lt_of_le_of_lt (Nat.div_le_self _ _) hx
theorem mixA_lt (h : Nat) : mixA h < 18446744073709551616 := Nat.mod_lt _ (by decide)
theorem mixB_lt (h : Nat) : mixB h < 18446744073709551616 := Nat.mod_lt _ (by decide)
theorem mixC_lt (h : Nat) (hh : h < 18446744073709551616) : mixC h < 18446744073709551616 := xor_lt _ _ hh (div_lt64 _ _ hh)
theorem mix_lt (h : Nat) : mix h < 18446744073709551616 := mixC_lt _ (mixB_lt _)
theorem sh33 (x : Nat) (hx : x < 18446744073709551616) : (x ^^^ x / 8589934592) ^^^ (x ^^^ x / 8589934592) / 8589934592 = x := by
  have e : (8589934592 : Nat) = 2 ^ 33 := by decide
  have z : x / 8589934592 / 8589934592 = 0 := by omega
  rw [e, Nat.xor_div_two_pow, ← e, z, Nat.xor_zero, Nat.xor_assoc, Nat.xor_self, Nat.xor_zero]
theorem sh32 (x : Nat) (hx : x < 18446744073709551616) : (x ^^^ x / 4294967296) ^^^ (x ^^^ x / 4294967296) / 4294967296 = x := by
  have e : (4294967296 : Nat) = 2 ^ 32 := by decide
  have z : x / 4294967296 / 4294967296 = 0 := by omega
  rw [e, Nat.xor_div_two_pow, ← e, z, Nat.xor_zero, Nat.xor_assoc, Nat.xor_self, Nat.xor_zero]
theorem sh29 (x y : Nat) (hx : x < 18446744073709551616) (hy : y < 18446744073709551616) (h : x ^^^ x / 536870912 = y ^^^ y / 536870912) : x = y := by
  have e : (536870912 : Nat) = 2 ^ 29 := by decide
  have z : ∀ t, t < 18446744073709551616 → t / 536870912 / 536870912 / 536870912 = 0 := fun t ht => by omega
  have a : ∀ t : Nat, (t ^^^ t / 536870912) / 536870912 = t / 536870912 ^^^ t / 536870912 / 536870912 := fun t => by rw [e, Nat.xor_div_two_pow, ← e]
  have b : ∀ t : Nat, t < 18446744073709551616 → (t ^^^ t / 536870912) / 536870912 / 536870912 = t / 536870912 / 536870912 := fun t ht => by
    rw [a, e, Nat.xor_div_two_pow, ← e, z t ht, Nat.xor_zero]
  have h2 : x / 536870912 / 536870912 = y / 536870912 / 536870912 := by rw [← b x hx, h, b y hy]
  have h1 : x / 536870912 = y / 536870912 := xor_inj _ _ (x / 536870912 / 536870912) (by rw [← a x, h, a y, h2])
  exact xor_inj x y (x / 536870912) (by rw [h, h1])
theorem mix_inj (a b : Nat) (ha : a < 18446744073709551616) (hb : b < 18446744073709551616) (h : mix a = mix b) : a = b := by
  have h1 : mixB (mixA a) = mixB (mixA b) := by rw [← sh32 (mixB (mixA a)) (mixB_lt _), ← sh32 (mixB (mixA b)) (mixB_lt _)]; unfold mix mixC at h; rw [h]
  have h2 : mixA a = mixA b := sh29 _ _ (mixA_lt _) (mixA_lt _) (p3_inj _ _ (xor_lt _ _ (mixA_lt _) (div_lt64 _ _ (mixA_lt _))) (xor_lt _ _ (mixA_lt _) (div_lt64 _ _ (mixA_lt _))) h1)
  have h3 := p2_inj _ _ (xor_lt _ _ ha (div_lt64 _ _ ha)) (xor_lt _ _ hb (div_lt64 _ _ hb)) h2
  rw [← sh33 a ha, ← sh33 b hb, h3]

/-! ### the sum -/
def hword (h : Nat) (b : List UInt8) : Nat := (rol (h ^^^ rnd 0 (wval b)) 27 * 11400714785074694791 + 9650029242287828579) % 18446744073709551616
def hhalf (h : Nat) (b : List UInt8) : Nat := (rol (h ^^^ wval b * 11400714785074694791 % 18446744073709551616) 23 * 14029467366897019727 + 1609587929392839161) % 18446744073709551616
def hsingle (h : Nat) (b : List UInt8) : Nat := rol (h ^^^ wval b * 2870177450012600261 % 18446744073709551616) 11 * 11400714785074694791 % 18446744073709551616
def hlane (h l : Nat) : Nat := ((h ^^^ rnd 0 l) * 11400714785074694791 + 9650029242287828579) % 18446744073709551616

structure F4 where
  a : Nat
  b : Nat
  c : Nat
  d : Nat
def step4 (f : F4) (l : List UInt8) : F4 :=
  ⟨rnd f.a (wval (l.take 8)), rnd f.b (wval ((l.drop 8).take 8)), rnd f.c (wval ((l.drop 16).take 8)), rnd f.d (wval ((l.drop 24).take 8))⟩
def new4 (s : Nat) : F4 :=
  ⟨((s + 11400714785074694791) % 18446744073709551616 + 14029467366897019727) % 18446744073709551616, (s + 14029467366897019727) % 18446744073709551616, s, (s + 7046029288634856825) % 18446744073709551616⟩
def join4 (f : F4) : Nat :=
  hlane (hlane (hlane (hlane ((((rol f.a 1 + rol f.b 7) % 18446744073709551616 + rol f.c 12) % 18446744073709551616 + rol f.d 18) % 18446744073709551616) f.a) f.b) f.c) f.d

def pieces {α : Type} (g : α → List UInt8 → α) (sz : Nat) (l : List UInt8) (a : α) : Nat → α
  | 0 => a
  | k + 1 => g (pieces g sz l a k) ((l.drop (sz * k)).take sz)
def each {α : Type} (g : α → List UInt8 → α) (sz : Nat) (a : α) (l : List UInt8) : α × List UInt8 :=
  (pieces g sz l a (l.length / sz), l.drop (sz * (l.length / sz)))
def start (seed : Nat) (l : List UInt8) : Nat × List UInt8 :=
  if l.length < 32 then ((seed + 2870177450012600261) % 18446744073709551616, l) else (join4 (each step4 32 (new4 seed) l).1, (each step4 32 (new4 seed) l).2)
def most (n : Nat) (p : Nat × List UInt8) : Nat × List UInt8 :=
  each hhalf 4 (each hword 8 ((p.1 + n) % 18446744073709551616) p.2).1 (each hword 8 ((p.1 + n) % 18446744073709551616) p.2).2
def ahead (n : Nat) (p : Nat × List UInt8) : Nat := (each hsingle 1 (most n p).1 (most n p).2).1
def sum (seed : Nat) (l : List UInt8) : Nat := mix (ahead l.length (start seed l))

theorem hword_lt (h : Nat) (b : List UInt8) : hword h b < 18446744073709551616 := Nat.mod_lt _ (by decide)
theorem hhalf_lt (h : Nat) (b : List UInt8) : hhalf h b < 18446744073709551616 := Nat.mod_lt _ (by decide)
theorem hsingle_lt (h : Nat) (b : List UInt8) : hsingle h b < 18446744073709551616 := Nat.mod_lt _ (by decide)
theorem hlane_lt (h l : Nat) : hlane h l < 18446744073709551616 := Nat.mod_lt _ (by decide)
theorem join4_lt (f : F4) : join4 f < 18446744073709551616 := hlane_lt _ _
theorem sum_lt (seed : Nat) (l : List UInt8) : sum seed l < 18446744073709551616 := mix_lt _

def Fits (f : F4) : Prop := f.a < 18446744073709551616 ∧ f.b < 18446744073709551616 ∧ f.c < 18446744073709551616 ∧ f.d < 18446744073709551616
theorem new4_fits (s : Nat) (hs : s < 18446744073709551616) : Fits (new4 s) := ⟨Nat.mod_lt _ (by decide), Nat.mod_lt _ (by decide), hs, Nat.mod_lt _ (by decide)⟩
theorem step4_fits (f : F4) (l : List UInt8) : Fits (step4 f l) := ⟨rnd_lt _ _, rnd_lt _ _, rnd_lt _ _, rnd_lt _ _⟩

theorem pieces_pres {α : Type} (Q : α → Prop) (g : α → List UInt8 → α) (hg : ∀ a b, Q (g a b)) (sz : Nat) (l : List UInt8) (a : α) (ha : Q a) : ∀ k, Q (pieces g sz l a k)
  | 0 => ha
  | _ + 1 => hg _ _
theorem pieces_inj (g : Nat → List UInt8 → Nat) (hg : ∀ a b, g a b < 18446744073709551616) (hi : ∀ x y b, x < 18446744073709551616 → y < 18446744073709551616 → g x b = g y b → x = y) (sz : Nat) (l : List UInt8)
    (a b : Nat) (ha : a < 18446744073709551616) (hb : b < 18446744073709551616) : ∀ k, pieces g sz l a k = pieces g sz l b k → a = b
  | 0, h => h
  | k + 1, h => pieces_inj g hg hi sz l a b ha hb k (hi _ _ _ (pieces_pres (· < 18446744073709551616) g hg sz l a ha k) (pieces_pres (· < 18446744073709551616) g hg sz l b hb k) h)
theorem pieces_snoc {α : Type} (g : α → List UInt8 → α) (sz : Nat) (l : List UInt8) (c : UInt8) (a : α) : ∀ k, sz * k ≤ l.length → pieces g sz (l ++ [c]) a k = pieces g sz l a k
  | 0, _ => rfl
  | k + 1, h => by
    rw [Nat.mul_succ] at h
    rw [pieces, pieces, pieces_snoc g sz l c a k (by omega)]
    congr 1
    rw [List.drop_append_of_le_length (by omega), List.take_append_of_le_length (by rw [List.length_drop]; omega)]
theorem each_snoc {α : Type} (g : α → List UInt8 → α) (sz : Nat) (l : List UInt8) (c : UInt8) (a : α) (h : (l.length + 1) / sz = l.length / sz) :
    each g sz a (l ++ [c]) = ((each g sz a l).1, (each g sz a l).2 ++ [c]) := by
  unfold each
  rw [List.length_append, List.length_singleton, h, pieces_snoc _ _ _ _ _ _ (Nat.mul_div_le _ _), List.drop_append_of_le_length (Nat.mul_div_le _ _)]
theorem each_rest {α : Type} (g : α → List UInt8 → α) (sz : Nat) (l : List UInt8) (a : α) : (each g sz a l).2.length = l.length % sz := by
  unfold each
  rw [List.length_drop]
  have := Nat.div_add_mod l.length sz
  omega

theorem start_snoc (seed : Nat) (l : List UInt8) (c : UInt8) (h : l.length % 4 = 0) : start seed (l ++ [c]) = ((start seed l).1, (start seed l).2 ++ [c]) := by
  unfold start
  rw [List.length_append, List.length_singleton]
  by_cases h32 : l.length < 32
  · rw [if_pos h32, if_pos (by omega)]
  · rw [if_neg h32, if_neg (by omega), each_snoc _ _ _ _ _ (by omega)]
theorem start_rest (seed : Nat) (l : List UInt8) : (start seed l).2.length = l.length % 32 := by
  unfold start
  by_cases h : l.length < 32
  · rw [if_pos h]; exact (Nat.mod_eq_of_lt h).symm
  · rw [if_neg h]; exact each_rest step4 32 l (new4 seed)
theorem most_snoc (n : Nat) (p : Nat × List UInt8) (c : UInt8) (h : p.2.length % 4 = 0) : most n (p.1, p.2 ++ [c]) = ((most n p).1, (most n p).2 ++ [c]) := by
  have e1 := each_snoc hword 8 p.2 c ((p.1 + n) % 18446744073709551616) (by omega)
  have e2 := fun a => each_snoc hhalf 4 (each hword 8 ((p.1 + n) % 18446744073709551616) p.2).2 c a (by rw [each_rest]; omega)
  unfold most
  simp only [e1, e2]
theorem most_rest (n : Nat) (p : Nat × List UInt8) : (most n p).2.length = p.2.length % 4 := by
  have e1 := each_rest hword 8 p.2 ((p.1 + n) % 18446744073709551616)
  have e2 := fun a => each_rest hhalf 4 (each hword 8 ((p.1 + n) % 18446744073709551616) p.2).2 a
  unfold most
  rw [e2, e1]; omega
theorem start_fits (seed : Nat) (l : List UInt8) : (start seed l).1 < 18446744073709551616 := by
  unfold start
  by_cases h : l.length < 32
  · rw [if_pos h]; show (seed + 2870177450012600261) % 18446744073709551616 < 18446744073709551616; exact m64 _
  · rw [if_neg h]; exact join4_lt _
theorem each_lt (g : Nat → List UInt8 → Nat) (hg : ∀ a b, g a b < 18446744073709551616) (sz a : Nat) (l : List UInt8) (ha : a < 18446744073709551616) : (each g sz a l).1 < 18446744073709551616 :=
  pieces_pres (· < 18446744073709551616) g hg sz l a ha _
theorem most_lt (n : Nat) (p : Nat × List UInt8) : (most n p).1 < 18446744073709551616 :=
  each_lt hhalf hhalf_lt 4 _ _ (each_lt hword hword_lt 8 _ _ (m64 _))

theorem hword_inj (x y : Nat) (b : List UInt8) (hx : x < 18446744073709551616) (hy : y < 18446744073709551616) (h : hword x b = hword y b) : x = y := by
  have hr := rnd_lt 0 (wval b)
  unfold hword at h
  exact xor_inj x y (rnd 0 (wval b)) (turn_inj _ _ 27 11400714785074694791 614540362697595703 9650029242287828579 q1 (by decide) (xor_lt x _ hx hr) (xor_lt y _ hy hr) h)
theorem hhalf_inj (x y : Nat) (b : List UInt8) (hx : x < 18446744073709551616) (hy : y < 18446744073709551616) (h : hhalf x b = hhalf y b) : x = y := by
  have hr := m64 (wval b * 11400714785074694791)
  unfold hhalf at h
  exact xor_inj x y (wval b * 11400714785074694791 % 18446744073709551616) (turn_inj _ _ 23 14029467366897019727 839798700976720815 1609587929392839161 q2 (by decide) (xor_lt x _ hx hr) (xor_lt y _ hy hr) h)
theorem hsingle_inj (x y : Nat) (b : List UInt8) (hx : x < 18446744073709551616) (hy : y < 18446744073709551616) (h : hsingle x b = hsingle y b) : x = y := by
  have hr := m64 (wval b * 2870177450012600261)
  unfold hsingle at h
  exact xor_inj x y (wval b * 2870177450012600261 % 18446744073709551616) (turn_inj0 _ _ 11 11400714785074694791 614540362697595703 q1 (by decide) (xor_lt x _ hx hr) (xor_lt y _ hy hr) h)
def hnum (x u : Nat) : Nat := rol (x ^^^ u * 2870177450012600261 % 18446744073709551616) 11 * 11400714785074694791 % 18446744073709551616
theorem hnum_inj (x u v : Nat) (hx : x < 18446744073709551616) (hu : u < 18446744073709551616) (hv : v < 18446744073709551616) (h : hnum x u = hnum x v) : u = v := by
  unfold hnum at h
  exact p5_inj u v hu hv (xor_inj' (u * 2870177450012600261 % 18446744073709551616) (v * 2870177450012600261 % 18446744073709551616) x
    (turn_inj0 _ _ 11 11400714785074694791 614540362697595703 q1 (by decide) (xor_lt x _ hx (m64 _)) (xor_lt x _ hx (m64 _)) h))
theorem wval_one (e : UInt8) : wval [e] = e.toNat := by simp [wval]
theorem hsingle_num (x : Nat) (c : UInt8) : hsingle x [c] = hnum x c.toNat := by unfold hsingle hnum; rw [wval_one]
theorem hsingle_inj' (x : Nat) (c d : UInt8) (hx : x < 18446744073709551616) (h : hsingle x [c] = hsingle x [d]) : c = d := by
  have hc := c.toNat_lt
  have hd := d.toNat_lt
  rw [hsingle_num, hsingle_num] at h
  exact UInt8.toNat_inj.1 (hnum_inj x c.toNat d.toNat hx (by omega) (by omega) h)

theorem each_one (g : Nat → List UInt8 → Nat) (a : Nat) (x : UInt8) : (each g 1 a ([] ++ [x])).1 = g a [x] := by simp [each, pieces]
/-- Behind a length that is a multiple of four, another byte makes another sum. -/
theorem sum_last (seed : Nat) (l : List UInt8) (c d : UInt8) (h : l.length % 4 = 0) : sum seed (l ++ [c]) = sum seed (l ++ [d]) ↔ c = d := by
  constructor
  · intro e
    have q : (start seed l).2.length % 4 = 0 := by rw [start_rest]; omega
    have r : ∀ n, (most n (start seed l)).2 = [] := fun n => List.eq_nil_of_length_eq_zero (by rw [most_rest]; exact q)
    have a : ∀ x : UInt8, sum seed (l ++ [x]) = mix (hsingle (most (l.length + 1) (start seed l)).1 [x]) := fun x => by
      unfold sum ahead
      rw [start_snoc seed l x h, List.length_append, List.length_singleton, most_snoc _ _ _ q, r, each_one]
    rw [a c, a d] at e
    exact hsingle_inj' _ c d (most_lt _ _) (mix_inj _ _ (hsingle_lt _ _) (hsingle_lt _ _) e)
  · intro e; rw [e]

/-- Of few bytes another seed makes another sum. -/
theorem sum_seed (a b : Nat) (l : List UInt8) (h : l.length < 32) (ha : a < 18446744073709551616) (hb : b < 18446744073709551616) : sum a l = sum b l ↔ a = b := by
  constructor
  · intro e
    have s : ∀ x : Nat, start x l = ((x + 2870177450012600261) % 18446744073709551616, l) := fun x => by unfold start; rw [if_pos h]
    have pl : ∀ (p : Nat × List UInt8), ahead l.length p < 18446744073709551616 := fun p => each_lt hsingle hsingle_lt 1 _ _ (most_lt _ _)
    unfold sum at e
    have e1 := mix_inj _ _ (pl _) (pl _) e
    rw [s, s] at e1
    have hA := m64 (a + 2870177450012600261)
    have hB := m64 (b + 2870177450012600261)
    have key : ∀ A B : Nat, A < 18446744073709551616 → B < 18446744073709551616 → ahead l.length (A, l) = ahead l.length (B, l) → A = B := by
      intro A B hA hB e1
      have e2 : (most l.length (A, l)).1 = (most l.length (B, l)).1 := pieces_inj hsingle hsingle_lt hsingle_inj 1 (most l.length (A, l)).2 _ _ (most_lt _ _) (most_lt _ _) _ e1
      have e3 : (each hword 8 ((A + l.length) % 18446744073709551616) l).1 = (each hword 8 ((B + l.length) % 18446744073709551616) l).1 :=
        pieces_inj hhalf hhalf_lt hhalf_inj 4 (each hword 8 ((A + l.length) % 18446744073709551616) l).2 _ _ (each_lt hword hword_lt 8 _ _ (m64 _)) (each_lt hword hword_lt 8 _ _ (m64 _)) _ e2
      have e4 : (A + l.length) % 18446744073709551616 = (B + l.length) % 18446744073709551616 := pieces_inj hword hword_lt hword_inj 8 l _ _ (m64 _) (m64 _) _ e3
      exact add_inj A B l.length hA hB e4
    exact add_inj a b 2870177450012600261 ha hb (key _ _ hA hB e1)
  · intro e; rw [e]
end Go.Proofs.Ytlmkdadhdeielaa
