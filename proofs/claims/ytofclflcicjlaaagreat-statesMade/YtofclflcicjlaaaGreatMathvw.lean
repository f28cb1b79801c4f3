/-
  What the walks of package vint come to, as plain functions on numbers and lists of bytes, and what holds of them: no Go in sight; each condition stands at its theorem.
-/
import Derived.Test.YtofclflcicjlaaaGreatLy
import Derived.Test.YtofclflcicjlaaaGreatSc
import Derived.Test.YtofclflcicjlaaaGreatSg
import Derived.Test.YtofclflcicjlaaaGreatBuh
import Derived.Test.YtofclflcicjlaaaGreatRefHxh
import Derived.Test.YtofclflcicjlaaaGreatPuh
import Derived.Test.YtofclflcicjlaaaGreatRpyh
import Derived.Test.YtofclflcicjlaaaGreatTyh
import Derived.Test.YtofclflcicjlaaaGreatRdb
import Derived.Laws.OwnMore
import Derived.Laws.BitsAllLaws
import Derived.WalkSmall
namespace Go.Proofs.YtofclflcicjlaaaGreat
set_option maxRecDepth 100000
theorem bs_inj (a b : List UInt8) : bs a = bs b ↔ a = b := by
  constructor
  · intro h
    have : (bs a).data.toList = (bs b).data.toList := by rw [h]
    simpa [bs] using this
  · intro h; rw [h]

/-! ### seven bits a byte -/
def vbF : Nat → Nat → List UInt8
  | 0, n => [UInt8.ofNat n]
  | f + 1, n => if n < 128 then [UInt8.ofNat n] else UInt8.ofNat (n % 128 + 128) :: vbF f (n / 128)
def vb (n : Nat) : List UInt8 := vbF 9 n

theorem vbF_lt (f n : Nat) (h : n < 128) : vbF f n = [UInt8.ofNat n] := by
  cases f <;> simp [vbF, h]
theorem vbF_ge (f n : Nat) (h : 128 ≤ n) : vbF (f + 1) n = UInt8.ofNat (n % 128 + 128) :: vbF f (n / 128) := by
  simp [vbF, Nat.not_lt.2 h]
theorem vbF_len (f n : Nat) : 1 ≤ (vbF f n).length ∧ (vbF f n).length ≤ f + 1 := by
  induction f generalizing n with
  | zero => simp [vbF]
  | succ f ih =>
    by_cases h : n < 128
    · rw [vbF_lt _ _ h]; simp
    · rw [vbF_ge _ _ (by omega)]; have := ih (n / 128); simp; omega
theorem vb_len (n : Nat) : 1 ≤ (vb n).length ∧ (vb n).length ≤ 10 := vbF_len 9 n

/-! ### reading them -/
def endd (n i c : Nat) : Nat × Nat × Nat := if (0 < i ∧ c = 0) ∨ (i = 9 ∧ 1 < c) then (0, 0, 3) else (n, i + 1, 0)
def numF : Nat → Nat → Nat → List UInt8 → Nat × Nat × Nat
  | 0, _, _, _ => (0, 0, 3)
  | _ + 1, _, _, [] => (0, 0, 2)
  | f + 1, i, acc, c :: l => if c.toNat < 128 then endd (acc + c.toNat * 128 ^ i % 18446744073709551616) i c.toNat else numF f (i + 1) (acc + (c.toNat - 128) * 128 ^ i) l
def numb (l : List UInt8) : Nat × Nat × Nat := numF 10 0 0 l

def val : List UInt8 → Nat
  | [] => 0
  | c :: l => c.toNat % 128 + 128 * val l

theorem val_snoc (l : List UInt8) (c : UInt8) : val (l ++ [c]) = val l + c.toNat % 128 * 128 ^ l.length := by
  induction l with
  | nil => simp [val]
  | cons d l ih => simp only [List.cons_append, val, ih, List.length_cons, Nat.pow_succ, Nat.mul_add, Nat.add_assoc]; congr 2; rw [Nat.mul_comm (128 ^ _) 128, Nat.mul_left_comm]
theorem val_lt (l : List UInt8) : val l < 128 ^ l.length := by
  induction l with
  | nil => simp [val]
  | cons d l ih => simp only [val, List.length_cons, Nat.pow_succ]; omega

theorem numb_pre (pre : List UInt8) (hp : ∀ c ∈ pre, 128 ≤ c.toNat) : ∀ (f i acc : Nat) (r : List UInt8),
    numF (f + pre.length) i acc (pre ++ r) = numF f (i + pre.length) (acc + val pre * 128 ^ i) r := by
  induction pre with
  | nil => intro f i acc r; simp [val]
  | cons c l ih =>
    intro f i acc r
    have hc : 128 ≤ c.toNat := hp c (by simp)
    have h255 : c.toNat < 256 := c.toNat_lt
    rw [List.length_cons, ← Nat.add_assoc, List.cons_append, numF, if_neg (by omega), ih (fun d hd => hp d (by simp [hd]))]
    rw [show i + 1 + l.length = i + (l.length + 1) from by omega]
    congr 1
    have h1 : c.toNat % 128 = c.toNat - 128 := by omega
    simp only [val, h1, Nat.add_mul, Nat.pow_succ, Nat.add_assoc]
    rw [show 128 * val l * 128 ^ i = val l * (128 ^ i * 128) from by rw [Nat.mul_comm 128, Nat.mul_assoc, Nat.mul_comm 128]]

/-- Behind i bytes that are not the last, all from 128 on. -/
theorem numb_at (pre r : List UInt8) (hp : ∀ c ∈ pre, 128 ≤ c.toNat) (hl : pre.length ≤ 10) : numb (pre ++ r) = numF (10 - pre.length) pre.length (val pre) r := by
  have := numb_pre pre hp (10 - pre.length) 0 0 r
  rw [Nat.sub_add_cancel hl] at this
  unfold numb
  rw [this]
  simp

theorem numF_vbF (f : Nat) : ∀ (i m acc : Nat) (r : List UInt8), i + f = 9 → (0 < i → 0 < m) → acc + m * 128 ^ i < 18446744073709551616 →
    numF (f + 1) i acc (vbF f m ++ r) = (acc + m * 128 ^ i, i + (vbF f m).length, 0) := by
  induction f with
  | zero =>
    intro i m acc r hi hm hb
    obtain rfl : i = 9 := by omega
    have h9 : (128 : Nat) ^ 9 = 9223372036854775808 := by decide
    rw [h9] at hb ⊢
    have h2 : m < 2 := by omega
    have hu := u8_of m (by omega)
    have := hm (by omega)
    simp only [vbF, List.cons_append, List.nil_append, numF, hu, h9, endd]
    rw [if_pos (by omega), if_neg (by omega), Nat.mod_eq_of_lt (by omega)]
    simp
  | succ f ih =>
    intro i m acc r hi hm hb
    by_cases h : m < 128
    · have hu := u8_of m (by omega)
      rw [vbF_lt _ _ h]
      simp only [List.cons_append, List.nil_append, numF, hu, endd]
      have h8 : m * 128 ^ i < 18446744073709551616 := by omega
      rw [if_pos h, if_neg (by omega), Nat.mod_eq_of_lt h8]
      simp
    · have hu := u8_of (m % 128 + 128) (by omega)
      rw [vbF_ge _ _ (by omega)]
      simp only [List.cons_append, numF, hu]
      rw [if_neg (by omega)]
      have e : acc + (m % 128 + 128 - 128) * 128 ^ i + m / 128 * 128 ^ (i + 1) = acc + m * 128 ^ i := by
        have : m % 128 * 128 ^ i + m / 128 * (128 ^ i * 128) = m * 128 ^ i := by
          rw [Nat.mul_comm (128 ^ i) 128, ← Nat.mul_assoc, ← Nat.add_mul]; congr 1; omega
        rw [Nat.pow_succ, Nat.add_sub_cancel]; omega
      rw [ih (i + 1) (m / 128) _ r (by omega) (by omega) (by rw [e]; exact hb), e]
      simp only [List.length_cons, Prod.mk.injEq, true_and, and_true]; omega

theorem numb_vb (n : Nat) (r : List UInt8) (h : n < 18446744073709551616) : numb (vb n ++ r) = (n, (vb n).length, 0) := by
  have := numF_vbF 9 0 n 0 r rfl (by omega) (by omega)
  simpa [numb, vb] using this

theorem vb_inj (n m : Nat) (hn : n < 18446744073709551616) (hm : m < 18446744073709551616) (h : vb n = vb m) : n = m := by
  have h1 := numb_vb n [] hn
  have h2 := numb_vb m [] hm
  rw [h] at h1
  rw [h1] at h2
  exact (Prod.mk.inj h2).1

theorem vbF_val (pre : List UInt8) (hp : ∀ c ∈ pre, 128 ≤ c.toNat) (c : UInt8) (hc : c.toNat < 128) : ∀ f, pre.length ≤ f → (pre = [] ∨ 0 < c.toNat) →
    vbF f (val (pre ++ [c])) = pre ++ [c] := by
  induction pre with
  | nil => intro f _ _; have : val [c] = c.toNat := by simp [val]; omega
           rw [List.nil_append, this, vbF_lt _ _ hc]; simp
  | cons d l ih =>
    intro f hf h0
    have hd : 128 ≤ d.toNat := hp d (by simp)
    have h255 : d.toNat < 256 := d.toNat_lt
    obtain ⟨f, rfl⟩ : ∃ g, f = g + 1 := ⟨f - 1, by simp at hf; omega⟩
    have hv : 0 < val (l ++ [c]) := by
      have hc0 : 0 < c.toNat := by simpa using h0
      rw [val_snoc, Nat.mod_eq_of_lt hc]
      have : 0 < c.toNat * 128 ^ l.length := Nat.mul_pos hc0 (Nat.pow_pos (by decide))
      omega
    have ih' := ih (fun x hx => hp x (by simp [hx])) f (by simp at hf; omega) (.inr (by simpa using h0))
    rw [List.cons_append, val, vbF_ge _ _ (by omega)]
    have e1 : (d.toNat % 128 + 128 * val (l ++ [c])) / 128 = val (l ++ [c]) := by omega
    have e2 : (d.toNat % 128 + 128 * val (l ++ [c])) % 128 + 128 = d.toNat := by omega
    rw [e1, e2, ih']
    simp

/-- What the reference asks of the last byte is what 'endd' asks. -/
theorem vb_ended (pre : List UInt8) (hp : ∀ c ∈ pre, 128 ≤ c.toNat) (c : UInt8) (hc : c.toNat < 128) (hl : pre.length ≤ 9) :
    (vb (val pre + c.toNat * 128 ^ pre.length % 18446744073709551616) = pre ++ [c]) ↔ ¬ ((0 < pre.length ∧ c.toNat = 0) ∨ (pre.length = 9 ∧ 1 < c.toNat)) := by
  have hv := val_lt pre
  have hnum := numb_at pre [c] hp (by omega)
  obtain ⟨f, hf⟩ : ∃ f, 10 - pre.length = f + 1 := ⟨9 - pre.length, by omega⟩
  rw [hf] at hnum
  simp only [numF, if_pos hc] at hnum
  constructor
  · intro h hbad
    have h64 : val pre + c.toNat * 128 ^ pre.length % 18446744073709551616 < 18446744073709551616 := by
      have hcases : pre.length = 9 ∨ pre.length ≤ 8 := by omega
      rcases hcases with h9 | h8
      · rw [h9] at hv ⊢
        have h9' : (128 : Nat) ^ 9 = 9223372036854775808 := by decide
        rw [h9'] at hv ⊢; omega
      · have : (128 : Nat) ^ pre.length ≤ 128 ^ 8 := Nat.pow_le_pow_right (by decide) h8
        have h8' : (128 : Nat) ^ 8 = 72057594037927936 := by decide
        have : c.toNat * 128 ^ pre.length ≤ 127 * 128 ^ 8 := Nat.mul_le_mul (by omega) this
        rw [h8'] at this
        omega
    have h1 := numb_vb _ [] h64
    rw [h, List.append_nil, hnum, endd, if_pos hbad] at h1
    simp at h1
  · intro hgood
    have e : c.toNat * 128 ^ pre.length % 18446744073709551616 = c.toNat * 128 ^ pre.length := by
      apply Nat.mod_eq_of_lt
      have hcases : pre.length = 9 ∨ pre.length ≤ 8 := by omega
      rcases hcases with h9 | h8
      · rw [h9]
        have h9' : (128 : Nat) ^ 9 = 9223372036854775808 := by decide
        rw [h9']; omega
      · have : (128 : Nat) ^ pre.length ≤ 128 ^ 8 := Nat.pow_le_pow_right (by decide) h8
        have h8' : (128 : Nat) ^ 8 = 72057594037927936 := by decide
        have : c.toNat * 128 ^ pre.length ≤ 127 * 128 ^ 8 := Nat.mul_le_mul (by omega) this
        rw [h8'] at this
        omega
    rw [e]
    have e2 : val pre + c.toNat * 128 ^ pre.length = val (pre ++ [c]) := by rw [val_snoc, Nat.mod_eq_of_lt hc]
    rw [e2]
    refine vbF_val pre hp c hc 9 hl ?_
    by_cases h : pre = []
    · exact .inl h
    · have : 0 < pre.length := List.length_pos_iff.2 h
      right; omega

theorem shl_mod (x k : Nat) (hk : k ≤ 64) : x * 2 ^ k % 18446744073709551616 = x % 2 ^ (64 - k) * 2 ^ k := by
  have : (18446744073709551616 : Nat) = 2 ^ (64 - k) * 2 ^ k := by rw [← Nat.pow_add, Nat.sub_add_cancel hk]
  rw [this, Nat.mul_mod_mul_right]
end Go.Proofs.YtofclflcicjlaaaGreat
