/-
  Rows of noughts counted by hand; half a byte as it is read of a text.
-/
import Derived.Test.YthjokhfjfiaaiaaKc
import Derived.Test.YthjokhfjfiaaiaaCn
namespace Go.Proofs.Ythjokhfjfiaaiaa
open Go.ChangeShapes Go.WideShapes Go.ChangeAt Go.RowKit
open Go.ChangeMaps (open_string shut_string)

def runsF : Nat → Nat → List Nat
  | 0, _ => []
  | f + 1, i => if i = 0 then [] else 0 :: (min i 16 - 1) :: runsF f (i - 16)
theorem runs_zero (f : Nat) : runsF f 0 = [] := by cases f <;> rfl
theorem runs_step (f : Nat) (i : Nat) (h : 0 < i) : runsF (f + 1) i = 0 :: (min i 16 - 1) :: runsF f (i - 16) := by
  conv => lhs; unfold runsF
  rw [if_neg (by omega)]
def runK (k : Nat) : List Nat := runsF 5 k ++ [1] ++ runsF 5 (64 - k)
def runP (k : Nat) : List Nat := runK k ++ (if (runK k).length % 2 = 1 then [0] else [])
theorem runs_put : ∀ k, k < 65 → nbs (putL (lZ.set k 1)) = runP k ∧ (putL (lZ.set k 1)).length ≤ 8 ∧ (runK k).length ≤ 16 := by decide +kernel
theorem runs_odd : getA [0, 0, 224, 240, 240, 240] 0 = (3, [], 0) := by decide +kernel
theorem i64_and15 (y : Nat) (h : y < 256) : bits .and .i64 (y : Int) 15 = ((y % 16 : Nat) : Int) := by
  have : ∀ y : Nat, y < 256 → bits .and .i64 (y : Int) 15 = ((y % 16 : Nat) : Int) := by decide +kernel
  exact this y h
/-- Half a byte, as it is read of a text. -/
theorem nib_at (l : List UInt8) : ∀ (i : Nat) (h : i / 2 < l.length), l[i / 2].toNat / 2 ^ (i % 2 * 4) % 16 = at0 (nbs l) i := by
  induction l with
  | nil => intro i h; simp at h
  | cons c l ih =>
    intro i h
    have hc := c.toNat_lt
    match i, h with
    | 0, _ => simp [nbs_cons, at0]
    | 1, _ =>
      simp [nbs_cons, at0]
      omega
    | i + 2, h =>
      have h2 : (i + 2) / 2 = i / 2 + 1 := by omega
      have h3 : (i + 2) % 2 = i % 2 := by omega
      have h4 : i / 2 < l.length := by rw [h2] at h; simpa using h
      rw [nbs_cons, at0_cons, at0_cons, ← ih i h4, h3]
      congr 3
      simp [h2]
theorem nib_text (s : ByteArray) (i d p : Nat) (hd : i / 2 = d) (hp : i % 2 = p) (h : d < s.size) (z : Int) (hz : z = (s[d].toNat : Int) / 2 ^ (p * 4)) : bits .and .i64 z 15 = (at0 (nbs s.data.toList) i : Int) := by
  subst hd hp hz
  have e : (s[i / 2].toNat : Int) / 2 ^ (i % 2 * 4) = ((s[i / 2].toNat / 2 ^ (i % 2 * 4) : Nat) : Int) := by simp
  have hl : i / 2 < s.data.toList.length := by rw [len_data]; exact h
  rw [e, i64_and15 _ (Nat.lt_of_le_of_lt (Nat.div_le_self _ _) (UInt8.toNat_lt _)), ← nib_at s.data.toList i hl]
  rfl
end Go.Proofs.Ythjokhfjfiaaiaa
