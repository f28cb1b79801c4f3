/-
  What was put is told: asks that are cut, their cells; what a decoder tells of them.
-/
import Derived.Test.YtbmjehpkcelogaaSp
namespace Go.Proofs.Ytbmjehpkcelogaa
open Go.ChangeShapes Go.WideShapes Go.ChangeAt Go.RowKit
open Go.ChangeMaps (open_string shut_string)


/-- An ask whose count is cut. -/
def clip (q : Int × Int × Int × Nat) : Int × Int × Int × Nat := (q.1, q.2.1, ((cl q.2.2.1 : Nat) : Int), q.2.2.2)
/-- The cells of asks. -/
def flat : List (Int × Int × Int × Nat) → List Value
  | [] => []
  | q :: l => .int .i64 q.1 :: .int .i64 q.2.1 :: .int .i64 q.2.2.1 :: .int .u64 (q.2.2.2 : Int) :: flat l
theorem flat_len : ∀ l, (flat l).length = l.length * 4
  | [] => rfl
  | q :: l => by simp [flat, flat_len l]; omega
theorem flat_at : ∀ (l : List (Int × Int × Int × Nat)) (i : Nat) (q : Int × Int × Int × Nat), l[i]? = some q →
    (flat l)[i * 4]? = some (.int .i64 q.1) ∧ (flat l)[i * 4 + 1]? = some (.int .i64 q.2.1) ∧ (flat l)[i * 4 + 2]? = some (.int .i64 q.2.2.1) ∧ (flat l)[i * 4 + 3]? = some (.int .u64 (q.2.2.2 : Int))
  | [], _, _, h => by simp at h
  | x :: l, 0, q, h => by simp at h; subst h; simp [flat]
  | x :: l, i + 1, q, h => by
    have := flat_at l i q (by simpa using h)
    rw [show (i + 1) * 4 = i * 4 + 1 + 1 + 1 + 1 from by omega]
    simp only [flat]
    refine ⟨this.1, this.2.1, this.2.2.1, this.2.2.2⟩
theorem flat_set : ∀ (l : List (Int × Int × Int × Nat)) (i : Nat) (q : Int × Int × Int × Nat) (n : Int), l[i]? = some q →
    (flat l).set (i * 4 + 2) (.int .i64 n) = flat (l.set i (q.1, q.2.1, n, q.2.2.2))
  | [], _, _, _, h => by simp at h
  | x :: l, 0, q, n, h => by simp at h; subst h; simp [flat]
  | x :: l, i + 1, q, n, h => by
    have := flat_set l i q n (by simpa using h)
    rw [show (i + 1) * 4 + 2 = i * 4 + 2 + 1 + 1 + 1 + 1 from by omega]
    simp only [flat, List.set_cons_succ]
    rw [this]
theorem flat_one : ∀ (l : List (Int × Int × Int × Nat)), ∀ u ∈ flat l, u.oneCell' = true
  | [], u, h => by simp [flat] at h
  | q :: l, u, h => by
    simp only [flat, List.mem_cons] at h
    rcases h with rfl | rfl | rfl | rfl | h
    · rfl
    · rfl
    · rfl
    · rfl
    · exact flat_one l u h
/-- The first i asks cut, the others as they came. -/
def mix (l : List (Int × Int × Int × Nat)) (i : Nat) : List (Int × Int × Int × Nat) := (l.take i).map clip ++ l.drop i
theorem mix_zero (l : List (Int × Int × Int × Nat)) : mix l 0 = l := by simp [mix]
theorem mix_all (l : List (Int × Int × Int × Nat)) : mix l l.length = l.map clip := by simp [mix]
theorem mix_len (l : List (Int × Int × Int × Nat)) (i : Nat) (h : i ≤ l.length) : (mix l i).length = l.length := by simp [mix]; omega
theorem mix_at (l : List (Int × Int × Int × Nat)) (i : Nat) (q : Int × Int × Int × Nat) (h : l[i]? = some q) : (mix l i)[i]? = some q := by
  have hi : i < l.length := by
    rcases Nat.lt_or_ge i l.length with g | g
    · exact g
    · rw [List.getElem?_eq_none g] at h; cases h
  unfold mix
  rw [List.getElem?_append_right (by simp; omega)]
  simp only [List.length_map, List.length_take, List.getElem?_drop]
  rw [show i + (i - min i l.length) = i from by omega]
  exact h
theorem mix_set (l : List (Int × Int × Int × Nat)) (i : Nat) (q : Int × Int × Int × Nat) (h : l[i]? = some q) : (mix l i).set i (clip q) = mix l (i + 1) := by
  have hi : i < l.length := by
    rcases Nat.lt_or_ge i l.length with g | g
    · exact g
    · rw [List.getElem?_eq_none g] at h; cases h
  rw [List.getElem?_eq_getElem hi] at h
  injection h with h
  unfold mix
  rw [List.set_append_right _ _ (by simp; omega)]
  simp only [List.length_map, List.length_take]
  rw [show i - min i l.length = 0 from by omega, List.drop_eq_getElem_cons hi, h, List.set_cons_zero, List.take_succ_eq_append_getElem hi, h, List.map_append, List.append_assoc]
  rfl
theorem map_at (l : List (Int × Int × Int × Nat)) (i : Nat) (q : Int × Int × Int × Nat) (h : l[i]? = some q) : (l.map clip)[i]? = some (clip q) := by rw [List.getElem?_map, h]; rfl
theorem stp_ok (q : Int × Int × Int × Nat) (st : Nat × Nat × Nat) (h : Iv st) : Iv (stp q st) ∧ Sub st (stp q st) := by
  unfold stp
  split
  · exact dirN_ok _ _ st h
  · exact bitS_ok _ _ st h
theorem stA_iv (l : List (Int × Int × Int × Nat)) : ∀ i, Iv (stA l i)
  | 0 => iv0
  | i + 1 => by
    cases h : l[i]? with
    | none =>
      have hl : l.length ≤ i := by
        rcases Nat.lt_or_ge i l.length with g | g
        · rw [List.getElem?_eq_getElem g] at h; cases h
        · exact g
      have : stA l (i + 1) = stA l i := by unfold stA; rw [List.take_of_length_le (by omega), List.take_of_length_le hl]
      rw [this]; exact stA_iv l i
    | some q => rw [stA_succ l i q h]; exact (stp_ok q _ (stA_iv l i)).1
theorem stA_sub (l : List (Int × Int × Int × Nat)) (i : Nat) : ∀ k, i + k ≤ l.length → Sub (stA l i) (stA l (i + k))
  | 0, _ => sub_refl _
  | k + 1, h => by
    have hk : i + k < l.length := by omega
    rw [show i + (k + 1) = i + k + 1 from rfl, stA_succ l (i + k) _ (List.getElem?_eq_getElem hk)]
    exact sub_trans (stA_sub l i k (by omega)) (stp_ok _ _ (stA_iv l _)).2
/-- What is told of an ask, and put, is one; and of the bytes that were told it is. -/
theorem back_dir (t : List UInt8) (v m : Nat) (st : Nat × Nat × Nat) (y er : Nat) (st' : Nat × Nat × Nat) (bad' : Bool) (hr : gDir t m 0 st false = (y, er, st', bad')) (h1 : er = 0) (h2 : y = v % 2 ^ m) : st' = dirN v m st ∧ bad' = false := by
  obtain ⟨u, u1, u2, u3, u4⟩ := said_dir t m 0 st false (by rw [hr]; exact h1)
  rw [hr] at u2 u3 u4
  simp only at u2 u3 u4
  refine ⟨?_, by rcases u4 with h | h <;> exact h⟩
  rw [u3]
  refine dirN_mod u v m st ?_
  rw [Nat.mod_eq_of_lt u1, ← h2]; omega
theorem back_dir2 (t : List UInt8) (v m : Nat) (st f : Nat × Nat × Nat) (y er : Nat) (st' : Nat × Nat × Nat) (bad' : Bool) (hr : gDir t m 0 st false = (y, er, st', bad')) (hi : Iv st) (hf : Fin t f) (hs : Sub (dirN v m st) f) : er = 0 ∧ y = v % 2 ^ m := by
  have := tell_dir t v f hf m 0 st hi hs
  rw [hr] at this
  injection this with a b
  injection b with b
  exact ⟨b, by rw [a]; omega⟩
theorem back_bit (t : List UInt8) (p b : Int) (st : Nat × Nat × Nat) (y er : Nat) (st' : Nat × Nat × Nat) (bad' : Bool) (hr : gBit t p st false = (y, er, st', bad')) (h1 : er = 0) (h2 : y = if b ≠ 0 then 1 else 0) : st' = bitS p (decide (b ≠ 0)) st ∧ bad' = false := by
  obtain ⟨u, hu⟩ := said_bit t p st false (by rw [hr]; exact h1)
  rw [hr] at hu
  injection hu with a1 a2
  injection a2 with a2 a3
  injection a3 with a3 a4
  refine ⟨?_, a4⟩
  rw [a3]
  congr 1
  rw [h2] at a1
  by_cases hb : b ≠ 0
  · rw [if_pos hb] at a1
    rw [decide_eq_true hb]
    cases u
    · simp at a1
    · rfl
  · rw [if_neg hb] at a1
    rw [decide_eq_false hb]
    cases u
    · rfl
    · simp at a1
theorem back_bit2 (t : List UInt8) (p b : Int) (st f : Nat × Nat × Nat) (y er : Nat) (st' : Nat × Nat × Nat) (bad' : Bool) (hr : gBit t p st false = (y, er, st', bad')) (hi : Iv st) (hf : Fin t f) (hs : Sub (bitS p (decide (b ≠ 0)) st) f) : er = 0 ∧ y = if b ≠ 0 then 1 else 0 := by
  have := tell_bit t p (decide (b ≠ 0)) st f hi hf hs
  rw [hr] at this
  injection this with a1 a2
  injection a2 with a2
  refine ⟨a2, ?_⟩
  rw [a1]
  by_cases hb : b ≠ 0
  · rw [if_pos hb, decide_eq_true hb]; rfl
  · rw [if_neg hb, decide_eq_false hb]; rfl
theorem back_end (t : List UInt8) (f : Nat × Nat × Nat) (er : Nat) (bad' : Bool) (hi : Iv f) (hr : gEnd t f false = (er, bad')) : er = 0 ↔ t = byt f := by
  constructor
  · intro h
    exact (end_yes t f false (by rw [hr]; exact h)).2
  · intro h
    have := end_byt f hi
    rw [← h, hr] at this
    injection this
end Go.Proofs.Ytbmjehpkcelogaa
