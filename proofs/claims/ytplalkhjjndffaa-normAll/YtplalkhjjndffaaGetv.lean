/-
  The places of a text, Get, GetWord, Err, awake: what they return, for every text of at most a million bytes.
-/
import Derived.Test.YtplalkhjjndffaaNumv
import Derived.Test.YtplalkhjjndffaaJm
namespace Go.Proofs.Ytplalkhjjndffaa
open Go.ChangeShapes Go.WideShapes Go.ChangeAt Go.RowKit
theorem numF_took (f : Nat) : ∀ (i acc : Nat) (l : List UInt8), (numF f i acc l).2.1 ≤ i + f := by
  induction f with
  | zero => intro i acc l; simp [numF]
  | succ f ih =>
    intro i acc l
    cases l with
    | nil => simp [numF]
    | cons c l =>
      rw [numF]
      split
      · unfold endd; split <;> simp
      · have := ih (i + 1) (acc + (c.toNat - 128) * 128 ^ i) l; omega
theorem numb_took (l : List UInt8) : (numb l).2.1 ≤ 10 := by have := numF_took 10 0 0 l; simpa [numb] using this
def getAt (R : List UInt8 → Nat × Nat × Nat) (l : List UInt8) (at' : Int) : Nat × Nat × Nat :=
  if at' < 0 ∨ (l.length : Int) < at' then (0, 0, 1) else if (R (l.drop at'.toNat)).2.2 = 0 then ((R (l.drop at'.toNat)).1, at'.toNat + (R (l.drop at'.toNat)).2.1, 0) else (0, 0, (R (l.drop at'.toNat)).2.2)

theorem extract_list (s : ByteArray) (a : Nat) : (s.extract a s.size).data.toList = s.data.toList.drop a := by
  rw [ByteArray.data_extract, Array.toList_extract]
  show (s.data.toList.drop a).take (s.size - a) = _
  exact List.take_of_length_le (by rw [List.length_drop, Array.length_toList]; exact Nat.le_refl _)
theorem extract_size (s : ByteArray) (a : Nat) : (s.extract a s.size).size ≤ s.size := by
  rw [ByteArray.size_extract]; omega

theorem number_at (s : ByteArray) (a : Nat) (w : World) (hs : s.size ≤ 1000000) (x y z : Nat) (h : numb (s.data.toList.drop a) = (x, y, z)) :
    Calls Try.prog 54 #[.string (s.extract a s.size)] w fun e w' => e = .returned (.tuple #[.int .u64 x, .int .i64 y, .int .i64 z]) ∧ w' = w := by
  have := number_any (s.extract a s.size) w (by have := extract_size s a; omega)
  rw [extract_list, h] at this
  exact this
theorem getAt_lo (R : List UInt8 → Nat × Nat × Nat) (s : ByteArray) (a : Int) (h : a < 0 ∨ (s.size : Int) < a) : getAt R s.data.toList a = (0, 0, 1) := by
  unfold getAt; rw [if_pos (by rw [Array.length_toList]; exact h)]
theorem getAt_ok (R : List UInt8 → Nat × Nat × Nat) (s : ByteArray) (a : Int) (h : ¬ a < 0) (h' : ¬ (s.size : Int) < a) (x y : Nat) (hR : R (s.data.toList.drop a.toNat) = (x, y, 0)) :
    getAt R s.data.toList a = (x, a.toNat + y, 0) := by
  unfold getAt; rw [if_neg (by rw [Array.length_toList]; exact not_or.2 ⟨h, h'⟩), hR]; rfl
theorem getAt_no (R : List UInt8 → Nat × Nat × Nat) (s : ByteArray) (a : Int) (h : ¬ a < 0) (h' : ¬ (s.size : Int) < a) (x y z : Nat) (hR : R (s.data.toList.drop a.toNat) = (x, y, z)) (hz : z ≠ 0) :
    getAt R s.data.toList a = (0, 0, z) := by
  unfold getAt; rw [if_neg (by rw [Array.length_toList]; exact not_or.2 ⟨h, h'⟩), hR, if_neg hz]
theorem ret_tri' {t : Nat × Nat × Nat} {a c : Nat} {b : Int} {b' : Nat} (h : t = (a, b', c)) (hb : b = (b' : Int)) : Ending.returned (.tuple #[.int .u64 a, .int .i64 b, .int .i64 c]) = .returned (tri t) := by rw [h, hb]; rfl

set_option maxRecDepth 100000 in
set_option maxHeartbeats 1000000 in
theorem read20 (s : ByteArray) (a : Int) (w : World) (hs : s.size ≤ 1000000) :
    Calls Try.prog 53 #[.string s, .int .i64 a, .func (.func 54) #[] #[]] w fun e w' => e = .returned (tri (getAt numb s.data.toList a)) ∧ w' = w := by
  by_cases h1 : a < 0
  · have N : Hid (getAt numb s.data.toList a = (0, 0, 1)) := getAt_lo numb s a (.inl h1)
    go_enter Try.func53, Try.ntmps53
    go_wp2
    go_ret3
    exact ⟨ret_tri N.out, rfl⟩
  · by_cases h2 : (s.size : Int) < a
    · have N : Hid (getAt numb s.data.toList a = (0, 0, 1)) := getAt_lo numb s a (.inr h2)
      go_enter Try.func53, Try.ntmps53
      go_wp2
      go_ret3
      exact ⟨ret_tri N.out, rfl⟩
    · obtain ⟨x, y, z, hR⟩ : ∃ x y z, numb (s.data.toList.drop a.toNat) = (x, y, z) := ⟨_, _, _, rfl⟩
      have hy : y ≤ 10 := by have := numb_took (s.data.toList.drop a.toNat); rw [hR] at this; exact this
      by_cases hz : z = 0
      · subst hz
        have N : Hid (getAt numb s.data.toList a = (x, a.toNat + y, 0)) := getAt_ok numb s a h1 h2 x y hR
        go_enter Try.func53, Try.ntmps53
        go_wp2_with (first | (go_at_call 54; refine (number_at s a.toNat _ hs x y 0 hR).mono ?_; rintro e w' ⟨rfl, rfl⟩) | go_in)
        go_ret3
        exact ⟨ret_tri' N.out (by omega), rfl⟩
      · have N : Hid (getAt numb s.data.toList a = (0, 0, z)) := getAt_no numb s a h1 h2 x y z hR hz
        go_enter Try.func53, Try.ntmps53
        go_wp2_with (first | (go_at_call 54; refine (number_at s a.toNat _ hs x y z hR).mono ?_; rintro e w' ⟨rfl, rfl⟩) | go_in)
        go_ret3
        exact ⟨ret_tri N.out, rfl⟩

set_option maxRecDepth 100000 in
theorem get_any (s : ByteArray) (a : Int) (w : World) (hs : s.size ≤ 1000000) (x y z : Nat) (h : getAt numb s.data.toList a = (x, y, z)) :
    Calls Try.prog 50 #[.string s, .int .i64 a] w fun e w' => e = .returned (.tuple #[.int .u64 x, .int .i64 y, .int .i64 z]) ∧ w' = w := by
  have c := fun w => read20 s a w hs
  rw [h] at c
  simp only [tri] at c
  clear h
  go_enter Try.func50, Try.ntmps50
  go_wp2_with (first | (go_at_call 53; refine (c _).mono ?_; rintro e w' ⟨rfl, rfl⟩) | go_in)
  go_ret3
  exact ⟨rfl, rfl⟩

theorem err_any (n : Nat) (w : World) : Calls Try.prog 15 #[.int .i64 n] w fun e w' => e = .returned (.int .i64 n) ∧ w' = w := by
  go_enter Try.func15, Try.ntmps15
  go_wp2
  go_ret
  exact ⟨rfl, rfl⟩

end Go.Proofs.Ytplalkhjjndffaa
