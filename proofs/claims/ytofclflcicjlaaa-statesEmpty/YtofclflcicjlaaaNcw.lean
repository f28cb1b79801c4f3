/-
  The places of a text, Get, GetWord, Err, awake: what they return, for every text of at most a million bytes; texts set together and cut, a text as a row of bytes: what Get and GetWord say of them; normed numbers, plain lists; each condition stands at its theorem.
-/
import Derived.Test.YtofclflcicjlaaaNumvw
import Derived.Test.YtofclflcicjlaaaLy
import Derived.Test.YtofclflcicjlaaaC2
import Derived.Test.YtofclflcicjlaaaSg
import Derived.Test.YtofclflcicjlaaaBuh
import Derived.Test.YtofclflcicjlaaaRr
import Derived.Test.YtofclflcicjlaaaTyh
import Derived.Test.YtofclflcicjlaaaPushh
import Derived.Test.YtofclflcicjlaaaOfyh
import Derived.Test.YtofclflcicjlaaaRpyh
import Derived.WalkKit
import Derived.ProofKit
import Derived.OpenShut
import Derived.Deep.QuietTactic
import Derived.BigQuiet
import Derived.Deep.RegionHeld3
import Derived.Below
import Derived.Deep.Heap
import Derived.ArgAppend
import Derived.Maps.AppendAt
import Derived.Laws.IdiomStrings
import Derived.Deep.OwnRows
import Derived.Deep.RegionLaw
import Derived.Handy
import Derived.Deep.RegionWith
import Derived.OwnWalk
import Derived.Laws.OwnMore
import Derived.Lib.AppendZeros
import Derived.Laws.BitsAllLaws
import Derived.Laws.IdiomCopy
import Derived.BigRegion
namespace Go.Proofs.Ytofclflcicjlaaa
open Go.ChangeShapes Go.WideShapes Go.ChangeAt Go.RowKit
open Go.ChangeMaps (open_string shut_string)
theorem numF_took (f : Nat) : ∀ (i acc : Nat) (l : List UInt8), (numF f i acc l).2.1 ≤ i + f := by
  induction f with
  | zero => intro i acc l; simp [numF]
  | succ f ih =>
    intro i acc l
    cases l with
    | nil => simp [numF]
    | cons c l =>
      rw [numF]
      split
      · unfold endd; split <;> simp
      · have := ih (i + 1) (acc + (c.toNat - 128) * 128 ^ i) l; omega
theorem numb_took (l : List UInt8) : (numb l).2.1 ≤ 10 := by have := numF_took 10 0 0 l; simpa [numb] using this
def getAt (R : List UInt8 → Nat × Nat × Nat) (l : List UInt8) (at' : Int) : Nat × Nat × Nat :=
  if at' < 0 ∨ (l.length : Int) < at' then (0, 0, 1) else if (R (l.drop at'.toNat)).2.2 = 0 then ((R (l.drop at'.toNat)).1, at'.toNat + (R (l.drop at'.toNat)).2.1, 0) else (0, 0, (R (l.drop at'.toNat)).2.2)

theorem extract_list (s : ByteArray) (a : Nat) : (s.extract a s.size).data.toList = s.data.toList.drop a := by
  rw [ByteArray.data_extract, Array.toList_extract]
  show (s.data.toList.drop a).take (s.size - a) = _
  exact List.take_of_length_le (by rw [List.length_drop, Array.length_toList]; exact Nat.le_refl _)
theorem extract_size (s : ByteArray) (a : Nat) : (s.extract a s.size).size ≤ s.size := by
  rw [ByteArray.size_extract]; omega

theorem number_at (s : ByteArray) (a : Nat) (w : World) (hs : s.size ≤ 1000000) (x y z : Nat) (h : numb (s.data.toList.drop a) = (x, y, z)) :
    Calls Try.prog 95 #[.string (s.extract a s.size)] w fun e w' => e = .returned (.tuple #[.int .u64 x, .int .i64 y, .int .i64 z]) ∧ w' = w := by
  have := number_anyv (s.extract a s.size) w (by have := extract_size s a; omega)
  rw [extract_list, h] at this
  exact this
theorem getAt_lo (R : List UInt8 → Nat × Nat × Nat) (s : ByteArray) (a : Int) (h : a < 0 ∨ (s.size : Int) < a) : getAt R s.data.toList a = (0, 0, 1) := by
  unfold getAt; rw [if_pos (by rw [Array.length_toList]; exact h)]
theorem getAt_ok (R : List UInt8 → Nat × Nat × Nat) (s : ByteArray) (a : Int) (h : ¬ a < 0) (h' : ¬ (s.size : Int) < a) (x y : Nat) (hR : R (s.data.toList.drop a.toNat) = (x, y, 0)) :
    getAt R s.data.toList a = (x, a.toNat + y, 0) := by
  unfold getAt; rw [if_neg (by rw [Array.length_toList]; exact not_or.2 ⟨h, h'⟩), hR]; rfl
theorem getAt_no (R : List UInt8 → Nat × Nat × Nat) (s : ByteArray) (a : Int) (h : ¬ a < 0) (h' : ¬ (s.size : Int) < a) (x y z : Nat) (hR : R (s.data.toList.drop a.toNat) = (x, y, z)) (hz : z ≠ 0) :
    getAt R s.data.toList a = (0, 0, z) := by
  unfold getAt; rw [if_neg (by rw [Array.length_toList]; exact not_or.2 ⟨h, h'⟩), hR, if_neg hz]
theorem ret_tri' {t : Nat × Nat × Nat} {a c : Nat} {b : Int} {b' : Nat} (h : t = (a, b', c)) (hb : b = (b' : Int)) : Ending.returned (.tuple #[.int .u64 a, .int .i64 b, .int .i64 c]) = .returned (tri t) := by rw [h, hb]; rfl

set_option maxRecDepth 100000 in
set_option maxHeartbeats 1000000 in
theorem read20 (s : ByteArray) (a : Int) (w : World) (hs : s.size ≤ 1000000) :
    Calls Try.prog 94 #[.string s, .int .i64 a, .func (.func 95) #[] #[]] w fun e w' => e = .returned (tri (getAt numb s.data.toList a)) ∧ w' = w := by
  by_cases h1 : a < 0
  · have N : Hid (getAt numb s.data.toList a = (0, 0, 1)) := getAt_lo numb s a (.inl h1)
    go_enter Try.func94, Try.ntmps94
    go_wp2
    go_ret3
    exact ⟨ret_tri N.out, rfl⟩
  · by_cases h2 : (s.size : Int) < a
    · have N : Hid (getAt numb s.data.toList a = (0, 0, 1)) := getAt_lo numb s a (.inr h2)
      go_enter Try.func94, Try.ntmps94
      go_wp2
      go_ret3
      exact ⟨ret_tri N.out, rfl⟩
    · obtain ⟨x, y, z, hR⟩ : ∃ x y z, numb (s.data.toList.drop a.toNat) = (x, y, z) := ⟨_, _, _, rfl⟩
      have hy : y ≤ 10 := by have := numb_took (s.data.toList.drop a.toNat); rw [hR] at this; exact this
      by_cases hz : z = 0
      · subst hz
        have N : Hid (getAt numb s.data.toList a = (x, a.toNat + y, 0)) := getAt_ok numb s a h1 h2 x y hR
        go_enter Try.func94, Try.ntmps94
        go_wp2_with (first | (go_at_call 95; refine (number_at s a.toNat _ hs x y 0 hR).mono ?_; rintro e w' ⟨rfl, rfl⟩) | go_in)
        go_ret3
        exact ⟨ret_tri' N.out (by omega), rfl⟩
      · have N : Hid (getAt numb s.data.toList a = (0, 0, z)) := getAt_no numb s a h1 h2 x y z hR hz
        go_enter Try.func94, Try.ntmps94
        go_wp2_with (first | (go_at_call 95; refine (number_at s a.toNat _ hs x y z hR).mono ?_; rintro e w' ⟨rfl, rfl⟩) | go_in)
        go_ret3
        exact ⟨ret_tri N.out, rfl⟩

set_option maxRecDepth 100000 in
theorem get_anyv (s : ByteArray) (a : Int) (w : World) (hs : s.size ≤ 1000000) (x y z : Nat) (h : getAt numb s.data.toList a = (x, y, z)) :
    Calls Try.prog 70 #[.string s, .int .i64 a] w fun e w' => e = .returned (.tuple #[.int .u64 x, .int .i64 y, .int .i64 z]) ∧ w' = w := by
  have c := fun w => read20 s a w hs
  rw [h] at c
  simp only [tri] at c
  clear h
  go_enter Try.func70, Try.ntmps70
  go_wp2_with (first | (go_at_call 94; refine (c _).mono ?_; rintro e w' ⟨rfl, rfl⟩) | go_in)
  go_ret3
  exact ⟨rfl, rfl⟩
theorem cut_list (s : ByteArray) (k : Nat) : (s.extract 0 k).data.toList = s.data.toList.take k := by
  rw [ByteArray.data_extract, Array.toList_extract]
  show (s.data.toList.drop 0).take (k - 0) = _
  simp
/-- A number's bytes in the midst of others. -/
theorem mid_drop (s : ByteArray) (l : List UInt8) (t : ByteArray) : (s ++ bs l ++ t).data.toList.drop s.size = l ++ t.data.toList := by
  rw [app_list, app_list, List.append_assoc, List.drop_append_of_le_length (by rw [len_data]; exact Nat.le_refl _), List.drop_of_length_le (by rw [len_data]; exact Nat.le_refl _)]
  rfl
theorem mid_size (s : ByteArray) (l : List UInt8) (t : ByteArray) : (s ++ bs l ++ t).size = s.size + l.length + t.size := by
  simp [ByteArray.size_append, size_bs]

theorem vbF_ge128 (f : Nat) : ∀ (n k : Nat), k < (vbF f n).length → ∀ c ∈ (vbF f n).take k, 128 ≤ c.toNat := by
  induction f with
  | zero => intro n k hk c hc; simp [vbF] at hk; subst hk; simp at hc
  | succ f ih =>
    intro n k hk c hc
    by_cases h : n < 128
    · rw [vbF_lt _ _ h] at hk hc; simp at hk; subst hk; simp at hc
    · rw [vbF_ge _ _ (by omega)] at hk hc
      cases k with
      | zero => simp at hc
      | succ k =>
        rw [List.take_succ_cons, List.mem_cons] at hc
        rcases hc with rfl | hc
        · rw [u8_of _ (by omega)]; omega
        · exact ih (n / 128) k (by simpa using hk) c hc
set_option maxRecDepth 100000
/-! ### numbers in bytes, a row of noughts told once -/
theorem numb_cut (n k : Nat) (hk : k < (vb n).length) : numb ((vb n).take k) = (0, 0, 2) := by
  have hl := vb_len n
  have hlen : ((vb n).take k).length = k := by rw [List.length_take]; omega
  have h := numb_at ((vb n).take k) [] (vbF_ge128 9 n k hk) (by omega)
  rw [List.append_nil, hlen] at h
  rw [h]
  obtain ⟨f, hf⟩ : ∃ f, 10 - k = f + 1 := ⟨9 - k, by omega⟩
  rw [hf, numF]
theorem numb_ok {t : List UInt8} {n k e : Nat} (h : numb t = (n, k, e)) : e = 0 ∨ (n = 0 ∧ k = 0 ∧ (e = 2 ∨ e = 3)) := by
  have key : ∀ (f i acc : Nat) (l : List UInt8) (n k e : Nat), numF f i acc l = (n, k, e) → e = 0 ∨ (n = 0 ∧ k = 0 ∧ (e = 2 ∨ e = 3)) := by
    intro f
    induction f with
    | zero => intro i acc l n k e h; simp only [numF, Prod.mk.injEq] at h; omega
    | succ f ih =>
      intro i acc l n k e h
      cases l with
      | nil => simp only [numF, Prod.mk.injEq] at h; omega
      | cons c l =>
        simp only [numF] at h
        split at h
        · unfold endd at h
          split at h <;> simp only [Prod.mk.injEq] at h <;> omega
        · exact ih _ _ _ _ _ _ h
  exact key _ _ _ _ _ _ _ h
end Go.Proofs.Ytofclflcicjlaaa
