/-
  The calls of package zig that take or tell parts return what the plain functions say, for every number and part; nothing that was there turns.
-/
import Derived.Test.YtnnecccnoemkpaaZig
namespace Go.Proofs.Ytnnecccnoemkpaa
open Go.ChangeShapes Go.WideShapes Go.ChangeAt Go.RowKit

set_option maxHeartbeats 400000 in
theorem split_any (v : Int) (w : World) (h1 : -9223372036854775808 ≤ v) (h2 : v ≤ 9223372036854775807) :
    Calls Try.prog 22 #[.int .i64 v] w fun e w' => e = .returned (.agg #[.int .i64 (blen (zmap v)), .int .u64 (srest (zmap v))]) ∧ Below w.heap.size w w' := by
  have hm := hmf
  go_enter Try.func22, Try.ntmps22
  go_wp2_with (first | (go_at_call 31; refine (sized_any _ _ h1 h2).mono ?_; rintro e w' ⟨rfl, hb⟩; obtain ⟨hc, hf⟩ := bcell hb; have hz : w.heap.size + 1 ≤ w'.heap.size := by (have := hb.size; simpa using this)))
  exact bodyPost_ret (v := .agg #[.int .i64 (blen (zmap v)), .int .u64 (srest (zmap v))]) (by simp [results, Try.results22, go_sem, hc]) rfl ⟨rfl, ((((Below.refl _ _).alloc (Nat.le_refl _) _).trans (hb.mono (by simp))).setCell (Nat.le_refl _) _).setCell (Nat.le_refl _) _⟩

set_option maxHeartbeats 400000 in
theorem pfold_any (c r : Int) (w : World) (hr : 0 ≤ r) (hr2 : r ≤ 18446744073709551615) :
    Calls Try.prog 28 #[.agg #[.int .i64 c, .int .u64 r]] w fun e w' => e = .returned (.tuple #[.int .u64 (pfold c r), .bool (jok c r)]) ∧ Below w.heap.size w w' := by
  by_cases hc : c = 0
  · have F : Hid (pfold c r = 0) := by show pfold c r = 0; unfold pfold; simp [hc]
    have J : Hid (jok c r = (r == 0)) := by show jok c r = _; unfold jok; simp [hc]; rfl
    have t : (c == 0) = true := by simp [hc]
    clear hc
    go_enter Try.func28, Try.ntmps28
    go_wp2
    go_quiet (fail)
    go_wp2
    go_ret2
    rw [F.out, J.out]
    exact ⟨rfl, below_drewN ((Below.refl _ _).alloc (Nat.le_refl _) _) _⟩
  · have t : (c == 0) = false := by simp [hc]
    by_cases hj : jok c r = true
    · have hj' := hj
      simp only [jok, if_neg hc, decide_eq_true_eq] at hj'
      obtain ⟨j1, j2, j3⟩ := hj'
      have F : Hid (pfold c r = hi c + r) := by show pfold c r = _; unfold pfold; rw [if_pos hj, if_neg hc]
      have J : Hid (jok c r = true) := hj
      have hl := hi_le c j2
      have hp := hi_pos c
      clear hc hj
      go_enter Try.func28, Try.ntmps28
      go_wp2_with (first | (go_at_call 39; refine (highest_any _ _ j1 j2).mono ?_; rintro e w' ⟨rfl, rfl⟩))
      go_ret2
      rw [F.out, J.out]
      exact ⟨rfl, ((Below.refl _ _).alloc (Nat.le_refl _) _)⟩
    · have J : Hid (jok c r = false) := by show jok c r = false; simpa using hj
      have F : Hid (pfold c r = 0) := (jok_no c r J.out).1
      simp only [jok, if_neg hc, decide_eq_true_eq] at hj
      by_cases g1 : c < 0
      · clear hj hc
        go_enter Try.func28, Try.ntmps28
        go_wp2
        go_ret2
        rw [F.out, J.out]
        exact ⟨rfl, ((Below.refl _ _).alloc (Nat.le_refl _) _)⟩
      · by_cases g2 : 65 ≤ c
        · clear hj hc
          go_enter Try.func28, Try.ntmps28
          go_wp2
          go_ret2
          rw [F.out, J.out]
          exact ⟨rfl, ((Below.refl _ _).alloc (Nat.le_refl _) _)⟩
        · have j1 : 1 ≤ c := by omega
          have j2 : c ≤ 64 := by omega
          have j3 : hi c ≤ r := by omega
          clear hj hc
          go_enter Try.func28, Try.ntmps28
          go_wp2_with (first | (go_at_call 39; refine (highest_any _ _ j1 j2).mono ?_; rintro e w' ⟨rfl, rfl⟩))
          go_ret2
          rw [F.out, J.out]
          exact ⟨rfl, ((Below.refl _ _).alloc (Nat.le_refl _) _)⟩

set_option maxHeartbeats 400000 in
theorem numbered_any (c r : Int) (w : World) (hr : 0 ≤ r) (hr2 : r ≤ 18446744073709551615) :
    Calls Try.prog 27 #[.func (.func 28) #[.agg #[.int .i64 c, .int .u64 r]] #[]] w fun e w' => e = .returned (.tuple #[.int .i64 (jval c r), .bool (jok c r)]) ∧ Below w.heap.size w w' := by
  have hm := hmf
  obtain ⟨f1, f2⟩ := pfold_bd c r hr
  by_cases hj : jok c r = true
  · have V : Hid (zback (pfold c r) = jval c r) := jval_pfold c r hj
    go_enter Try.func27, Try.ntmps27
    go_wp2_with (first | (go_at_call 28; refine (pfold_any _ _ _ hr hr2).mono ?_; rintro e w' ⟨rfl, hb⟩) | (go_at_call 38; refine (unfold_any _ _ f1 f2).mono ?_; rintro e w' ⟨rfl, rfl⟩) | go_in)
    go_ret2
    rw [← V.out, hj]
    exact ⟨rfl, hb⟩
  · have J : jok c r = false := by simpa using hj
    have V : Hid (jval c r = 0) := (jok_no c r J).2
    clear hj
    go_enter Try.func27, Try.ntmps27
    go_wp2_with (first | (go_at_call 28; refine (pfold_any _ _ _ hr hr2).mono ?_; rintro e w' ⟨rfl, hb⟩) | go_in)
    go_ret2
    rw [V.out, J]
    exact ⟨rfl, hb⟩

set_option maxHeartbeats 400000 in
theorem join_any (c r : Int) (w : World) (hr : 0 ≤ r) (hr2 : r ≤ 18446744073709551615) :
    Calls Try.prog 20 #[.agg #[.int .i64 c, .int .u64 r]] w fun e w' => e = .returned (.tuple #[.int .i64 (jval c r), .bool (jok c r)]) ∧ Below w.heap.size w w' := by
  have hm := hmf
  go_enter Try.func20, Try.ntmps20
  go_wp2_with (first | (go_at_call 27; refine (numbered_any _ _ _ hr hr2).mono ?_; rintro e w' ⟨rfl, hb⟩))
  go_ret2
  exact ⟨rfl, ((Below.refl _ _).alloc (Nat.le_refl _) _).trans (hb.mono (by simp))⟩

end Go.Proofs.Ytnnecccnoemkpaa
