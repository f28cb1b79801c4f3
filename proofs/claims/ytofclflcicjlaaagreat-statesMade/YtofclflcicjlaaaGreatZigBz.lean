/-
  What the walks of package zig come to, as plain functions on numbers, and what holds of them: no Go in sight; each condition stands at its theorem; the calls of package zig return what the plain functions say, for every number and part; where they make memory nothing that was there turns; the calls of package zig that take or tell parts return what the plain functions say, for every number and part; nothing that was there turns.
-/
import Derived.Test.YtofclflcicjlaaaGreatSg
import Derived.Test.YtofclflcicjlaaaGreatBuh
import Derived.Test.YtofclflcicjlaaaGreatOfyh
import Derived.Test.YtofclflcicjlaaaGreatTyh
import Derived.Lib.BitFns
import Derived.Laws.BitsAllLaws
import Derived.WalkSmall
import Derived.WalkKit
import Derived.ProofKit
import Derived.OpenShut
import Derived.Deep.QuietTactic
import Derived.BigQuiet
import Derived.Lib.Strings
import Derived.Lib.Slices
import Derived.Lib.Small
import Derived.Lib.Walk
namespace Go.Proofs.YtofclflcicjlaaaGreat
open Go.ChangeShapes Go.WideShapes Go.ChangeAt Go.RowKit
open Go.ChangeMaps (open_string shut_string)
set_option maxRecDepth 100000
def zback (u : Int) : Int := if u % 2 = 1 then -(u / 2) - 1 else u / 2
def pfold (c r : Int) : Int := if jok c r = true then (if c = 0 then 0 else hi c + r) else 0
def jval (c r : Int) : Int := if jok c r = true then (if c = 0 then 0 else zback (hi c + r)) else 0

theorem pfold_bd (c r : Int) (hr : 0 ≤ r) : 0 ≤ pfold c r ∧ pfold c r ≤ 18446744073709551615 := by
  unfold pfold
  split
  · rename_i h
    split
    · omega
    · rename_i e
      simp only [jok, if_neg e, decide_eq_true_eq] at h
      have := hi_pos c
      have := hi_le c h.2.1
      omega
  · omega
theorem jval_pfold (c r : Int) (h : jok c r = true) : zback (pfold c r) = jval c r := by
  unfold pfold jval
  rw [if_pos h, if_pos h]
  split
  · decide
  · rfl
theorem jok_no (c r : Int) (h : jok c r = false) : pfold c r = 0 ∧ jval c r = 0 := by
  unfold pfold jval; rw [h]; simp

theorem not_i64 (v : Int) (h1 : -9223372036854775808 ≤ v) (h2 : v < 9223372036854775808) : bits .xor .i64 (-1) v = -1 - v := by
  show IntKind.i64.wrap ((BitVec.ofInt 64 (-1) ^^^ BitVec.ofInt 64 v).toNat : Int) = _
  have e1 : BitVec.ofInt 64 (-1) = BitVec.allOnes 64 := by decide
  rw [e1, BitVec.allOnes_xor, BitVec.toNat_not, BitVec.toNat_ofInt]
  simp [IntKind.wrap, IntKind.bits, IntKind.signed]
  omega
theorem unfold_any (u : Int) (w : World) (h1 : 0 ≤ u) (h2 : u ≤ 18446744073709551615) :
    Calls Tryz.prog 107 #[.int .u64 u] w fun e w' => e = .returned (.int .i64 (zback u)) ∧ w' = w := by
  have H : Hid (bits .and .u64 u 1 = u % 2) := and_one_u64 u h1 h2
  have N : Hid (bits .xor .i64 (-1) (u / 2) = -1 - u / 2) := not_i64 (u / 2) (by omega) (by omega)
  by_cases h : u % 2 = 1
  · have t : (bits .and .u64 u 1 == 1) = true := by rw [H.out]; simp [h]
    have Z : Hid (zback u = -(u / 2) - 1) := by show zback u = _; simp [zback, h]
    clear h
    go_enter Tryz.func107, Tryz.ntmps107
    go_wp2
    go_ret
    exact ⟨ret_int (by rw [N.out, Z.out]; omega), rfl⟩
  · have t : (bits .and .u64 u 1 == 1) = false := by rw [H.out]; simpa using h
    have Z : Hid (zback u = u / 2) := by show zback u = _; simp [zback, h]
    clear h
    go_enter Tryz.func107, Tryz.ntmps107
    go_wp2
    go_ret
    exact ⟨ret_int (by rw [Z.out]), rfl⟩

theorem highest_any (c : Int) (w : World) (h1 : 1 ≤ c) (h2 : c ≤ 64) :
    Calls Tryz.prog 108 #[.int .i64 c] w fun e w' => e = .returned (.int .u64 (hi c)) ∧ w' = w := by
  have H : Hid (IntKind.u64.wrap (2 ^ (c.toNat - 1)) = hi c) := wrap_hi c h2
  go_enter Tryz.func108, Tryz.ntmps108
  go_wp2
  go_ret
  exact ⟨ret_int H.out, rfl⟩
set_option maxHeartbeats 400000 in
theorem pfold_any (c r : Int) (w : World) (hr : 0 ≤ r) (hr2 : r ≤ 18446744073709551615) :
    Calls Tryz.prog 77 #[.agg #[.int .i64 c, .int .u64 r]] w fun e w' => e = .returned (.tuple #[.int .u64 (pfold c r), .bool (jok c r)]) ∧ Below w.heap.size w w' := by
  by_cases hc : c = 0
  · have F : Hid (pfold c r = 0) := by show pfold c r = 0; unfold pfold; simp [hc]
    have J : Hid (jok c r = (r == 0)) := by show jok c r = _; unfold jok; simp [hc]; rfl
    have t : (c == 0) = true := by simp [hc]
    clear hc
    go_enter Tryz.func77, Tryz.ntmps77
    go_wp2
    go_quiet (fail)
    go_wp2
    go_ret2
    rw [F.out, J.out]
    exact ⟨rfl, below_drewN ((Below.refl _ _).alloc (Nat.le_refl _) _) _⟩
  · have t : (c == 0) = false := by simp [hc]
    by_cases hj : jok c r = true
    · have hj' := hj
      simp only [jok, if_neg hc, decide_eq_true_eq] at hj'
      obtain ⟨j1, j2, j3⟩ := hj'
      have F : Hid (pfold c r = hi c + r) := by show pfold c r = _; unfold pfold; rw [if_pos hj, if_neg hc]
      have J : Hid (jok c r = true) := hj
      have hl := hi_le c j2
      have hp := hi_pos c
      clear hc hj
      go_enter Tryz.func77, Tryz.ntmps77
      go_wp2_with (first | (go_at_call 108; refine (highest_any _ _ j1 j2).mono ?_; rintro e w' ⟨rfl, rfl⟩))
      go_ret2
      rw [F.out, J.out]
      exact ⟨rfl, ((Below.refl _ _).alloc (Nat.le_refl _) _)⟩
    · have J : Hid (jok c r = false) := by show jok c r = false; simpa using hj
      have F : Hid (pfold c r = 0) := (jok_no c r J.out).1
      simp only [jok, if_neg hc, decide_eq_true_eq] at hj
      by_cases g1 : c < 0
      · clear hj hc
        go_enter Tryz.func77, Tryz.ntmps77
        go_wp2
        go_ret2
        rw [F.out, J.out]
        exact ⟨rfl, ((Below.refl _ _).alloc (Nat.le_refl _) _)⟩
      · by_cases g2 : 65 ≤ c
        · clear hj hc
          go_enter Tryz.func77, Tryz.ntmps77
          go_wp2
          go_ret2
          rw [F.out, J.out]
          exact ⟨rfl, ((Below.refl _ _).alloc (Nat.le_refl _) _)⟩
        · have j1 : 1 ≤ c := by omega
          have j2 : c ≤ 64 := by omega
          have j3 : hi c ≤ r := by omega
          clear hj hc
          go_enter Tryz.func77, Tryz.ntmps77
          go_wp2_with (first | (go_at_call 108; refine (highest_any _ _ j1 j2).mono ?_; rintro e w' ⟨rfl, rfl⟩))
          go_ret2
          rw [F.out, J.out]
          exact ⟨rfl, ((Below.refl _ _).alloc (Nat.le_refl _) _)⟩

set_option maxHeartbeats 400000 in
theorem numbered_any (c r : Int) (w : World) (hr : 0 ≤ r) (hr2 : r ≤ 18446744073709551615) :
    Calls Tryz.prog 76 #[.func (.func 77) #[.agg #[.int .i64 c, .int .u64 r]] #[]] w fun e w' => e = .returned (.tuple #[.int .i64 (jval c r), .bool (jok c r)]) ∧ Below w.heap.size w w' := by
  have hm := hmf
  obtain ⟨f1, f2⟩ := pfold_bd c r hr
  by_cases hj : jok c r = true
  · have V : Hid (zback (pfold c r) = jval c r) := jval_pfold c r hj
    go_enter Tryz.func76, Tryz.ntmps76
    go_wp2_with (first | (go_at_call 77; refine (pfold_any _ _ _ hr hr2).mono ?_; rintro e w' ⟨rfl, hb⟩) | (go_at_call 107; refine (unfold_any _ _ f1 f2).mono ?_; rintro e w' ⟨rfl, rfl⟩) | go_in)
    go_ret2
    rw [← V.out, hj]
    exact ⟨rfl, hb⟩
  · have J : jok c r = false := by simpa using hj
    have V : Hid (jval c r = 0) := (jok_no c r J).2
    clear hj
    go_enter Tryz.func76, Tryz.ntmps76
    go_wp2_with (first | (go_at_call 77; refine (pfold_any _ _ _ hr hr2).mono ?_; rintro e w' ⟨rfl, hb⟩) | go_in)
    go_ret2
    rw [V.out, J]
    exact ⟨rfl, hb⟩

set_option maxHeartbeats 400000 in
theorem join_any (c r : Int) (w : World) (hr : 0 ≤ r) (hr2 : r ≤ 18446744073709551615) :
    Calls Tryz.prog 50 #[.agg #[.int .i64 c, .int .u64 r]] w fun e w' => e = .returned (.tuple #[.int .i64 (jval c r), .bool (jok c r)]) ∧ Below w.heap.size w w' := by
  have hm := hmf
  go_enter Tryz.func50, Tryz.ntmps50
  go_wp2_with (first | (go_at_call 76; refine (numbered_any _ _ _ hr hr2).mono ?_; rintro e w' ⟨rfl, hb⟩))
  go_ret2
  exact ⟨rfl, ((Below.refl _ _).alloc (Nat.le_refl _) _).trans (hb.mono (by simp))⟩
end Go.Proofs.YtofclflcicjlaaaGreat
