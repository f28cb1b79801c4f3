/-
  The reference's calls for layer 1 that take or tell parts return what the plain functions say, for every number and part; nothing that was there turns.
-/
import Derived.Test.YtnnecccnoemkpaaRef
import Derived.Deep.RegionHeld3
namespace Go.Proofs.Ytnnecccnoemkpaa
open Go.ChangeShapes Go.WideShapes Go.ChangeAt Go.RowKit

theorem jokLow (c r : Int) (h0 : 0 ≤ c) (h1 : c < 2) (hr : 0 ≤ r) : jok c r = (r == 0) := by
  unfold jok
  by_cases e : c = 0
  · simp [e]; rfl
  · have : c = 1 := by omega
    subst this
    have : hi 1 = 1 := by decide
    rw [if_neg (by omega), this, Bool.eq_iff_iff]; simp; omega
theorem jokHigh (c r : Int) (h0 : 2 ≤ c) (h1 : c ≤ 64) (hr : 0 ≤ r) : jok c r = (r / 2 ^ (c.toNat - 1) == 0) := by
  have hp : (0 : Int) < 2 ^ (c.toNat - 1) := Int.pow_pos (by omega)
  unfold jok hi
  rw [if_neg (by omega), Bool.eq_iff_iff]
  simp only [decide_eq_true_eq, beq_iff_eq]
  constructor
  · intro h; exact Int.ediv_eq_zero_of_lt hr h.2.2
  · intro h; exact ⟨by omega, h1, by have := Int.lt_mul_of_ediv_lt hp (by omega : r / 2 ^ (c.toNat - 1) < 1); omega⟩
theorem jokOut (c r : Int) (h : c < 0 ∨ 64 < c) : jok c r = false := by
  unfold jok
  rw [if_neg (by omega)]; simp; omega
theorem ret_bool {a b : Bool} (h : a = b) : Ending.returned (.bool a) = .returned (.bool b) := by rw [h]

set_option maxHeartbeats 400000 in
theorem refSplit_any (v : Int) (w : World) (h1 : -9223372036854775808 ≤ v) (h2 : v ≤ 9223372036854775807) :
    Calls Try.prog 23 #[.int .i64 v] w fun e w' => e = .returned (.agg #[.int .i64 (blen (zmap v)), .int .u64 (srest (zmap v))]) ∧ Below w.heap.size w w' := by
  obtain ⟨b1, b2⟩ := zmap_bd v h1 h2
  by_cases h : zmap v = 0
  · have B : blen (zmap v) = 0 := by rw [h]; exact blen_zero
    have S : Hid (srest (zmap v) = 0) := by show srest (zmap v) = 0; rw [h]; simp [srest]
    clear h
    go_enter Try.func23, Try.ntmps23
    go_wp2_with (first | (go_at_call 33; refine (refMap_any _ _ h1 h2).mono ?_; rintro e w' ⟨rfl, rfl⟩) | (go_at_call 34; refine (length_any _ _ b1 b2).mono ?_; rintro e w' ⟨rfl, rfl⟩))
    rw [B, S.out]
    exact bodyPost_ret (v := .agg #[.int .i64 0, .int .u64 0]) (by simp [results, Try.results23, go_sem]) rfl ⟨rfl, (Below.refl _ _).alloc (Nat.le_refl _) _⟩
  · obtain ⟨p1, p2, p3, p4⟩ := blen_spec (zmap v) (by omega) b2
    have t : (blen (zmap v) == 0) = false := by simp; omega
    have S : Hid (srest (zmap v) = zmap v - hi (blen (zmap v))) := by show srest (zmap v) = _; simp [srest, h]
    have hp := hi_pos (blen (zmap v))
    have hw : IntKind.u64.wrap (2 ^ ((blen (zmap v)).toNat - 1)) = hi (blen (zmap v)) := wrap_hi _ p2
    clear h
    go_enter Try.func23, Try.ntmps23
    go_wp2_with (first | (go_at_call 33; refine (refMap_any _ _ h1 h2).mono ?_; rintro e w' ⟨rfl, rfl⟩) | (go_at_call 34; refine (length_any _ _ b1 b2).mono ?_; rintro e w' ⟨rfl, rfl⟩))
    rw [S.out]
    exact bodyPost_ret (v := .agg #[.int .i64 (blen (zmap v)), .int .u64 (zmap v - hi (blen (zmap v)))]) (by simp [results, Try.results23, go_sem]) rfl ⟨rfl, (Below.refl _ _).alloc (Nat.le_refl _) _⟩

set_option maxHeartbeats 400000 in
theorem mayPart_any (c r : Int) (w : World) (hr : 0 ≤ r) :
    Calls Try.prog 29 #[.agg #[.int .i64 c, .int .u64 r]] w fun e w' => e = .returned (.bool (jok c r)) ∧ w' = w.alloc (.cells #[.int .i64 c, .int .u64 r] 43) := by
  by_cases c1 : c < 0
  · have J : Hid (jok c r = false) := jokOut c r (.inl c1)
    go_enter Try.func29, Try.ntmps29
    go_wp2
    go_ret
    exact ⟨ret_bool J.out.symm, rfl⟩
  · by_cases c2 : 64 < c
    · have J : Hid (jok c r = false) := jokOut c r (.inr c2)
      go_enter Try.func29, Try.ntmps29
      go_wp2
      go_ret
      exact ⟨ret_bool J.out.symm, rfl⟩
    · by_cases c3 : c < 2
      · have J : Hid (jok c r = (r == 0)) := jokLow c r (by omega) c3 hr
        go_enter Try.func29, Try.ntmps29
        go_wp2
        go_ret
        exact ⟨ret_bool J.out.symm, rfl⟩
      · have J : Hid (jok c r = (r / 2 ^ (c.toNat - 1) == 0)) := jokHigh c r (by omega) (by omega) hr
        go_enter Try.func29, Try.ntmps29
        go_wp2
        go_ret
        exact ⟨ret_bool J.out.symm, rfl⟩

set_option maxHeartbeats 1000000 in
theorem refJoin_any (c r : Int) (w : World) (hr : 0 ≤ r) (hr2 : r ≤ 18446744073709551615) :
    Calls Try.prog 21 #[.agg #[.int .i64 c, .int .u64 r]] w fun e w' => e = .returned (.agg #[.int .i64 (jval c r), .bool (jok c r)]) ∧ Below w.heap.size w w' := by
  by_cases hj : jok c r = true
  · by_cases hc : c = 0
    · have V : Hid (jval c r = 0) := by show jval c r = 0; unfold jval; simp [hc]
      have t : (c == 0) = true := by simp [hc]
      clear hc
      go_enter Try.func21, Try.ntmps21
      go_wp2_with (first | (go_at_call 29; refine (mayPart_any _ _ _ hr).mono ?_; rintro e w' ⟨rfl, rfl⟩))
      rw [V.out, hj]
      exact bodyPost_ret (v := .agg #[.int .i64 0, .bool true]) (by simp [results, Try.results21, go_sem]) rfl ⟨rfl, (((Below.refl _ _).alloc (Nat.le_refl _) _).alloc (by simp) _).alloc (by simp; omega) _⟩
    · have t : (c == 0) = false := by simp [hc]
      have hj' := hj
      simp only [jok, if_neg hc, decide_eq_true_eq] at hj'
      obtain ⟨j1, j2, j3⟩ := hj'
      have V : Hid (jval c r = zback (r + hi c)) := by show jval c r = _; unfold jval; rw [if_pos hj, if_neg hc, Int.add_comm]
      have hl := hi_le c j2
      have hp := hi_pos c
      have hw : IntKind.u64.wrap (2 ^ (c.toNat - 1)) = hi c := wrap_hi _ j2
      have e1 : IntKind.i64.wrap (c - 1) = c - 1 := by rw [IntKind.wrap_i64]; omega
      have e2 : IntKind.u64.wrap (r + hi c) = r + hi c := by simp [IntKind.wrap, IntKind.bits, IntKind.signed]; omega
      clear hc
      go_enter Try.func21, Try.ntmps21
      go_wp2_with (first | (go_at_call 29; refine (mayPart_any _ _ _ hr).mono ?_; rintro e w' ⟨rfl, rfl⟩))
      go_region_held3 (fun W => W.cell? ⟨w.heap.size, 0, none⟩ = some (.int .i64 c) ∧ W.cell? ⟨w.heap.size, 1, none⟩ = some (.int .u64 r)) (go_keep) (first | (go_at_call 30; refine (refBack_any _ _ (by omega) (by omega)).mono ?_; rintro e w4 ⟨rfl, rfl⟩))
      all_goals
        go_wp2
        rw [V.out, hj]
        exact bodyPost_ret (v := .agg #[.int .i64 (zback (r + hi c)), .bool true]) (by simp [results, Try.results21, go_sem]) rfl ⟨rfl, ((((Below.refl _ _).alloc (Nat.le_refl _) _).alloc (by simp) _).alloc (by simp; omega) _).drew⟩
  · have J : jok c r = false := by simpa using hj
    have V : Hid (jval c r = 0) := (jok_no c r J).2
    clear hj
    go_enter Try.func21, Try.ntmps21
    go_wp2_with (first | (go_at_call 29; refine (mayPart_any _ _ _ hr).mono ?_; rintro e w' ⟨rfl, rfl⟩))
    rw [V.out, J]
    exact bodyPost_ret (v := .agg #[.int .i64 0, .bool false]) (by simp [results, Try.results21, go_sem]) rfl ⟨rfl, (((Below.refl _ _).alloc (Nat.le_refl _) _).alloc (by simp) _).alloc (by simp; omega) _⟩
end Go.Proofs.Ytnnecccnoemkpaa
