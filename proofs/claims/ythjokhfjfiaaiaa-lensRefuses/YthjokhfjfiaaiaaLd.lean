/-
  Four bits read by a method value; one length, or a row of noughts; one length, or a row of noughts; how reading goes on.
-/
import Derived.Test.YthjokhfjfiaaiaaLb
import Derived.Test.YthjokhfjfiaaiaaMq
import Derived.Test.YthjokhfjfiaaiaaJm
namespace Go.Proofs.Ythjokhfjfiaaiaa
open Go.ChangeShapes Go.WideShapes Go.ChangeAt Go.RowKit
open Go.ChangeMaps (open_string shut_string)

theorem nib_yes (A : Nat) (t : ByteArray) (k : Nat) (W : World) (h : Rd W A t (4 * k)) (hs : t.size ≤ 100000) (hk : k < (nbs t.data.toList).length) (y : Nat) (hy : at0 (nbs t.data.toList) k = y) :
    Calls Try.prog 31 #[.pointer (some ⟨A, 0, none⟩), .int .i64 4] W fun e W' => e = .returned (.tuple #[.int .u64 y, .int .i64 0]) ∧ Rd W' A t (4 * (k + 1)) ∧ Chg (· = A) W W' := by
  have hl := nbs_len t.data.toList
  rw [len_data] at hl
  have G : Calls Try.prog 31 #[.pointer (some ⟨A, 0, none⟩), .int .i64 4] W (GotPost A t (4 * k) 4 W) := get_nat A t hs 4 (4 * k) W h (by omega) (by omega)
  refine G.mono ?_
  rintro e W' ⟨rfl, k1, k2⟩
  refine ⟨by rw [got_nib _ k hk, hy], ?_, k2⟩
  rw [show 4 * (k + 1) = 4 * k + 4 from by omega]; exact k1
theorem nib_no (A : Nat) (t : ByteArray) (k : Nat) (W : World) (h : Rd W A t (4 * k)) (hs : t.size ≤ 100000) (hk : k = (nbs t.data.toList).length) :
    Calls Try.prog 31 #[.pointer (some ⟨A, 0, none⟩), .int .i64 4] W fun e W' => e = .returned (.tuple #[.int .u64 0, .int .i64 2]) ∧ Chg (· = A) W W' := by
  have hl := nbs_len t.data.toList
  rw [len_data] at hl
  have G : Calls Try.prog 31 #[.pointer (some ⟨A, 0, none⟩), .int .i64 4] W fun e W' => e = .returned (.tuple #[.int .u64 0, .int .i64 2]) ∧ W' = W.drew := get_more A t (4 * k) 4 W h hs (by omega) (by omega) (by omega)
  refine G.mono ?_
  rintro e W' ⟨rfl, rfl⟩
  exact ⟨rfl, chg_drew (chg_refl _ _)⟩
def hv (A : Nat) : Value := .agg #[.pointer (some ⟨A, 0, none⟩)]
theorem next_yes (A : Nat) (t : ByteArray) (k : Nat) (W : World) (h : Rd W A t (4 * k)) (hs : t.size ≤ 100000) (hk : k < (nbs t.data.toList).length) (y : Nat) (hy : at0 (nbs t.data.toList) k = y) (hy16 : y < 16) :
    Calls Try.prog 18 #[hv A] W fun e W' => e = .returned (.tuple #[.int .i64 y, .int .i64 0]) ∧ Rd W' A t (4 * (k + 1)) ∧ Chg (· = A) W W' := by
  have N := nib_yes A t k (W.alloc (.cells #[.pointer (some ⟨A, 0, none⟩)] 46)) (blk_alloc h _) hs hk y hy
  have C : Hid (Chg (· = A) W (W.alloc (.cells #[.pointer (some ⟨A, 0, none⟩)] 46))) := chg_alloc (chg_refl _ _) _
  clear h hs hk hy
  unfold hv
  go_enter Try.func18, Try.ntmps18
  go_wp2_with fail
  with_reducible refine N.mono ?_
  rintro e w1 ⟨rfl, k1, k2⟩
  have K1 := Hid.intro k1
  have K2 := Hid.intro (chg_same C.out k2)
  clear N k1 k2 C
  go_wp2_with fail
  go_ret2
  exact ⟨rfl, K1.out, K2.out⟩
theorem next_no (A : Nat) (t : ByteArray) (k : Nat) (W : World) (h : Rd W A t (4 * k)) (hs : t.size ≤ 100000) (hk : k = (nbs t.data.toList).length) :
    Calls Try.prog 18 #[hv A] W fun e W' => e = .returned (.tuple #[.int .i64 0, .int .i64 2]) ∧ Chg (· = A) W W' := by
  have N := nib_no A t k (W.alloc (.cells #[.pointer (some ⟨A, 0, none⟩)] 46)) (blk_alloc h _) hs hk
  have C : Hid (Chg (· = A) W (W.alloc (.cells #[.pointer (some ⟨A, 0, none⟩)] 46))) := chg_alloc (chg_refl _ _) _
  clear h hs hk
  unfold hv
  go_enter Try.func18, Try.ntmps18
  go_wp2_with fail
  with_reducible refine N.mono ?_
  rintro e w1 ⟨rfl, k2⟩
  have K2 := Hid.intro (chg_same C.out k2)
  clear N k2 C
  go_wp2_with fail
  go_ret2
  exact ⟨rfl, K2.out⟩
theorem ni_one (W : World) (y : Nat) : (W.alloc (.cells #[.int .i64 (y : Int)] 3)).ownsRow W.heap.size 3 1 (.slice (some ⟨W.heap.size, 0, none⟩) 1 1) 1 (ni [y]) :=
  ⟨rfl, .inr ⟨_, 1, _, rfl, Nat.le_refl _, blk_new _ _ _, Nat.le_refl _, by decide, by simp, rfl⟩⟩
theorem own_base {W W1 : World} {e size : Nat} {v : Value} {n : Nat} {xs : List Value} (h : W1.ownsRow W1.heap.size e size v n xs) (hs : W.heap.size ≤ W1.heap.size) : W1.ownsRow W.heap.size e size v n xs := own_low h hs
/-- What some leaves: so many lengths, and the place behind them. -/
def SmPost (A : Nat) (t : ByteArray) (zs : List Nat) (k : Nat) (W : World) (e : Ending) (W' : World) : Prop :=
  ∃ b, e = .returned (.tuple #[.slice (some ⟨b, 0, none⟩) zs.length zs.length, .int .i64 0]) ∧ W'.ownsRow W.heap.size 3 1 (.slice (some ⟨b, 0, none⟩) zs.length zs.length) zs.length (ni zs) ∧ Rd W' A t (4 * k) ∧ Chg (· = A) W W'
set_option maxRecDepth 100000 in
theorem some_pos (A : Nat) (t : ByteArray) (k : Nat) (W : World) (h : Rd W A t (4 * k)) (hs : t.size ≤ 100000) (hk : k < (nbs t.data.toList).length) (y : Nat) (hy : at0 (nbs t.data.toList) k = y) (h0 : 0 < y) (hy16 : y < 16) :
    Calls Try.prog 30 #[.func (.func 18) #[hv A] #[]] W (SmPost A t [y] (k + 1) W) := by
  have N := next_yes A t k W h hs hk y hy hy16
  have hA := blk_lt h
  clear h hs hk hy
  unfold SmPost
  go_enter Try.func30, Try.ntmps30
  go_wp2_with fail
  with_reducible refine N.mono ?_
  rintro e w1 ⟨rfl, k1, k2⟩
  have K1 := Hid.intro k1
  have K2 := Hid.intro k2
  clear N k1 k2
  go_wp2_with fail
  go_ret2
  exact ⟨w1.heap.size, rfl, own_low (ni_one w1 y) (chg_size K2.out), blk_alloc K1.out _, chg_alloc K2.out _⟩

theorem ni_zeros (n : Nat) : ivs (List.replicate n 0) = ni (List.replicate n 0) := by unfold ni; rw [List.map_replicate]; rfl
theorem make_noughts (n : Nat) (hn : n ≤ 100000) (W : World) (z : Int) (hz : z = (n : Int)) :
    (Instr.makeSlice 22 (.int .i64 z) (.int .i64 z)).run Try.prog W = .ok (.slice (some ⟨W.heap.size, 0, none⟩) n n) (W.alloc (.cells (madeCells #[.int .i64 0] n) 3)) := by
  subst hz; exact make_ints 22 3 Try.underlying22 info3 n hn W
theorem own_noughts (W : World) (n : Nat) (hn : n ≤ 100000) : (W.alloc (.cells (madeCells #[.int .i64 0] n) 3)).ownsRow W.heap.size 3 1 (.slice (some ⟨W.heap.size, 0, none⟩) n n) n (ni (List.replicate n 0)) := by
  rw [← ni_zeros]; exact own_made_ints W 3 n hn
set_option maxRecDepth 100000 in
theorem some_row (A : Nat) (t : ByteArray) (k : Nat) (W : World) (h : Rd W A t (4 * k)) (hs : t.size ≤ 100000) (hk : k + 1 < (nbs t.data.toList).length) (y : Nat) (h0 : at0 (nbs t.data.toList) k = 0) (hy : at0 (nbs t.data.toList) (k + 1) = y) (hy16 : y < 16) :
    Calls Try.prog 30 #[.func (.func 18) #[hv A] #[]] W (SmPost A t (List.replicate (y + 1) 0) (k + 2) W) := by
  have N : Calls Try.prog 18 #[hv A] W fun e W' => e = .returned (.tuple #[.int .i64 0, .int .i64 0]) ∧ Rd W' A t (4 * (k + 1)) ∧ Chg (· = A) W W' := next_yes A t k W h hs (by omega) 0 h0 (by omega)
  have N2 : Hid (∀ W1, Rd W1 A t (4 * (k + 1)) → Calls Try.prog 18 #[hv A] W1 fun e W' => e = .returned (.tuple #[.int .i64 y, .int .i64 0]) ∧ Rd W' A t (4 * (k + 1 + 1)) ∧ Chg (· = A) W1 W') := fun W1 h1 => next_yes A t (k + 1) W1 h1 hs hk y hy hy16
  clear h hs hk hy h0
  unfold SmPost
  rw [List.length_replicate]
  obtain ⟨m, hm⟩ : ∃ m : Nat, m = y + 1 := ⟨_, rfl⟩
  have hm1 : (y : Int) + 1 = (m : Int) := by omega
  rw [← hm]
  clear hm
  go_enter Try.func30, Try.ntmps30
  go_wp2_with fail
  with_reducible refine N.mono ?_
  rintro e w1 ⟨rfl, k1, k2⟩
  have K1 := Hid.intro k1
  have K2 := Hid.intro k2
  clear N k1 k2
  go_wp2_with fail
  with_reducible refine (N2.out w1 K1.out).mono ?_
  rintro e w2 ⟨rfl, k1, k3⟩
  have K3 := Hid.intro (chg_same K2.out k3)
  have K4 := Hid.intro k1
  have mk := make_noughts m (by omega) w2 m rfl
  clear N2 k1 k3 K1 K2
  go_wp2_with fail
  go_ret2
  exact ⟨w2.heap.size, rfl, own_low (own_noughts w2 m (by omega)) (chg_size K3.out), blk_alloc K4.out _, chg_alloc K3.out _⟩
set_option maxRecDepth 100000 in
theorem some_end (A : Nat) (t : ByteArray) (k : Nat) (W : World) (h : Rd W A t (4 * k)) (hs : t.size ≤ 100000) (hk : k = (nbs t.data.toList).length) :
    Calls Try.prog 30 #[.func (.func 18) #[hv A] #[]] W fun e W' => (∃ v, e = .returned (.tuple #[v, .int .i64 2])) ∧ Chg (· = A) W W' := by
  have N := next_no A t k W h hs hk
  clear h hs hk
  go_enter Try.func30, Try.ntmps30
  go_wp2_with fail
  with_reducible refine N.mono ?_
  rintro e w1 ⟨rfl, k2⟩
  have K2 := Hid.intro k2
  clear N k2
  go_wp2_with fail
  go_ret2
  exact ⟨⟨_, rfl⟩, chg_alloc K2.out _⟩
set_option maxRecDepth 100000 in
theorem some_half (A : Nat) (t : ByteArray) (k : Nat) (W : World) (h : Rd W A t (4 * k)) (hs : t.size ≤ 100000) (hk : k + 1 = (nbs t.data.toList).length) (h0 : at0 (nbs t.data.toList) k = 0) :
    Calls Try.prog 30 #[.func (.func 18) #[hv A] #[]] W fun e W' => (∃ v, e = .returned (.tuple #[v, .int .i64 2])) ∧ Chg (· = A) W W' := by
  have N : Calls Try.prog 18 #[hv A] W fun e W' => e = .returned (.tuple #[.int .i64 0, .int .i64 0]) ∧ Rd W' A t (4 * (k + 1)) ∧ Chg (· = A) W W' := next_yes A t k W h hs (by omega) 0 h0 (by omega)
  have N2 : Hid (∀ W1, Rd W1 A t (4 * (k + 1)) → Calls Try.prog 18 #[hv A] W1 fun e W' => e = .returned (.tuple #[.int .i64 0, .int .i64 2]) ∧ Chg (· = A) W1 W') := fun W1 h1 => next_no A t (k + 1) W1 h1 hs hk
  clear h hs hk h0
  go_enter Try.func30, Try.ntmps30
  go_wp2_with fail
  with_reducible refine N.mono ?_
  rintro e w1 ⟨rfl, k1, k2⟩
  have K1 := Hid.intro k1
  have K2 := Hid.intro k2
  clear N k1 k2
  go_wp2_with fail
  with_reducible refine (N2.out w1 K1.out).mono ?_
  rintro e w2 ⟨rfl, k3⟩
  have K3 := Hid.intro (chg_same K2.out k3)
  have mk := make_noughts 1 (by omega) w2 1 rfl
  clear N2 k3 K1 K2
  go_wp2_with fail
  go_ret2
  exact ⟨⟨_, rfl⟩, chg_alloc K3.out _⟩
theorem make_room (c : Nat) (hc : c ≤ 100000) (W : World) (z : Int) (hz : z = (c : Int)) :
    (Instr.makeSlice 22 (.int .i64 0) (.int .i64 z)).run Try.prog W = .ok (.slice (some ⟨W.heap.size, 0, none⟩) 0 c) (W.alloc (.cells (madeCells #[.int .i64 0] c) 3)) := by
  subst hz
  obtain ⟨i, hi, hz, hs, hb⟩ := info_all info3
  have hr := run_make (P := Try.prog) W 22 3 i _ Try.underlying22 hi hz .i64 .i64 0 c (by omega) (by omega) (by rw [hb]; omega) (by omega)
  simp only [Int.toNat_natCast, hs, Nat.mul_one] at hr
  exact hr
theorem own_room (W : World) (c : Nat) (hc : c ≤ 100000) : (W.alloc (.cells (madeCells #[.int .i64 0] c) 3)).ownsRow W.heap.size 3 1 (.slice (some ⟨W.heap.size, 0, none⟩) 0 c) 0 [] :=
  ⟨rfl, .inr ⟨_, c, _, rfl, Nat.le_refl _, blk_new _ _ _, Nat.zero_le _, by simp only [maxLen]; omega, by simp [madeCells], by simp⟩⟩
def slen : Value → Nat
  | .slice _ n _ => n
  | _ => 0
theorem ni_append (a b : List Nat) : ni (a ++ b) = ni a ++ ni b := by unfold ni; rw [List.map_append, ivs_append]
/-- How reading goes on from a place: an end, a length, or a row. -/
def Way (ns : List Nat) (D : Option (List Nat × List Nat)) (k f : Nat) (acc : List Nat) : Prop :=
  (k = ns.length ∧ D = none) ∨ (k + 1 = ns.length ∧ at0 ns k = 0 ∧ D = none) ∨
  (∃ y, k < ns.length ∧ at0 ns k = y ∧ 0 < y ∧ dec (f - 1) (acc ++ [y]) (ns.drop (k + 1)) = D) ∨
  (∃ y, k + 1 < ns.length ∧ at0 ns k = 0 ∧ at0 ns (k + 1) = y ∧ dec (f - 1) (acc ++ List.replicate (y + 1) 0) (ns.drop (k + 2)) = D)
theorem way (ns : List Nat) (D : Option (List Nat × List Nat)) (k f : Nat) (acc : List Nat) (h : dec f acc (ns.drop k) = D) (hk : k ≤ ns.length) (hf : 65 ≤ f + acc.length) (ha : acc.length < 65) : Way ns D k f acc := by
  obtain ⟨f, rfl⟩ : ∃ g, f = g + 1 := ⟨f - 1, by omega⟩
  by_cases h1 : k = ns.length
  · refine .inl ⟨h1, ?_⟩
    rw [← h, List.drop_of_length_le (by omega), dec_end f acc ha]
  · have hl : k < ns.length := by omega
    have e : ns.drop k = ns[k] :: ns.drop (k + 1) := List.drop_eq_getElem_cons hl
    by_cases h0 : ns[k] = 0
    · by_cases h2 : k + 1 = ns.length
      · refine .inr (.inl ⟨h2, by rw [at0_of ns k hl]; exact h0, ?_⟩)
        rw [← h, e, h0, List.drop_of_length_le (by omega), dec_half f acc ha]
      · have hl2 : k + 1 < ns.length := by omega
        have e2 : ns.drop (k + 1) = ns[k + 1] :: ns.drop (k + 2) := List.drop_eq_getElem_cons hl2
        refine .inr (.inr (.inr ⟨ns[k + 1], hl2, by rw [at0_of ns k hl]; exact h0, at0_of ns _ hl2, ?_⟩))
        rw [← h, e, h0, e2, dec_row f acc _ _ ha]; rfl
    · refine .inr (.inr (.inl ⟨ns[k], hl, at0_of ns k hl, by omega, ?_⟩))
      rw [← h, e, dec_pos f acc _ _ ha (by omega)]; rfl
end Go.Proofs.Ythjokhfjfiaaiaa
