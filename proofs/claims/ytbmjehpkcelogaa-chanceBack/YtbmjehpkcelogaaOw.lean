/-
  Encoders and decoders that a call owns; the document's example.
-/
import Derived.Test.YtbmjehpkcelogaaTe
namespace Go.Proofs.Ytbmjehpkcelogaa
open Go.ChangeShapes Go.WideShapes Go.ChangeAt Go.RowKit
open Go.ChangeMaps (open_string shut_string)
theorem err_any (e : Nat) (w : World) (_h : e ≤ 100) : Calls Try.prog 22 #[.int .i64 e] w fun x w' => x = .returned (.int .i64 e) ∧ w = w' := by
  go_enter Try.func22, Try.ntmps22
  go_wp2
  go_ret
  exact ⟨rfl, rfl⟩
/-- An encoder, a decoder, that a call made since w. -/
def EO (w W : World) (A : Nat) (v : Value) (st : Nat × Nat × Nat) : Prop := Ec W A v st ∧ Up w.heap.size A v ∧ Iv st
def DO (w W : World) (A : Nat) (s : ByteArray) (v : Value) (st : Nat × Nat × Nat) (bad : Bool) : Prop := De W A s v st bad ∧ Up w.heap.size A v ∧ Gd s.data.toList st bad
theorem eo_kept {w W W' : World} {S : Nat → Prop} {A : Nat} {v : Value} {st : Nat × Nat × Nat} (h : EO w W A v st) (g : Chg S W W') (hS : ∀ k, foot A v k → ¬ S k) : EO w W' A v st := ⟨en_kept h.1 g hS, h.2⟩
theorem do_kept {w W W' : World} {S : Nat → Prop} {A : Nat} {s : ByteArray} {v : Value} {st : Nat × Nat × Nat} {bad : Bool} (h : DO w W A s v st bad) (g : Chg S W W') (hS : ∀ k, foot A v k → ¬ S k) : DO w W' A s v st bad := ⟨en_kept h.1 g hS, h.2⟩
theorem eo_lt {w W : World} {A : Nat} {v : Value} {st : Nat × Nat × Nat} (h : EO w W A v st) (k : Nat) (hk : foot A v k) : k < W.heap.size := en_lt h.1 k hk
theorem do_lt {w W : World} {A : Nat} {s : ByteArray} {v : Value} {st : Nat × Nat × Nat} {bad : Bool} (h : DO w W A s v st bad) (k : Nat) (hk : foot A v k) : k < W.heap.size := en_lt h.1 k hk
theorem new_own {w W : World} (hb : Below w.heap.size w W) : Calls Try.prog 9 #[] W fun e W' => ∃ A, e = .returned (ptr A) ∧ W.heap.size ≤ A ∧ EO w W' A (.slice none 0 0) st0 ∧ Below w.heap.size w W' ∧ Chg (fun _ => False) W W' := by
  refine (new_any W).mono ?_
  rintro e W' ⟨rfl, a1, a2⟩
  exact ⟨_, rfl, Nat.le_refl _, ⟨a1, up_nil _ _ hb.size, iv0⟩, below_no hb a2, a2⟩
theorem from_own {w W : World} (s : ByteArray) (hb : Below w.heap.size w W) : Calls Try.prog 18 #[.string s] W fun e W' => ∃ A, e = .returned (ptr A) ∧ W.heap.size ≤ A ∧ DO w W' A s (.slice none 0 0) st0 false ∧ Below w.heap.size w W' ∧ Chg (fun _ => False) W W' := by
  refine (from_any s W).mono ?_
  rintro e W' ⟨rfl, a1, a2⟩
  exact ⟨_, rfl, Nat.le_refl _, ⟨a1, up_nil _ _ hb.size, gd0 _⟩, below_no hb a2, a2⟩
/-- What a change of an encoder leaves, for one who owns it. -/
def EoPost (w W : World) (A : Nat) (v : Value) (st : Nat × Nat × Nat) (e : Ending) (W' : World) : Prop :=
  e = .returned (.tuple #[]) ∧ ∃ v', EO w W' A v' st ∧ Below w.heap.size w W' ∧ Chg (foot A v) W W' ∧ Moved W v v'
theorem bit_own {w W : World} (A : Nat) (v : Value) (st : Nat × Nat × Nat) (p b : Int) (h : EO w W A v st) (hb : Below w.heap.size w W) (hk : st.1 ≤ 99000) (st' : Nat × Nat × Nat) (hs : bitS p (decide (b ≠ 0)) st = st') :
    Calls Try.prog 14 #[ptr A, .int .i64 p, .int .i64 b] W (EoPost w W A v st') := by
  subst hs
  refine (bit_any fit0 A v st.1 st.2.1 st.2.2 p b W h.1 h.2.2.1 (by omega)).mono ?_
  rintro e W' ⟨rfl, v', k1, k2, k3⟩
  exact ⟨rfl, v', ⟨k1, up_moved h.2.1 k3 hb.size, (bitS_ok p _ st h.2.2).1⟩, below_foot hb k2 h.2.1, k2, k3⟩
theorem direct_own {w W : World} (A : Nat) (v : Value) (st : Nat × Nat × Nat) (x : Nat) (n : Int) (h : EO w W A v st) (hb : Below w.heap.size w W) (hk : st.1 ≤ 99000) (hx : x < 18446744073709551616) (st' : Nat × Nat × Nat) (hs : dirN x (cl n) st = st') :
    Calls Try.prog 12 #[ptr A, .int .u64 x, .int .i64 n] W (EoPost w W A v st') := by
  subst hs
  refine (direct_any fit0 A v st x n W h.1 (iv_rg h.2.2) hk hx).mono ?_
  rintro e W' ⟨rfl, v', k1, k2, k3⟩
  exact ⟨rfl, v', ⟨k1, up_moved h.2.1 k3 hb.size, (dirN_ok x _ st h.2.2).1⟩, below_foot hb k2 h.2.1, k2, k3⟩
theorem iv_low {st : Nat × Nat × Nat} (h : Iv st) : st.2.1 < 256 ^ (4 + st.1) := by
  obtain ⟨h1, h2, h3⟩ := h
  rw [Nat.pow_add]; have : 0 < 256 ^ st.1 := Nat.pow_pos (by decide)
  simp only [Nat.reducePow]; omega
theorem bytes_own {w W : World} (A : Nat) (v : Value) (st : Nat × Nat × Nat) (h : EO w W A v st) (hb : Below w.heap.size w W) (hk : st.1 ≤ 90000) :
    Calls Try.prog 16 #[ptr A] W fun e W' => e = .returned (.string (bs (byt st))) ∧ Below w.heap.size w W' ∧ Chg (fun _ => False) W W' := by
  refine (bytes_any fit0 A v st.1 st.2.1 st.2.2 W h.1 (iv_low h.2.2) hk).mono ?_
  rintro e W' ⟨rfl, k⟩
  exact ⟨rfl, below_no hb k, k⟩
/-- What a decoder's answer leaves, for one who owns it. -/
def DoPost (w W : World) (A : Nat) (s : ByteArray) (v a : Value) (er : Nat) (st : Nat × Nat × Nat) (bad : Bool) (e : Ending) (W' : World) : Prop :=
  e = .returned (.tuple #[a, .int .i64 er]) ∧ ∃ v', DO w W' A s v' st bad ∧ Below w.heap.size w W' ∧ Chg (foot A v) W W' ∧ Moved W v v'
theorem dbit_own {w W : World} (A : Nat) (s : ByteArray) (v : Value) (st : Nat × Nat × Nat) (bad : Bool) (p : Int) (h : DO w W A s v st bad) (hb : Below w.heap.size w W) (hk : st.1 ≤ 99000) (hs : s.size ≤ 100000)
    (b er : Nat) (st' : Nat × Nat × Nat) (bad' : Bool) (hr : gBit s.data.toList p st bad = (b, er, st', bad')) :
    Calls Try.prog 23 #[ptr A, .int .i64 p] W (DoPost w W A s v (.int .i64 b) er st' bad') := by
  have hg := (gd_bit p h.2.2).1
  have D := dbit_any A s v st bad p W h.1 h.2.2 hk hs
  rw [hr] at hg D
  refine D.mono ?_
  rintro e W' ⟨rfl, v', k1, k2, k3⟩
  exact ⟨rfl, v', ⟨k1, up_moved h.2.1 k3 hb.size, hg⟩, below_foot hb k2 h.2.1, k2, k3⟩
theorem ddir_own {w W : World} (A : Nat) (s : ByteArray) (v : Value) (st : Nat × Nat × Nat) (bad : Bool) (n : Int) (h : DO w W A s v st bad) (hb : Below w.heap.size w W) (hk : st.1 ≤ 98000) (hs : s.size ≤ 100000)
    (x er : Nat) (st' : Nat × Nat × Nat) (bad' : Bool) (hr : gDir s.data.toList (cl n) 0 st bad = (x, er, st', bad')) :
    Calls Try.prog 20 #[ptr A, .int .i64 n] W (DoPost w W A s v (.int .u64 x) er st' bad') := by
  have hg := (gd_dir (cl n) 0 h.2.2).1
  have D := ddir_any A s v st bad n W h.1 h.2.2 hk hs
  rw [hr] at hg D
  refine D.mono ?_
  rintro e W' ⟨rfl, v', k1, k2, k3⟩
  exact ⟨rfl, v', ⟨k1, up_moved h.2.1 k3 hb.size, hg⟩, below_foot hb k2 h.2.1, k2, k3⟩
theorem dend_own {w W : World} (A : Nat) (s : ByteArray) (v : Value) (st : Nat × Nat × Nat) (bad : Bool) (h : DO w W A s v st bad) (hb : Below w.heap.size w W) (hk : st.1 ≤ 99000) (hs : s.size ≤ 100000)
    (er : Nat) (bad' : Bool) (hr : gEnd s.data.toList st bad = (er, bad')) :
    Calls Try.prog 25 #[ptr A] W fun e W' => e = .returned (.int .i64 er) ∧ DO w W' A s v st bad' ∧ Below w.heap.size w W' ∧ Chg (· = A) W W' := by
  have D := dend_any A s v st bad W h.1 h.2.2 hk hs
  have hj : Gd s.data.toList st bad' := by
    unfold gEnd at hr
    by_cases h0 : (ovr s.data.toList st bad).1 = 0
    · obtain ⟨e1, e2, e3⟩ := ovr_ok _ st bad h0
      rw [if_pos h0] at hr
      split at hr
      · injection hr with _ hr; subst hr; exact gd_bad h.2.2
      · injection hr with _ hr; subst hr; subst e3; exact h.2.2
    · rw [if_neg h0] at hr
      injection hr with _ hr; subst hr; exact gd_bad h.2.2
  rw [hr] at D
  refine D.mono ?_
  rintro e W' ⟨rfl, k1, k2⟩
  exact ⟨rfl, ⟨k1, h.2.1, hj⟩, below_one hb k2 h.2.1.1, k2⟩
set_option maxRecDepth 100000 in
set_option maxHeartbeats 1000000 in
theorem awake_any (w : World) : Calls Try.prog 10 #[] w fun e w' => e = .returned (.bool true) ∧ Below w.heap.size w w' := by
  obtain ⟨s1, hs1⟩ : ∃ s1, s1 = bitS 2048 true st0 := ⟨_, rfl⟩
  obtain ⟨s2, hs2⟩ : ∃ s2, s2 = bitS 100 false s1 := ⟨_, rfl⟩
  have e1 : s1 = (0, 0, 2147481600) := by rw [hs1]; kernel_rfl
  have e2 : s2 = (0, 52428700, 2095052900) := by rw [hs2, e1]; kernel_rfl
  have i1 : Iv s1 := by rw [hs1]; exact (bitS_ok _ _ _ iv0).1
  have i2 : Iv s2 := by rw [hs2]; exact (bitS_ok _ _ _ i1).1
  have hf := fin_byt s2 i2
  have t2 : gBit (byt s2) 100 s1 false = (0, 0, s2, false) := by have := tell_bit (byt s2) 100 false s1 s2 i1 hf (by rw [← hs2]; exact sub_refl _); rw [← hs2] at this; simpa using this
  have t1 : gBit (byt s2) 2048 st0 false = (1, 0, s1, false) := by have := tell_bit (byt s2) 2048 true st0 s2 iv0 hf (by rw [← hs1, hs2]; exact (bitS_ok _ _ _ i1).2); rw [← hs1] at this; simpa using this
  have t3 := end_byt s2 i2
  have k1 : s1.1 ≤ 90000 := by rw [e1]; decide
  have k2 : s2.1 ≤ 90000 := by rw [e2]; decide
  have hz : (byt s2).length ≤ 100000 := by rw [byt_len, e2]; decide
  have HS1 := Hid.intro hs1
  have HS2 := Hid.intro hs2
  clear e1 e2 hf i1 i2 hs1 hs2
  go_enter Try.func10, Try.ntmps10
  go_wp2_with fail
  refine (new_own (Below.refl _ w)).mono ?_
  rintro e w1 ⟨A, rfl, a0, a1, a2, _⟩
  have B := bytes_own A _ st0 a1 a2 (by decide)
  rw [show bs (byt st0) = ⟨#[0, 0, 0, 0, 0]⟩ from rfl] at B
  unfold ptr at B ⊢
  go_wp2_with fail
  refine B.mono ?_
  rintro e w2 ⟨rfl, b1, b2⟩
  have a3 := eo_kept a1 b2 (fun _ _ h => h)
  clear a1 a2 B
  go_wp2_with fail
  refine (bit_own A _ st0 2048 1 a3 b1 (by decide) s1 HS1.out.symm).mono ?_
  rintro e w3 ⟨rfl, v3, c1, c2, _, _⟩
  clear a3 b1
  go_wp2_with fail
  refine (bit_own A v3 s1 100 0 c1 c2 (by omega) s2 HS2.out.symm).mono ?_
  rintro e w4 ⟨rfl, v4, d1, d2, _, _⟩
  clear c1 c2
  go_wp2_with fail
  refine (bytes_own A v4 s2 d1 d2 k2).mono ?_
  rintro e w5 ⟨rfl, f1, f2⟩
  go_wp2_with fail
  refine (from_own (bs (byt s2)) f1).mono ?_
  rintro e w6 ⟨D, rfl, _, g1, g2, _⟩
  unfold ptr
  clear f1 f2 d1 d2
  go_wp2_with fail
  refine (dbit_own D (bs (byt s2)) _ st0 false 2048 g1 g2 (by decide) (by rw [size_bs]; exact hz) 1 0 s1 false (by rw [bs_data]; exact t1)).mono ?_
  rintro e w7 ⟨rfl, v7, h1, h2, _, _⟩
  clear g1 g2
  go_wp2_with fail
  refine (dbit_own D (bs (byt s2)) v7 s1 false 100 h1 h2 (by omega) (by rw [size_bs]; exact hz) 0 0 s2 false (by rw [bs_data]; exact t2)).mono ?_
  rintro e w8 ⟨rfl, v8, j1, j2, _, _⟩
  clear h1 h2
  have EE := dend_own D (bs (byt s2)) v8 s2 false j1 j2 (by omega) (by rw [size_bs]; exact hz) 0 false (by rw [bs_data]; exact t3)
  have E0 := fun (w : World) => err_any 0 w (by decide)
  unfold ptr at EE
  go_wp2_with (first | (go_at_call 22; refine (E0 _).mono ?_; rintro e w9 ⟨rfl, rfl⟩) | (go_at_call 25; refine EE.mono ?_; rintro e w9 ⟨rfl, l1, l2, _⟩))
  go_ret
  exact ⟨rfl, l2⟩
theorem awake_own {w W : World} (hb : Below w.heap.size w W) : Calls Try.prog 10 #[] W fun e W' => e = .returned (.bool true) ∧ Below w.heap.size w W' := by
  refine (awake_any W).mono ?_
  rintro e W' ⟨rfl, a2⟩
  exact ⟨rfl, hb.trans ⟨a2.os, a2.tape, a2.output, a2.size, fun k hk => a2.block k (Nat.lt_of_lt_of_le hk hb.size)⟩⟩
end Go.Proofs.Ytbmjehpkcelogaa
