/-
  Package chance, the decoder: Direct.
-/
import Derived.Test.YtbmjehpkcelogaaEd
namespace Go.Proofs.Ytbmjehpkcelogaa
open Go.ChangeShapes Go.WideShapes Go.ChangeAt Go.RowKit
open Go.ChangeMaps (open_string shut_string)
theorem gDir_one (s : List UInt8) (q acc : Nat) (st : Nat × Nat × Nat) (bad : Bool) :
    ((gDir s 1 0 st bad).2.1 = 0 → gDir s (q + 1) acc st bad = gDir s q (acc * 2 + (gDir s 1 0 st bad).1) (gDir s 1 0 st bad).2.2.1 (gDir s 1 0 st bad).2.2.2 ∧ (gDir s 1 0 st bad).1 < 2) ∧
    ((gDir s 1 0 st bad).2.1 ≠ 0 → gDir s (q + 1) acc st bad = (0, (gDir s 1 0 st bad).2.1, (gDir s 1 0 st bad).2.2.1, (gDir s 1 0 st bad).2.2.2) ∧ (gDir s 1 0 st bad).1 = 0) := by
  by_cases h0 : (ovr s st bad).1 = 0
  · have e : gDir s 1 0 st bad = (0 * 2 + (if st.2.2 / 2 ≤ (ovr s st bad).2.1 then 1 else 0), 0, dirS (decide (st.2.2 / 2 ≤ (ovr s st bad).2.1)) st, false) := by
      rw [gDir, if_pos h0]; rfl
    rw [e, gDir, if_pos h0]
    simp only [Nat.zero_mul, Nat.zero_add]
    refine ⟨fun _ => ⟨trivial, by split <;> omega⟩, fun h => absurd rfl h⟩
  · have e : gDir s 1 0 st bad = (0, (ovr s st bad).1, st, true) := by rw [gDir, if_neg h0]
    rw [e, gDir, if_neg h0]
    exact ⟨fun h => absurd h h0, fun _ => ⟨rfl, rfl⟩⟩
def TeRel (A : Nat) (s : ByteArray) (v : Value) (m : Nat) (st : Nat × Nat × Nat) (bad : Bool) (W : World) (nv iv : Value) (wr : World) : Prop :=
  ∃ (i : Nat) (v' : Value) (acc : Nat) (st' : Nat × Nat × Nat) (bad' : Bool), i ≤ m ∧ nv = .int .u64 (acc : Int) ∧ iv = .int .i64 (i : Int) ∧ De wr A s v' st' bad' ∧ Gd s.data.toList st' bad' ∧
    gDir s.data.toList (m - i) acc st' bad' = gDir s.data.toList m 0 st bad ∧ acc < 2 ^ i ∧ st'.1 + 2 * (m - i) ≤ st.1 + 2 * m ∧ Chg (foot A v) W wr ∧ Moved W v v'
theorem or_bit (x b : Nat) (h : x < 9223372036854775808) (hb : b < 2) : bits .or .u64 ((x : Int) * 2) (b : Int) = ((x * 2 + b : Nat) : Int) := by
  have h8 : (2 : Nat) ^ 1 = 2 := rfl
  have := or_hi b x 1 (by omega)
  rw [h8] at this
  rw [show (x : Int) * 2 = ((x * 2 : Nat) : Int) from by simp, u64_or_nat _ _ (by omega) (by omega), Nat.or_comm, this]; simp; omega
set_option maxRecDepth 100000 in
set_option maxHeartbeats 1000000 in
theorem tellEach_any (A : Nat) (s : ByteArray) (v : Value) (m : Nat) (st : Nat × Nat × Nat) (bad : Bool) (W : World) (h : De W A s v st bad) (hg : Gd s.data.toList st bad) (hk : st.1 ≤ 98000) (hs : s.size ≤ 100000) (hm : m ≤ 64) :
    Calls Try.prog 37 #[.int .i64 m, .func (.func 20) #[ptr A] #[]] W (DePost A s v (.int .u64 ((gDir s.data.toList m 0 st bad).1 : Nat)) (gDir s.data.toList m 0 st bad).2.1 (gDir s.data.toList m 0 st bad).2.2.1 (gDir s.data.toList m 0 st bad).2.2.2 W) := by
  unfold ptr
  go_enter Try.func37, Try.ntmps37
  go_wp2_with fail
  go_loopw [6, 10] (fun nv iv wr => TeRel A s v m st bad W nv iv wr) (fun _ iv _ => m - (intOf iv).toNat)
  case atStart => exact ⟨0, v, 0, st, bad, Nat.zero_le _, rfl, rfl, h, hg, rfl, by simp, Nat.le_refl _, chg_refl _ _, fun k hk => .inl hk⟩
  case round =>
    clear h hg
    obtain ⟨i, v1, acc, st1, bad1, hi, rfl, rfl, d1, d2, d3, d4, d5, d6, d7⟩ := hrel
    by_cases hlt : i < m
    · have D := ddir_one A s v1 st1 bad1 wr d1 d2 (by omega) hs
      obtain ⟨p1, p2⟩ := gDir_one s.data.toList (m - i - 1) acc st1 bad1
      rw [show m - i - 1 + 1 = m - i from by omega, d3] at p1 p2
      obtain ⟨G1, G2⟩ := gd_dir 1 0 d2
      have G1 := Hid.intro G1
      have HK : Hid ((gDir s.data.toList 1 0 st1 bad1).2.2.1.1 ≤ st1.1 + 2 * 1) := G2
      have H5 := Hid.intro d5
      have H6 := Hid.intro d6
      have H7 := Hid.intro d7
      have H4 := Hid.intro d4
      clear d2 d3 d5 d6 d7 d4 d1 G2
      unfold DePost at D
      by_cases he : (gDir s.data.toList 1 0 st1 bad1).2.1 = 0
      · obtain ⟨q1, q2⟩ := p1 he
        have Q1 := Hid.intro q1
        rw [he] at D
        clear p1 p2 q1 he
        generalize (gDir s.data.toList 1 0 st1 bad1).2.2.1 = st2 at *
        generalize (gDir s.data.toList 1 0 st1 bad1).2.2.2 = bad2 at *
        generalize (gDir s.data.toList 1 0 st1 bad1).1 = b at *
        have hp63 : 2 ^ i ≤ 2 ^ 63 := Nat.pow_le_pow_right (by decide) (by omega)
        have h63 : (2 : Nat) ^ 63 = 9223372036854775808 := rfl
        have hacc := H4.out
        have ho := or_bit acc b (by omega) q2
        have hw : (acc : Int) * 2 % 18446744073709551616 = (acc : Int) * 2 := by omega
        have hai : (acc : Int) < 9223372036854775808 := by omega
        clear hp63 h63 hacc
        have HO := Hid.intro ho
        clear ho
        unfold ptr at D
        go_wp2_with fail
        refine D.mono ?_
        rintro e w1 ⟨rfl, v2, k1, k2, k3⟩
        go_wp2
        go_roundw
        case rel =>
          refine ⟨i + 1, v2, acc * 2 + b, st2, bad2, by omega, ?_, by go_num, k1, G1.out, ?_, ?_, ?_, foot_next H6.out H7.out k2, moved_next H6.out H7.out k3⟩
          · rw [HO.out]
          · rw [show m - (i + 1) = m - i - 1 from by omega]; exact Q1.out.symm
          · have := H4.out; rw [Nat.pow_succ]; omega
          · have := HK.out; have := H5.out; omega
        case measure => simp [intOf]; omega
      · obtain ⟨q1, q2⟩ := p2 he
        rw [q1]
        rw [q2] at D
        have hne : (((gDir s.data.toList 1 0 st1 bad1).2.1 : Int) != 0) = true := by simpa using he
        clear p1 p2 he
        unfold DePost
        generalize (gDir s.data.toList 1 0 st1 bad1).2.2.1 = st2 at *
        generalize (gDir s.data.toList 1 0 st1 bad1).2.2.2 = bad2 at *
        generalize (gDir s.data.toList 1 0 st1 bad1).2.1 = er at *
        clear q1 q2
        unfold ptr at D
        go_wp2_with fail
        refine D.mono ?_
        rintro e w1 ⟨rfl, v2, k1, k2, k3⟩
        go_wp2
        go_ret2
        exact ⟨rfl, v2, k1, foot_next H6.out H7.out k2, moved_next H6.out H7.out k3⟩
    · obtain rfl : i = m := by omega
      rw [Nat.sub_self] at d3
      have D3 := Hid.intro d3
      clear d3
      go_wp2
      go_ret2
      rw [← D3.out]
      exact ⟨rfl, v1, d1, d6, d7⟩
set_option maxRecDepth 100000 in
theorem ddir_any (A : Nat) (s : ByteArray) (v : Value) (st : Nat × Nat × Nat) (bad : Bool) (n : Int) (W : World) (h : De W A s v st bad) (hg : Gd s.data.toList st bad) (hk : st.1 ≤ 98000) (hs : s.size ≤ 100000) :
    Calls Try.prog 20 #[ptr A, .int .i64 n] W (DePost A s v (.int .u64 ((gDir s.data.toList (cl n) 0 st bad).1 : Nat)) (gDir s.data.toList (cl n) 0 st bad).2.1 (gDir s.data.toList (cl n) 0 st bad).2.2.1 (gDir s.data.toList (cl n) 0 st bad).2.2.2 W) := by
  by_cases h1 : n = 1
  · subst h1
    exact ddir_one A s v st bad W h hg (by omega) hs
  · have WI := within_any 0 n 64 W ((cl n : Nat) : Int) (by unfold cl; (repeat' split) <;> omega)
    have PE := tellEach_any A s v (cl n) st bad W h hg hk hs (cl_le n)
    have hne : ¬ ((cl n : Nat) : Int) = 1 := by unfold cl; (repeat' split) <;> omega
    have hne2 : (((cl n : Nat) : Int) != 1) = true := by simpa using hne
    have hcl := cl_le n
    unfold DePost at *
    generalize cl n = m at *
    unfold ptr at *
    go_enter Try.func20, Try.ntmps20
    go_wp2_with (first | (go_at_call 28; refine WI.mono ?_; rintro e w1 ⟨rfl, rfl⟩))
    refine PE.mono ?_
    rintro e w1 ⟨rfl, k⟩
    go_wp2
    go_ret2
    exact ⟨rfl, k⟩
end Go.Proofs.Ytbmjehpkcelogaa
