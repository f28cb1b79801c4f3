/-
  The reference's decoder: Direct, End.
-/
import Derived.Test.YtbmjehpkcelogaaRi
namespace Go.Proofs.Ytbmjehpkcelogaa
open Go.ChangeShapes Go.WideShapes Go.ChangeAt Go.RowKit
open Go.ChangeMaps (open_string shut_string)


theorem rfoot_next {A B : Nat} {v v' : Value} {W a b : World} (h : Chg (rfoot A B v) W a) (m : Moved W v v') (g : Chg (rfoot A B v') a b) : Chg (rfoot A B v) W b :=
  chg_trans h g (fun k hk e => e.elim .inl (fun e => e.elim (fun e => .inr (.inl e)) (fun e => (m k e).elim (fun g => .inr (.inr g)) (fun g => absurd hk (by omega)))))
theorem r_step {R : Nat} {cs : Array Value} {A : Nat} {s : ByteArray} {B : Nat} {v v1 v2 : Value} {st1 st2 : Nat × Nat × Nat} {b : Bool} {W1 wr W3 w5 : World} (hB : B ≠ R) (h1 : v1.ownBlock ≠ some R)
    (c : Chg (rfoot A B v) W1 wr) (m : Moved W1 v v1) (c3 : Chg (· = A) wr W3) (h3 : Re W3 A s B v1 st1 b) (bk : Blk W3 R cs 43) (c5 : Chg (foot B v1) W3 w5) (m5 : Moved W3 v1 v2) (k5 : Cs w5 B v2 st2) :
    Re w5 A s B v2 st2 b ∧ Chg (rfoot A B v) W1 w5 ∧ Moved W1 v v2 ∧ v2.ownBlock ≠ some R ∧ Blk w5 R cs 43 := by
  have c13 : Chg (rfoot A B v) W1 W3 := chg_trans c (chg_ah c3) (fun _ _ e => e)
  refine ⟨re_next h3 c5 m5 k5, rfoot_next c13 m (chg_cs c5), moved_next c13 m m5, fun e => ?_, blk_kept bk c5 (fun e => ?_)⟩
  · rcases m5 _ e with g | g
    · exact h1 g
    · have := blk_lt bk; omega
  · rcases e with e | e
    · exact hB e.symm
    · exact h1 e
def z3 : Array Value := #[.int .u64 0, .int .i64 0, .int .i64 0]
def RdiRel (A B : Nat) (s : ByteArray) (v : Value) (m : Nat) (st : Nat × Nat × Nat) (bad : Bool) (W1 : World) (R : Nat) (nv iv : Value) (wr : World) : Prop :=
  ∃ (i : Nat) (v' : Value) (acc : Nat) (st' : Nat × Nat × Nat) (bad' : Bool), i ≤ m ∧ nv = .int .u64 (acc : Int) ∧ iv = .int .i64 (i : Int) ∧ Re wr A s B v' st' bad' ∧ Iv st' ∧
    gDir s.data.toList (m - i) acc st' bad' = gDir s.data.toList m 0 st bad ∧ acc < 2 ^ i ∧ st'.1 + 2 * (m - i) ≤ st.1 + 2 * m ∧ Chg (rfoot A B v) W1 wr ∧ Moved W1 v v' ∧ v'.ownBlock ≠ some R ∧ Blk wr R z3 43
set_option maxRecDepth 100000 in
set_option maxHeartbeats 4000000 in
theorem rgdir_zero (A : Nat) (s : ByteArray) (B : Nat) (v : Value) (st : Nat × Nat × Nat) (bad : Bool) (n : Int) (W : World) (h : Re W A s B v st bad) (hi : Iv st) (_hk : st.1 ≤ 80000) (_hs2 : s.size ≤ 100000) (hn : n ≤ 0) :
    Calls Try.prog 21 #[ptr A, .int .i64 n] W (RbPost A s B v (gDir s.data.toList (cl n) 0 st bad).1 (gDir s.data.toList (cl n) 0 st bad).2.1 (gDir s.data.toList (cl n) 0 st bad).2.2.1 (gDir s.data.toList (cl n) 0 st bad).2.2.2 W) := by
  obtain ⟨m, hm⟩ : ∃ m, m = cl n := ⟨_, rfl⟩
  have hm64 : m ≤ 64 := by rw [hm]; exact cl_le n
  have HM : Hid ((n < 0 ∧ m = 0) ∨ (64 < n ∧ m = 64) ∨ (0 ≤ n ∧ n ≤ 64 ∧ n = (m : Int))) := by show _ ∨ _; rw [hm]; unfold cl; (repeat' split) <;> omega
  rw [← hm]
  clear hm
  have H := Hid.intro h
  have HI := Hid.intro hi
  have hltA := re_lt h A (.inl rfl)
  have hltB := re_lt h B (.inr (.inl rfl))
  have HV := Hid.intro (fun (e : v.ownBlock = some W.heap.size) => by have := re_lt h _ (.inr (.inr e)); omega : v.ownBlock ≠ some W.heap.size)
  clear h hi
  have HM0 : Hid (m = 0) := by have := HM.out; show m = 0; omega
  have hmx : ¬ ((0 : Int) < if 64 < n then 64 else n) := by split <;> omega
  unfold ptr
  go_enter Try.func21, Try.ntmps21
  go_wp2_with fail
  all_goals
    go_loopw [5, 6] (fun nv iv wr => RdiRel A B s v m st bad (W.alloc (.cells #[.int .u64 0, .int .i64 0, .int .i64 0] 43)) W.heap.size nv iv wr) (fun _ iv _ => m - (intOf iv).toNat)
    case atStart => exact ⟨0, v, 0, st, bad, Nat.zero_le _, rfl, rfl, re_alloc H.out _, HI.out, rfl, by simp, Nat.le_refl _, chg_refl _ _, moved_refl _ _, HV.out, blk_new _ _ _⟩
    case round =>
      obtain ⟨i, v1, acc, st1, bad1, hin, rfl, rfl, d1, d2, d3, d4, d5, d6, d7, d8, d9⟩ := hrel
      by_cases hil : i < m
      · exfalso; have := HM0.out; omega
      · obtain rfl : i = m := by omega
        have hd2 : decide ((i : Int) < (i : Int)) = false := decide_eq_false (by omega)
        have hi0 : ¬ ((i : Int) < 0) := by omega
        rw [Nat.sub_self, gDir] at d3
        have b0 : wr.cell? ⟨W.heap.size, 0, none⟩ = some (.int .u64 0) := by rw [blk_cell d9]; rfl
        have b1 : wr.cell? ⟨W.heap.size, 1, none⟩ = some (.int .i64 0) := by rw [blk_cell d9]; rfl
        have b2 : wr.cell? ⟨W.heap.size, 2, none⟩ = some (.int .i64 0) := by rw [blk_cell d9]; rfl
        have fb := fun k => blk_free d9 k
        have hltR := blk_lt d9
        have D1 := Hid.intro d1
        have D3 := Hid.intro d3
        have D6 := Hid.intro d6
        have D7 := Hid.intro d7
        have D8 := Hid.intro d8
        have D9 := Hid.intro d9
        clear d1 d2 d3 d4 d5 d6 d7 d8 d9
        go_wp2
        obtain ⟨W2, hW2⟩ : ∃ W2, W2 = ((wr.setCell ⟨W.heap.size, 0, none⟩ (.int .u64 (acc : Int))).setCell ⟨W.heap.size, 1, none⟩ (.int .i64 0)).setCell ⟨W.heap.size, 2, none⟩ (.int .i64 0) := ⟨_, rfl⟩
        obtain ⟨⟨k1, k2, k3⟩, b3⟩ := rb_fin H.out _ D1.out D6.out D7.out D8.out _ _ _ _ _ _ D9.out W2 hW2
        rw [← hW2]
        have r0 := blk_cell b3 0
        have r1 := blk_cell b3 1
        have r2 := blk_cell b3 2
        rw [← D3.out]
        exact bodyPost_ret (v := agg3 acc 0) (by simp [results, Try.results21, go_sem, agg3, r0, r1, r2]) rfl ⟨rfl, v1, k1, k2, k3⟩
set_option maxRecDepth 100000 in
set_option maxHeartbeats 4000000 in
theorem rgdir_pos (A : Nat) (s : ByteArray) (B : Nat) (v : Value) (st : Nat × Nat × Nat) (bad : Bool) (n : Int) (W : World) (h : Re W A s B v st bad) (hi : Iv st) (hk : st.1 ≤ 80000) (hs2 : s.size ≤ 100000) (hn : 0 < n) :
    Calls Try.prog 21 #[ptr A, .int .i64 n] W (RbPost A s B v (gDir s.data.toList (cl n) 0 st bad).1 (gDir s.data.toList (cl n) 0 st bad).2.1 (gDir s.data.toList (cl n) 0 st bad).2.2.1 (gDir s.data.toList (cl n) 0 st bad).2.2.2 W) := by
  obtain ⟨m, hm⟩ : ∃ m, m = cl n := ⟨_, rfl⟩
  have hm64 : m ≤ 64 := by rw [hm]; exact cl_le n
  have HM : Hid ((n < 0 ∧ m = 0) ∨ (64 < n ∧ m = 64) ∨ (0 ≤ n ∧ n ≤ 64 ∧ n = (m : Int))) := by show _ ∨ _; rw [hm]; unfold cl; (repeat' split) <;> omega
  rw [← hm]
  clear hm
  have H := Hid.intro h
  have HI := Hid.intro hi
  have hltA := re_lt h A (.inl rfl)
  have hltB := re_lt h B (.inr (.inl rfl))
  have HV := Hid.intro (fun (e : v.ownBlock = some W.heap.size) => by have := re_lt h _ (.inr (.inr e)); omega : v.ownBlock ≠ some W.heap.size)
  clear h hi
  have hmx : (0 : Int) < if 64 < n then 64 else n := by split <;> omega
  unfold ptr
  go_enter Try.func21, Try.ntmps21
  go_wp2_with fail
  all_goals
    first
    | (have hE : (64 : Int) = (m : Int) := by have := HM.out; omega
       rw [hE]; clear hE)
    | (have hE : n = (m : Int) := by have := HM.out; omega
       rw [hE]; clear hE)
    | skip
    go_loopw [5, 6] (fun nv iv wr => RdiRel A B s v m st bad (W.alloc (.cells #[.int .u64 0, .int .i64 0, .int .i64 0] 43)) W.heap.size nv iv wr) (fun _ iv _ => m - (intOf iv).toNat)
    case atStart => exact ⟨0, v, 0, st, bad, Nat.zero_le _, rfl, rfl, re_alloc H.out _, HI.out, rfl, by simp, Nat.le_refl _, chg_refl _ _, moved_refl _ _, HV.out, blk_new _ _ _⟩
    case round =>
      obtain ⟨i, v1, acc, st1, bad1, hin, rfl, rfl, d1, d2, d3, d4, d5, d6, d7, d8, d9⟩ := hrel
      by_cases hil : i < m
      · have hd2 : decide ((i : Int) < (m : Int)) = true := decide_eq_true (by omega)
        have AH := ahead_any A s B v1 st1 bad1 wr d1 d2 (by omega) hs2
        have D1 := Hid.intro d1
        have D5 : Hid (st1.1 + 2 * (m - i) ≤ st.1 + 2 * m) := d5
        have D6 := Hid.intro d6
        have D7 := Hid.intro d7
        have D8 := Hid.intro d8
        have D9 := Hid.intro d9
        have hR0 := blk_lt d9
        have hA1 := re_lt d1 A (.inl rfl)
        have hB1 := re_lt d1 B (.inr (.inl rfl))
        obtain ⟨q, hq⟩ : ∃ q, m - i = q + 1 := ⟨m - i - 1, by omega⟩
        rw [hq, gDir] at d3
        by_cases h0 : (ovr s.data.toList st1 bad1).1 = 0
        · obtain ⟨e1, e2, e3⟩ := ovr_ok _ st1 bad1 h0
          rw [if_pos h0] at d3
          rw [e1] at AH d3
          have q1 : (st1.2.2 : Int) / 2 = ((st1.2.2 / 2 : Nat) : Int) := by omega
          have hp2 : (2 : Int) ^ 1 = 2 := rfl
          have RB : ∀ (x : Nat) (bb : Bool), dirN x (cl 1) st1 = dirS bb st1 → x < 18446744073709551616 → ∀ (w : World), Cs w B v1 st1 → Calls Try.prog 13 #[ptr B, .int .u64 x, .int .i64 1] w (CoPost B v1 (5 + (dirS bb st1).1) (dirS bb st1).2.1 (dirS bb st1).2.2 w) := by
            intro x bb e hx w hc
            have := rdir_any B v1 st1 x 1 w hc d2 (by omega) hx
            rwa [e] at this
          have hp63 : 2 ^ i ≤ 2 ^ 63 := Nat.pow_le_pow_right (by decide) (by omega)
          have h63 : (2 : Nat) ^ 63 = 9223372036854775808 := rfl
          have hacc : acc < 9223372036854775808 := by omega
          have hw : (acc : Int) * 2 % 18446744073709551616 = (acc : Int) * 2 := by omega
          have hw2 : IntKind.u64.wrap ((acc : Int) * 2) = (acc : Int) * 2 := by rw [IntKind.wrap_u64]; omega
          have HP : Hid (∀ b, b < 2 → acc * 2 + b < 2 ^ (i + 1)) := Hid.intro fun b hb => by rw [Nat.pow_succ]; omega
          clear hp63 h63 e1 e2 e3 h0
          generalize (ah s.data.toList st1).2 = d at *
          generalize st1.2.2 / 2 = r at *
          by_cases hrd : r ≤ d
          · have hri : (r : Int) ≤ (d : Int) := by omega
            have hrdd : decide ((r : Int) ≤ (d : Int)) = true := decide_eq_true hri
            rw [if_pos hrd, decide_eq_true hrd] at d3
            have HP := Hid.intro (HP.out 1 (by omega))
            clear hrd
            have D3 := Hid.intro d3
            have HS := Hid.intro (dirS_ok true st1 d2).1
            have HU := Hid.intro (dirS_up true st1)
            have RB := RB 1 true (by rw [show cl 1 = 1 from by decide]; rfl) (by decide)
            have ho := or_bit acc 1 hacc (by omega)
            have HO := Hid.intro ho
            have HRB := Hid.intro RB
            clear ho d1 d2 d3 d4 d5 d6 d7 d8 d9 hacc RB
            generalize dirS true st1 = st2 at *
            unfold AhPost agg3 ptr at AH
            go_wp2_with fail
            refine AH.mono ?_
            rintro e w1 ⟨rfl, k1, k2⟩
            have bk : Blk w1 W.heap.size #[.int .u64 0, .int .i64 0, .int .i64 0] 43 := blk_kept D9.out k2 (by omega)
            have k3 := re_alloc k1 (.cells #[.int .u64 (d : Int), .int .i64 0, .int .i64 0] 43)
            have bk3 := blk_alloc bk (.cells #[.int .u64 (d : Int), .int .i64 0, .int .i64 0] 43)
            have a1 : w1.cell? ⟨A, 1, none⟩ = some (ptr B) := by rw [blk_cell k1.1]; rfl
            have c1 : w1.cell? ⟨B, 1, none⟩ = some (.int .u64 (st1.2.2 : Int)) := by rw [blk_cell k1.2.1.1]; rfl
            have hltA := re_lt k1 A (.inl rfl)
            have hltB := re_lt k1 B (.inr (.inl rfl))
            have K1 := Hid.intro k3
            have K2 := Hid.intro (chg_alloc k2 (.cells #[.int .u64 (d : Int), .int .i64 0, .int .i64 0] 43))
            have BK := Hid.intro bk3
            clear k1 k2 bk AH k3 bk3
            unfold ptr at *
            go_wp2_with fail
            go_quiet (fail)
            have K1 := Hid.intro (show Re (World.drewN (w1.alloc (.cells #[.int .u64 (d : Int), .int .i64 0, .int .i64 0] 43)) nq) A s B v1 st1 false from K1.out)
            have K2 := Hid.intro (chg_drewN K2.out nq)
            have BK := Hid.intro (show Blk (World.drewN (w1.alloc (.cells #[.int .u64 (d : Int), .int .i64 0, .int .i64 0] 43)) nq) W.heap.size _ 43 from BK.out)
            clear a1 c1 hltA hltB q1
            generalize World.drewN (w1.alloc (.cells #[.int .u64 (d : Int), .int .i64 0, .int .i64 0] 43)) nq = W3 at *
            have a1 : W3.cell? ⟨A, 1, none⟩ = some (ptr B) := by rw [blk_cell K1.out.1]; rfl
            have hltA := re_lt K1.out A (.inl rfl)
            unfold ptr at *
            go_wp2_with fail
            refine (HRB.out W3 K1.out.2.1).mono ?_
            rintro e w5 ⟨rfl, v2, g1, g2, g3⟩
            have G := Hid.intro (r_step (by omega) D8.out D6.out D7.out K2.out K1.out BK.out g2 g3 g1)
            clear g1 g2 g3 a1 hltA
            go_wp2_with fail
            go_roundw
            case rel => exact ⟨i + 1, v2, acc * 2 + 1, st2, false, by omega, congrArg (Value.int .u64) HO.out, by go_num, G.out.1, HS.out, by rw [show m - (i + 1) = q from by omega]; exact D3.out, HP.out, by have := HU.out; have := D5.out; omega, G.out.2.1, G.out.2.2.1, G.out.2.2.2.1, G.out.2.2.2.2⟩
            case measure => simp [intOf]; omega
          · have hri : ¬ (r : Int) ≤ (d : Int) := by omega
            have hrdd : decide ((r : Int) ≤ (d : Int)) = false := decide_eq_false hri
            rw [if_neg hrd, decide_eq_false hrd] at d3
            have HP := Hid.intro (HP.out 0 (by omega))
            clear hrd
            have D3 := Hid.intro d3
            have HS := Hid.intro (dirS_ok false st1 d2).1
            have HU := Hid.intro (dirS_up false st1)
            have RB := RB 0 false (by rw [show cl 1 = 1 from by decide]; rfl) (by decide)
            have ho := or_bit acc 0 hacc (by omega)
            have HO := Hid.intro ho
            have HRB := Hid.intro RB
            clear ho d1 d2 d3 d4 d5 d6 d7 d8 d9 hacc RB
            generalize dirS false st1 = st2 at *
            unfold AhPost agg3 ptr at AH
            go_wp2_with fail
            refine AH.mono ?_
            rintro e w1 ⟨rfl, k1, k2⟩
            have bk : Blk w1 W.heap.size #[.int .u64 0, .int .i64 0, .int .i64 0] 43 := blk_kept D9.out k2 (by omega)
            have k3 := re_alloc k1 (.cells #[.int .u64 (d : Int), .int .i64 0, .int .i64 0] 43)
            have bk3 := blk_alloc bk (.cells #[.int .u64 (d : Int), .int .i64 0, .int .i64 0] 43)
            have a1 : w1.cell? ⟨A, 1, none⟩ = some (ptr B) := by rw [blk_cell k1.1]; rfl
            have c1 : w1.cell? ⟨B, 1, none⟩ = some (.int .u64 (st1.2.2 : Int)) := by rw [blk_cell k1.2.1.1]; rfl
            have hltA := re_lt k1 A (.inl rfl)
            have hltB := re_lt k1 B (.inr (.inl rfl))
            have K1 := Hid.intro k3
            have K2 := Hid.intro (chg_alloc k2 (.cells #[.int .u64 (d : Int), .int .i64 0, .int .i64 0] 43))
            have BK := Hid.intro bk3
            clear k1 k2 bk AH k3 bk3
            unfold ptr at *
            go_wp2_with fail
            go_quiet (fail)
            have K1 := Hid.intro (show Re (World.drewN (w1.alloc (.cells #[.int .u64 (d : Int), .int .i64 0, .int .i64 0] 43)) nq) A s B v1 st1 false from K1.out)
            have K2 := Hid.intro (chg_drewN K2.out nq)
            have BK := Hid.intro (show Blk (World.drewN (w1.alloc (.cells #[.int .u64 (d : Int), .int .i64 0, .int .i64 0] 43)) nq) W.heap.size _ 43 from BK.out)
            clear a1 c1 hltA hltB q1
            generalize World.drewN (w1.alloc (.cells #[.int .u64 (d : Int), .int .i64 0, .int .i64 0] 43)) nq = W3 at *
            have a1 : W3.cell? ⟨A, 1, none⟩ = some (ptr B) := by rw [blk_cell K1.out.1]; rfl
            have hltA := re_lt K1.out A (.inl rfl)
            unfold ptr at *
            go_wp2_with fail
            refine (HRB.out W3 K1.out.2.1).mono ?_
            rintro e w5 ⟨rfl, v2, g1, g2, g3⟩
            have G := Hid.intro (r_step (by omega) D8.out D6.out D7.out K2.out K1.out BK.out g2 g3 g1)
            clear g1 g2 g3 a1 hltA
            go_wp2_with fail
            go_roundw
            case rel => exact ⟨i + 1, v2, acc * 2 + 0, st2, false, by omega, congrArg (Value.int .u64) HO.out, by go_num, G.out.1, HS.out, by rw [show m - (i + 1) = q from by omega]; exact D3.out, HP.out, by have := HU.out; have := D5.out; omega, G.out.2.1, G.out.2.2.1, G.out.2.2.2.1, G.out.2.2.2.2⟩
            case measure => simp [intOf]; omega
        · obtain ⟨e1, e2⟩ := ovr_err _ st1 bad1 h0
          rw [if_neg h0] at d3
          rw [e1] at AH
          have hne : (((ovr s.data.toList st1 bad1).1 : Int) != 0) = true := by simpa using h0
          generalize (ovr s.data.toList st1 bad1).1 = er at *
          have D3 := Hid.intro d3
          clear e1 e2 h0 d1 d2 d3 d4 d5 d6 d7 d8 d9
          unfold AhPost agg3 ptr at AH
          go_wp2_with fail
          refine AH.mono ?_
          rintro e w1 ⟨rfl, k1, k2⟩
          have bk : Blk w1 W.heap.size #[.int .u64 0, .int .i64 0, .int .i64 0] 43 := blk_kept D9.out k2 (by omega)
          have b0 : w1.cell? ⟨W.heap.size, 0, none⟩ = some (.int .u64 0) := by rw [blk_cell bk]; rfl
          have b1 : w1.cell? ⟨W.heap.size, 1, none⟩ = some (.int .i64 0) := by rw [blk_cell bk]; rfl
          have b2 : w1.cell? ⟨W.heap.size, 2, none⟩ = some (.int .i64 0) := by rw [blk_cell bk]; rfl
          have fb := fun k => blk_free bk k
          have hltR := blk_lt bk
          have K1 := Hid.intro k1
          have K2 := Hid.intro k2
          have BK := Hid.intro bk
          clear k1 k2 bk AH
          go_wp2
          obtain ⟨W2, hW2⟩ : ∃ W2, W2 = ((w1.setCell ⟨W.heap.size, 0, none⟩ (.int .u64 0)).setCell ⟨W.heap.size, 1, none⟩ (.int .i64 0)).setCell ⟨W.heap.size, 2, none⟩ (.int .i64 (er : Int)) := ⟨_, rfl⟩
          obtain ⟨⟨k1, k2, k3⟩, b3⟩ := rb_fin H.out _ K1.out (chg_trans D6.out (chg_ah K2.out) (fun _ _ e => e)) D7.out D8.out _ _ _ _ _ _ BK.out W2 hW2
          rw [← hW2]
          have B4 := blk_alloc b3 (.cells #[.int .u64 0, .int .i64 0, .int .i64 (er : Int)] 43)
          have k4 := re_alloc k1 (.cells #[.int .u64 0, .int .i64 0, .int .i64 (er : Int)] 43)
          have k5 := chg_alloc k2 (.cells #[.int .u64 0, .int .i64 0, .int .i64 (er : Int)] 43)
          generalize W2.alloc (.cells #[.int .u64 0, .int .i64 0, .int .i64 (er : Int)] 43) = W4 at *
          have r0 := blk_cell B4 0
          have r1 := blk_cell B4 1
          have r2 := blk_cell B4 2
          rw [← D3.out]
          exact bodyPost_ret (v := agg3 0 er) (by simp [results, Try.results21, go_sem, agg3, r0, r1, r2]) rfl ⟨rfl, v1, k4, k5, k3⟩
      · obtain rfl : i = m := by omega
        have hd2 : decide ((i : Int) < (i : Int)) = false := decide_eq_false (by omega)
        rw [Nat.sub_self, gDir] at d3
        have b0 : wr.cell? ⟨W.heap.size, 0, none⟩ = some (.int .u64 0) := by rw [blk_cell d9]; rfl
        have b1 : wr.cell? ⟨W.heap.size, 1, none⟩ = some (.int .i64 0) := by rw [blk_cell d9]; rfl
        have b2 : wr.cell? ⟨W.heap.size, 2, none⟩ = some (.int .i64 0) := by rw [blk_cell d9]; rfl
        have fb := fun k => blk_free d9 k
        have hltR := blk_lt d9
        have D1 := Hid.intro d1
        have D3 := Hid.intro d3
        have D6 := Hid.intro d6
        have D7 := Hid.intro d7
        have D8 := Hid.intro d8
        have D9 := Hid.intro d9
        clear d1 d2 d3 d4 d5 d6 d7 d8 d9
        go_wp2
        obtain ⟨W2, hW2⟩ : ∃ W2, W2 = ((wr.setCell ⟨W.heap.size, 0, none⟩ (.int .u64 (acc : Int))).setCell ⟨W.heap.size, 1, none⟩ (.int .i64 0)).setCell ⟨W.heap.size, 2, none⟩ (.int .i64 0) := ⟨_, rfl⟩
        obtain ⟨⟨k1, k2, k3⟩, b3⟩ := rb_fin H.out _ D1.out D6.out D7.out D8.out _ _ _ _ _ _ D9.out W2 hW2
        rw [← hW2]
        have r0 := blk_cell b3 0
        have r1 := blk_cell b3 1
        have r2 := blk_cell b3 2
        rw [← D3.out]
        exact bodyPost_ret (v := agg3 acc 0) (by simp [results, Try.results21, go_sem, agg3, r0, r1, r2]) rfl ⟨rfl, v1, k1, k2, k3⟩
theorem rgdir_any (A : Nat) (s : ByteArray) (B : Nat) (v : Value) (st : Nat × Nat × Nat) (bad : Bool) (n : Int) (W : World) (h : Re W A s B v st bad) (hi : Iv st) (hk : st.1 ≤ 80000) (hs2 : s.size ≤ 100000) :
    Calls Try.prog 21 #[ptr A, .int .i64 n] W (RbPost A s B v (gDir s.data.toList (cl n) 0 st bad).1 (gDir s.data.toList (cl n) 0 st bad).2.1 (gDir s.data.toList (cl n) 0 st bad).2.2.1 (gDir s.data.toList (cl n) 0 st bad).2.2.2 W) := by
  by_cases hn : 0 < n
  · exact rgdir_pos A s B v st bad n W h hi hk hs2 hn
  · exact rgdir_zero A s B v st bad n W h hi hk hs2 (by omega)
theorem end_same (l : List UInt8) (st : Nat × Nat × Nat) (hi : Iv st) (h : (ah l st).1 = 0) : l = byt st ↔ ¬ (0 < (ah l st).2 ∨ 5 + st.1 < l.length) := by
  obtain ⟨a1, a2, a3, a4⟩ := ah_ok l st h
  have hL := iv_low hi
  have hP : 256 ^ (4 + st.1) ≤ 256 ^ (5 + st.1) := Nat.pow_le_pow_right (by decide) (by omega)
  constructor
  · intro e
    have hl : l.length = 5 + st.1 := by rw [e]; exact byt_len st
    have ht : l.take (5 + st.1) = byt st := by rw [List.take_of_length_le (by omega), e]
    have hn : num (l.take (5 + st.1)) = st.2.1 := by rw [ht]; unfold byt; rw [num_be, Nat.mod_eq_of_lt (by omega)]
    omega
  · intro e
    have hl : l.length = 5 + st.1 := by omega
    have hd : num (l.take (5 + st.1)) = st.2.1 := by omega
    rw [List.take_of_length_le (by omega)] at hd
    have := be_num (5 + st.1) l hl
    rw [hd] at this
    exact this.symm
theorem str_same (s : ByteArray) (l : List UInt8) : s = bs l ↔ s.data.toList = l := ⟨fun e => by rw [e]; exact bs_data l, fun e => by rw [← e]; exact (bs_list s).symm⟩
set_option maxRecDepth 100000 in
set_option maxHeartbeats 4000000 in
theorem rend_any (A : Nat) (s : ByteArray) (B : Nat) (v : Value) (st : Nat × Nat × Nat) (bad : Bool) (W : World) (h : Re W A s B v st bad) (hi : Iv st) (hk : st.1 ≤ 90000) (hs2 : s.size ≤ 100000) :
    Calls Try.prog 26 #[ptr A] W fun e W' => e = .returned (.int .i64 ((gEnd s.data.toList st bad).1 : Nat)) ∧ Re W' A s B v st (gEnd s.data.toList st bad).2 ∧ Chg (· = A) W W' := by
  have AH := ahead_any A s B v st bad W h hi hk hs2
  have H := Hid.intro h
  have hltA := re_lt h A (.inl rfl)
  have hltB := re_lt h B (.inr (.inl rfl))
  unfold gEnd
  by_cases h0 : (ovr s.data.toList st bad).1 = 0
  · obtain ⟨e1, e2, e3⟩ := ovr_ok _ st bad h0
    have ES := end_same _ st hi e2
    rw [← str_same] at ES
    rw [if_pos h0]
    rw [e1] at AH ⊢
    simp only at AH ⊢
    have RB := Hid.intro (fun (w : World) (hc : Cs w B v st) => (rbytes_any B v st w hc).mono (fun _ _ g => And.intro g.1 g.2.symm))
    clear e1 e2 e3 h0 h
    generalize (ah s.data.toList st).2 = d at *
    by_cases hs : s = bs (byt st)
    · rw [if_neg (ES.1 hs)]
      clear ES
      generalize bs (byt st) = S at *
      subst hs
      unfold AhPost agg3 ptr at AH
      unfold ptr at *
      go_enter Try.func26, Try.ntmps26
      go_wp2_with fail
      refine AH.mono ?_
      rintro e w1 ⟨rfl, k1, k2⟩
      have a0 : w1.cell? ⟨A, 0, none⟩ = some (.string s) := by rw [blk_cell k1.1]; rfl
      have a1 : w1.cell? ⟨A, 1, none⟩ = some (ptr B) := by rw [blk_cell k1.1]; rfl
      have hltA := re_lt k1 A (.inl rfl)
      have RB1 := fun (o : Obj) (n : Nat) => RB.out ((w1.alloc o).drewN n) (re_alloc k1 o).2.1
      have K1 := Hid.intro (re_alloc k1 (.cells #[.int .u64 (d : Int), .int .i64 0, .int .i64 0] 43))
      have K2 := Hid.intro (chg_alloc k2 (.cells #[.int .u64 (d : Int), .int .i64 0, .int .i64 0] 43))
      clear k1 k2 AH
      unfold ptr at *
      go_wp2_with fail
      go_quiet ((go_at_call 17; refine Calls.quiet_of_same (RB1 _ _)))
      go_wp2
      go_ret
      exact ⟨rfl, K1.out, chg_drewN K2.out _⟩
    · have hc := fun h => hs (ES.2 h)
      rw [if_pos (by exact Classical.not_not.1 hc)]
      clear ES hc
      generalize bs (byt st) = S at *
      have hsq : (s.toList == S.toList) = false := by
        rw [ByteArray.toList_eq, ByteArray.toList_eq]
        simp only [beq_eq_false_iff_ne, ne_eq]
        intro e
        exact hs (bytes_inj e)
      unfold AhPost agg3 ptr at AH
      unfold ptr at *
      go_enter Try.func26, Try.ntmps26
      go_wp2_with fail
      refine AH.mono ?_
      rintro e w1 ⟨rfl, k1, k2⟩
      have a0 : w1.cell? ⟨A, 0, none⟩ = some (.string s) := by rw [blk_cell k1.1]; rfl
      have a1 : w1.cell? ⟨A, 1, none⟩ = some (ptr B) := by rw [blk_cell k1.1]; rfl
      have a2 : w1.cell? ⟨A, 2, none⟩ = some (.bool false) := by rw [blk_cell k1.1]; rfl
      have f2 := blk_free k1.1 2
      have hltA := re_lt k1 A (.inl rfl)
      have RB1 := fun (o : Obj) (n : Nat) => RB.out ((w1.alloc o).drewN n) (re_alloc k1 o).2.1
      have K1 := Hid.intro (re_alloc k1 (.cells #[.int .u64 (d : Int), .int .i64 0, .int .i64 0] 43))
      have K2 := Hid.intro (chg_alloc k2 (.cells #[.int .u64 (d : Int), .int .i64 0, .int .i64 0] 43))
      clear k1 k2 AH
      unfold ptr at *
      go_wp2_with fail
      go_quiet ((go_at_call 17; refine Calls.quiet_of_same (RB1 _ _)))
      have K1 := Hid.intro (re_set (show Re (World.drewN (w1.alloc (.cells #[.int .u64 (d : Int), .int .i64 0, .int .i64 0] 43)) nq) A s B v st false from K1.out) true)
      have K2 := Hid.intro (chg_set (chg_drewN K2.out nq) ⟨A, 2, none⟩ (.bool true) (fun _ => rfl))
      go_wp2
      go_ret
      exact ⟨rfl, K1.out, K2.out⟩
  · obtain ⟨e1, e2⟩ := ovr_err _ st bad h0
    rw [if_neg h0]
    rw [e1] at AH
    simp only
    have hne : (((ovr s.data.toList st bad).1 : Int) != 0) = true := by simpa using h0
    generalize (ovr s.data.toList st bad).1 = er at *
    clear e1 e2 h0 h
    unfold AhPost agg3 ptr at AH
    unfold ptr
    go_enter Try.func26, Try.ntmps26
    go_wp2_with fail
    refine AH.mono ?_
    rintro e w1 ⟨rfl, k1, k2⟩
    have K1 := Hid.intro (re_alloc k1 (.cells #[.int .u64 0, .int .i64 0, .int .i64 (er : Int)] 43))
    have K2 := Hid.intro (chg_alloc k2 (.cells #[.int .u64 0, .int .i64 0, .int .i64 (er : Int)] 43))
    clear k1 k2 AH
    go_wp2
    go_ret
    exact ⟨rfl, K1.out, K2.out⟩
end Go.Proofs.Ytbmjehpkcelogaa
