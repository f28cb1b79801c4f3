/-
  The reference's coder: Bit, Direct, Bytes; one that a call owns.
-/
import Derived.Test.YtbmjehpkcelogaaRc
namespace Go.Proofs.Ytbmjehpkcelogaa
open Go.ChangeShapes Go.WideShapes Go.ChangeAt Go.RowKit
open Go.ChangeMaps (open_string shut_string)

/-- The reference's coder that has come to this. -/
def Cs (W : World) (A : Nat) (v : Value) (st : Nat × Nat × Nat) : Prop := Co W A v (5 + st.1) st.2.1 st.2.2
theorem co_put {W : World} {A : Nat} {v : Value} {n L R : Nat} (h : Co W A v n L R) (R' : Nat) : Co (W.setCell ⟨A, 1, none⟩ (.int .u64 (R' : Int))) A v n L R' :=
  ⟨blk_set h.1 1 _, own_kept (S := (· = A)) h.2.1 (chg_set (chg_refl _ _) _ _ (fun _ => rfl)) (fun k hk e => h.2.2 (by rw [hk, e])), h.2.2⟩
theorem chg_put (W : World) (A : Nat) (v u : Value) : Chg (foot A v) W (W.setCell ⟨A, 1, none⟩ u) := chg_set (chg_refl _ _) _ _ (fun _ => .inl rfl)
theorem moved_refl (W : World) (v : Value) : Moved W v v := fun _ h => .inl h
theorem moved_from {W W' : World} {v v' : Value} (h : Moved W' v v') (hs : W.heap.size ≤ W'.heap.size) : Moved W v v' := fun k hk => (h k hk).imp id (fun g => Nat.le_trans hs g)
theorem co_post_from {A : Nat} {v : Value} {n L R : Nat} {W W1 W' : World} {e : Ending} (h : CoPost A v n L R W1 e W') (g : Chg (foot A v) W W1) : CoPost A v n L R W e W' := by
  obtain ⟨h1, v', h2, h3, h4⟩ := h
  exact ⟨h1, v', h2, chg_trans g h3 (fun _ _ h => h), moved_from h4 (chg_size g)⟩
set_option maxRecDepth 100000 in
set_option maxHeartbeats 2000000 in
theorem rbit_any (A : Nat) (v : Value) (st : Nat × Nat × Nat) (p b : Int) (W : World) (h : Cs W A v st) (hi : Iv st) (hk : st.1 ≤ 90000) :
    Calls Try.prog 15 #[ptr A, .int .i64 p, .int .i64 b] W (CoPost A v (5 + (bitS p (decide (b ≠ 0)) st).1) (bitS p (decide (b ≠ 0)) st).2.1 (bitS p (decide (b ≠ 0)) st).2.2 W) := by
  obtain ⟨k, L, R⟩ := st
  obtain ⟨i1, i2, i3⟩ := hi
  simp only at i1 i2 i3 hk
  obtain ⟨b1, b2⟩ := bel_lt p R i1
  have h : Co W A v (5 + k) L R := h
  have C := fun (w : World) => (chance_any p w).mono (fun _ _ g => And.intro g.1 g.2.symm)
  have c1 : W.cell? ⟨A, 1, none⟩ = some (.int .u64 (R : Int)) := by rw [blk_cell h.1]; rfl
  have f1 := blk_free h.1 1
  have hlt := blk_lt h.1
  have hp12 : (2 : Int) ^ 12 = 4096 := rfl
  have q1 : (R : Int) / 4096 = ((R / 4096 : Nat) : Int) := by omega
  have hbel : ((R / 4096 : Nat) : Int) * ((cut p : Nat) : Int) = ((bel p R : Nat) : Int) := by unfold bel; rw [Int.natCast_mul]
  have hbi : ((bel p R : Nat) : Int) < 4294967296 := by omega
  have hbi2 : ((bel p R : Nat) : Int) < 18446744073709551616 := by omega
  have hw : IntKind.u64.wrap ((bel p R : Nat) : Int) = ((bel p R : Nat) : Int) := by rw [IntKind.wrap_u64]; omega
  have hsub : (R : Int) - ((bel p R : Nat) : Int) = ((R - bel p R : Nat) : Int) := by omega
  have hsi : ((R - bel p R : Nat) : Int) < 18446744073709551616 := by omega
  have G1 := fun (w : World) (hc : Co w A v (5 + k) L R) => grow_any A v (5 + k) L (bel p R) _ (co_put hc (bel p R)) (by omega) (by omega) (by omega)
  have AD := fun (w : World) (hc : Co w A v (5 + k) L R) => add_any A v (5 + k) L R (bel p R) w hc (by omega) (by omega) (by omega)
  have G2 := fun (w : World) (hc : Co w A v (5 + k) (L + bel p R) R) => grow_any A v (5 + k) (L + bel p R) (R - bel p R) _ (co_put hc (R - bel p R)) (by omega) (by omega) (by omega)
  by_cases hb : b ≠ 0
  · have e5 : 5 + (k + gr (bel p R)) = 5 + k + gr (bel p R) := by omega
    rw [decide_eq_true hb]
    simp only [bitS, if_true]
    unfold nar
    simp only
    rw [e5]
    have hb' : (b != 0) = true := by simpa using hb
    have HH := Hid.intro h
    have AD := Hid.intro AD
    have G1 := Hid.intro G1
    have G2 := Hid.intro G2
    clear i1 i2 i3 b1 b2 e5 h hsub hsi hb hk
    generalize bel p R = q at *
    generalize R / 4096 = q2 at *
    generalize cut p = cp at *
    unfold ptr at *
    go_enter Try.func15, Try.ntmps15
    go_wp2_with fail
    go_quiet ((go_at_call 36; refine Calls.quiet_of_same (C _)))
    have H1 := Hid.intro (show Co (W.drewN nq) A v (5 + k) L R from HH.out)
    have K1 := Hid.intro (show Chg (foot A v) W (W.drewN nq) from chg_refl _ _)
    clear HH c1 f1 hlt C
    generalize W.drewN nq = W1 at *
    have c1 : W1.cell? ⟨A, 1, none⟩ = some (.int .u64 (R : Int)) := by rw [blk_cell H1.out.1]; rfl
    have f1 := blk_free H1.out.1 1
    have hlt := blk_lt H1.out.1
    go_wp2_with fail
    refine (G1.out W1 H1.out).mono ?_
    rintro e w2 hp
    obtain ⟨hp1, hp2⟩ := co_post_from (co_post_from hp (chg_put W1 A v _)) K1.out
    subst hp1
    have HP := Hid.intro hp2
    clear hp2 hp
    go_wp2
    go_end0
    exact ⟨rfl, HP.out⟩
  · have hb0 : b = 0 := by omega
    subst hb0
    have e5 : 5 + (k + gr (R - bel p R)) = 5 + k + gr (R - bel p R) := by omega
    rw [decide_eq_false hb]
    simp only [bitS, Bool.false_eq_true, if_false]
    unfold nar
    simp only
    rw [e5]
    have HH := Hid.intro h
    have AD := Hid.intro AD
    have G1 := Hid.intro G1
    have G2 := Hid.intro G2
    clear i1 i2 i3 b1 b2 e5 h hb hk
    generalize bel p R = q at *
    generalize R - q = s at *
    generalize R / 4096 = q2 at *
    generalize cut p = cp at *
    unfold ptr at *
    go_enter Try.func15, Try.ntmps15
    go_wp2_with fail
    go_quiet ((go_at_call 36; refine Calls.quiet_of_same (C _)))
    have H1 := Hid.intro (show Co (W.drewN nq) A v (5 + k) L R from HH.out)
    have K1 := Hid.intro (show Chg (foot A v) W (W.drewN nq) from chg_refl _ _)
    clear HH c1 f1 hlt C
    generalize W.drewN nq = W1 at *
    go_wp2_with fail
    refine (AD.out W1 H1.out).mono ?_
    rintro e w2 ⟨rfl, a1, a2⟩
    have c1 : w2.cell? ⟨A, 1, none⟩ = some (.int .u64 (R : Int)) := by rw [blk_cell a1.1]; rfl
    have f1 := blk_free a1.1 1
    have hlt := blk_lt a1.1
    have A1 := Hid.intro a1
    have K2 := Hid.intro (chg_trans K1.out a2 (fun _ _ h => h))
    clear a1 a2
    go_wp2_with fail
    refine (G2.out w2 A1.out).mono ?_
    rintro e w3 hp
    obtain ⟨hp1, hp2⟩ := co_post_from (co_post_from hp (chg_put w2 A v _)) K2.out
    subst hp1
    have HP := Hid.intro hp2
    clear hp2 hp
    go_wp2
    go_end0
    exact ⟨rfl, HP.out⟩
theorem co_post_on {A : Nat} {v v1 : Value} {n L R : Nat} {W W1 W' : World} {e : Ending} (h : CoPost A v1 n L R W1 e W') (c : Chg (foot A v) W W1) (m : Moved W v v1) :
    e = .returned (.tuple #[]) ∧ ∃ v', Co W' A v' n L R ∧ Chg (foot A v) W W' ∧ Moved W v v' := by
  obtain ⟨h1, v', h2, h3, h4⟩ := h
  refine ⟨h1, v', h2, chg_trans c h3 (fun j hj e => e.elim .inl (fun e => (m j e).elim .inr (fun g => absurd hj (by omega)))), fun k hk => ?_⟩
  rcases h4 k hk with g | g
  · exact m k g
  · exact .inr (Nat.le_trans (chg_size c) g)
def RdRel (A : Nat) (v : Value) (x m : Nat) (st : Nat × Nat × Nat) (W : World) (iv : Value) (wr : World) : Prop :=
  ∃ (q : Nat) (v' : Value) (s : Nat × Nat × Nat), q ≤ m ∧ iv = .int .i64 ((q : Int) - 1) ∧ Cs wr A v' s ∧ dirN x q s = dirN x m st ∧ Iv s ∧ s.1 + 2 * q ≤ st.1 + 2 * m ∧ Chg (foot A v) W wr ∧ Moved W v v'
set_option maxRecDepth 100000 in
set_option maxHeartbeats 4000000 in
theorem rdir_any (A : Nat) (v : Value) (st : Nat × Nat × Nat) (x : Nat) (n : Int) (W : World) (hcs : Cs W A v st) (hi : Iv st) (hk : st.1 ≤ 90000) (hx : x < 18446744073709551616) :
    Calls Try.prog 13 #[ptr A, .int .u64 x, .int .i64 n] W (CoPost A v (5 + (dirN x (cl n) st).1) (dirN x (cl n) st).2.1 (dirN x (cl n) st).2.2 W) := by
  obtain ⟨m, hm⟩ : ∃ m, m = cl n := ⟨_, rfl⟩
  have hm64 : m ≤ 64 := by rw [hm]; exact cl_le n
  have HM : Hid ((n < 0 ∧ m = 0) ∨ (64 < n ∧ m = 64) ∨ (0 ≤ n ∧ n ≤ 64 ∧ n = (m : Int))) := by show _ ∨ _; rw [hm]; unfold cl; (repeat' split) <;> omega
  rw [← hm]
  clear hm
  have HX := Hid.intro hx
  clear hx
  unfold ptr
  go_enter Try.func13, Try.ntmps13
  go_wp2_with fail
  all_goals
    go_loopw [6] (fun iv wr => RdRel A v x m st W iv wr) (fun iv _ => (intOf iv + 1).toNat)
    case atStart => exact ⟨m, v, st, Nat.le_refl _, congrArg (Value.int .i64) (by have := HM.out; omega), hcs, rfl, hi, Nat.le_refl _, chg_refl _ _, moved_refl _ _⟩
    case round =>
      clear hcs
      obtain ⟨q, v1, s, hq, rfl, d1, d2, d3, d4, d5, d6⟩ := hrel
      rcases Nat.eq_zero_or_pos q with h0 | h0
      · subst h0
        have hn : ¬ (0 : Int) ≤ ((0 : Nat) : Int) - 1 := by omega
        go_wp2
        go_end0
        rw [← d2]
        exact ⟨rfl, v1, d1, d5, d6⟩
      · obtain ⟨i, rfl⟩ : ∃ i, q = i + 1 := ⟨q - 1, by omega⟩
        have hqi : (((i + 1 : Nat) : Int) - 1) = (i : Int) := by omega
        rw [hqi]
        have hge : (0 : Int) ≤ (i : Int) := by omega
        obtain ⟨k, L, R⟩ := s
        obtain ⟨i1, i2, i3⟩ := d3
        simp only at i1 i2 i3 d4
        have d1 : Co wr A v1 (5 + k) L R := d1
        have c1 : wr.cell? ⟨A, 1, none⟩ = some (.int .u64 (R : Int)) := by rw [blk_cell d1.1]; rfl
        have f1 := blk_free d1.1 1
        have hlt := blk_lt d1.1
        have q1 : (R : Int) / 2 = ((R / 2 : Nat) : Int) := by omega
        have hd : ((x : Int) / 2 ^ i) = ((x / 2 ^ i : Nat) : Int) := by simp
        have hand : bits .and .u64 ((x / 2 ^ i : Nat) : Int) 1 = ((x / 2 ^ i % 2 : Nat) : Int) := and_one _ (Nat.lt_of_le_of_lt (Nat.div_le_self _ _) HX.out)
        have htb : x.testBit i = decide (x / 2 ^ i % 2 = 1) := by rw [Nat.testBit_eq_decide_div_mod_eq]
        have P := co_put d1 (R / 2)
        have HST := Hid.intro (dirS_ok (x.testBit i) (k, L, R) ⟨i1, i2, i3⟩).1
        have HUP := Hid.intro (dirS_up (x.testBit i) (k, L, R))
        have D2 : Hid (dirN x i (dirS (x.testBit i) (k, L, R)) = dirN x m st) := d2
        have K1 := Hid.intro (And.intro (chg_trans d5 (chg_put wr A v1 (.int .u64 ((R / 2 : Nat) : Int))) (fun j hj e => e.elim (fun e => .inl e) (fun e => (d6 j e).elim (fun g => .inr g) (fun g => absurd hj (by omega))))) d6)
        have hlt2 := blk_lt P.1
        have c2 : (wr.setCell ⟨A, 1, none⟩ (.int .u64 ((R / 2 : Nat) : Int))).cell? ⟨A, 1, none⟩ = some (.int .u64 ((R / 2 : Nat) : Int)) := by rw [blk_cell P.1]; rfl
        have hR2 : 256 ≤ R / 2 ∧ R / 2 < 4294967296 := by omega
        have hRi : ((R / 2 : Nat) : Int) < 18446744073709551616 := by omega
        have hkn : 5 + k ≤ 900000 := by omega
        rcases Nat.mod_two_eq_zero_or_one (x / 2 ^ i) with hb | hb
        · have htb2 : x.testBit i = false := by rw [htb, hb]; rfl
          rw [htb2] at HST HUP D2
          rw [hb] at hand
          have G := grow_any A v1 (5 + k) L (R / 2) _ P hR2.1 hR2.2 hkn
          have HS : Hid (dirS false (k, L, R) = (k + gr (R / 2), L * 256 ^ gr (R / 2), R / 2 * 256 ^ gr (R / 2))) := rfl
          have e5 : 5 + (k + gr (R / 2)) = 5 + k + gr (R / 2) := by omega
          generalize dirS false (k, L, R) = s' at *
          have G : Calls Try.prog 33 #[ptr A] (wr.setCell ⟨A, 1, none⟩ (.int .u64 ((R / 2 : Nat) : Int))) (CoPost A v1 (5 + s'.1) s'.2.1 s'.2.2 (wr.setCell ⟨A, 1, none⟩ (.int .u64 ((R / 2 : Nat) : Int)))) := by rw [HS.out]; simp only; rw [e5]; exact G
          clear P HS e5 htb htb2 hb hR2 d1 d2 d5 d6 i1 i2 i3
          generalize x / 2 ^ i = y at *
          generalize R / 2 = r at *
          unfold ptr at G
          go_wp2_with fail
          refine G.mono ?_
          rintro e w2 hp
          obtain ⟨rfl, v2, p1, p2, p3⟩ := co_post_on hp K1.out.1 K1.out.2
          have HP := Hid.intro (And.intro p1 (And.intro p2 p3))
          clear hp p1 p2 p3 G
          go_wp2_with fail
          go_roundw
          case rel => exact ⟨i, v2, s', by omega, rfl, HP.out.1, D2.out, HST.out, by have : s'.1 ≤ k + 2 := HUP.out; omega, HP.out.2.1, HP.out.2.2⟩
          case measure => simp [intOf]
        · have htb2 : x.testBit i = true := by rw [htb, hb]; rfl
          rw [htb2] at HST HUP D2
          rw [hb] at hand
          have AD := add_any A v1 (5 + k) L (R / 2) (R / 2) _ P (by omega) (by omega) hR2.2
          have G := fun (w : World) (hc : Co w A v1 (5 + k) (L + R / 2) (R / 2)) => grow_any A v1 (5 + k) (L + R / 2) (R / 2) w hc hR2.1 hR2.2 hkn
          have HS : Hid (dirS true (k, L, R) = (k + gr (R / 2), (L + R / 2) * 256 ^ gr (R / 2), R / 2 * 256 ^ gr (R / 2))) := rfl
          have e5 : 5 + (k + gr (R / 2)) = 5 + k + gr (R / 2) := by omega
          generalize dirS true (k, L, R) = s' at *
          have G : Hid (∀ (w : World), Co w A v1 (5 + k) (L + R / 2) (R / 2) → Calls Try.prog 33 #[ptr A] w (CoPost A v1 (5 + s'.1) s'.2.1 s'.2.2 w)) := by
            refine Hid.intro fun w hc => ?_
            rw [HS.out]; simp only; rw [e5]; exact G w hc
          clear P HS e5 htb htb2 hb hR2 d1 d2 d5 d6 i1 i2 i3
          generalize x / 2 ^ i = y at *
          generalize R / 2 = r at *
          unfold ptr at G AD
          go_wp2_with fail
          refine AD.mono ?_
          rintro e w2 ⟨rfl, a1, a2⟩
          have K2 := Hid.intro (chg_trans K1.out.1 a2 (fun j hj e => e.elim (fun e => .inl e) (fun e => (K1.out.2 j e).elim (fun g => .inr g) (fun g => absurd hj (by omega)))))
          have A1 := Hid.intro a1
          clear a1 a2 AD
          go_wp2_with fail
          refine (G.out w2 A1.out).mono ?_
          rintro e w3 hp
          obtain ⟨rfl, v2, p1, p2, p3⟩ := co_post_on hp K2.out K1.out.2
          have HP := Hid.intro (And.intro p1 (And.intro p2 p3))
          clear hp p1 p2 p3 G
          go_wp2_with fail
          go_roundw
          case rel => exact ⟨i, v2, s', by omega, rfl, HP.out.1, D2.out, HST.out, by have : s'.1 ≤ k + 2 := HUP.out; omega, HP.out.2.1, HP.out.2.2⟩
          case measure => simp [intOf]
theorem rbytes_any (A : Nat) (v : Value) (st : Nat × Nat × Nat) (W : World) (h : Cs W A v st) :
    Calls Try.prog 17 #[ptr A] W fun e W' => e = .returned (.string (bs (byt st))) ∧ W = W' := by
  have c0 : W.cell? ⟨A, 0, none⟩ = some v := by rw [blk_cell h.1]; rfl
  have hcv := own_string h.2.1
  have hlt := blk_lt h.1
  obtain ⟨g, cap, cur, rfl, _, _, _, _, _⟩ := own_at h.2.1 (by omega)
  unfold ptr
  go_enter Try.func17, Try.ntmps17
  go_wp2
  go_ret
  exact ⟨rfl, rfl⟩
/-- The reference's coder that a call made since w. -/
def CO (w W : World) (A : Nat) (v : Value) (st : Nat × Nat × Nat) : Prop := Cs W A v st ∧ Up w.heap.size A v ∧ Iv st
theorem cow_kept {w W W' : World} {S : Nat → Prop} {A : Nat} {v : Value} {st : Nat × Nat × Nat} (h : CO w W A v st) (g : Chg S W W') (hS : ∀ k, foot A v k → ¬ S k) : CO w W' A v st := ⟨co_kept h.1 g hS, h.2⟩
theorem cow_lt {w W : World} {A : Nat} {v : Value} {st : Nat × Nat × Nat} (h : CO w W A v st) (k : Nat) (hk : foot A v k) : k < W.heap.size := co_lt h.1 k hk
theorem cnew_own {w W : World} (hb : Below w.heap.size w W) : Calls Try.prog 11 #[] W fun e W' => ∃ A v, e = .returned (ptr A) ∧ Up W.heap.size A v ∧ CO w W' A v st0 ∧ Below w.heap.size w W' ∧ Chg (fun _ => False) W W' := by
  refine (cnew_any W).mono ?_
  rintro e W' ⟨A, v, rfl, a1, a2, a3, a4⟩
  exact ⟨A, v, rfl, a3, ⟨a2, ⟨Nat.le_trans hb.size a3.1, fun k hk => Nat.le_trans hb.size (a3.2 k hk)⟩, iv0⟩, below_no hb a4, a4⟩
def CwPost (w W : World) (A : Nat) (v : Value) (st : Nat × Nat × Nat) (e : Ending) (W' : World) : Prop :=
  e = .returned (.tuple #[]) ∧ ∃ v', CO w W' A v' st ∧ Below w.heap.size w W' ∧ Chg (foot A v) W W' ∧ Moved W v v'
theorem rbit_own {w W : World} (A : Nat) (v : Value) (st : Nat × Nat × Nat) (p b : Int) (h : CO w W A v st) (hb : Below w.heap.size w W) (hk : st.1 ≤ 90000) (st' : Nat × Nat × Nat) (hs : bitS p (decide (b ≠ 0)) st = st') :
    Calls Try.prog 15 #[ptr A, .int .i64 p, .int .i64 b] W (CwPost w W A v st') := by
  subst hs
  refine (rbit_any A v st p b W h.1 h.2.2 hk).mono ?_
  rintro e W' ⟨rfl, v', k1, k2, k3⟩
  exact ⟨rfl, v', ⟨k1, up_moved h.2.1 k3 hb.size, (bitS_ok p _ st h.2.2).1⟩, below_foot hb k2 h.2.1, k2, k3⟩
theorem rdir_own {w W : World} (A : Nat) (v : Value) (st : Nat × Nat × Nat) (x : Nat) (n : Int) (h : CO w W A v st) (hb : Below w.heap.size w W) (hk : st.1 ≤ 90000) (hx : x < 18446744073709551616) (st' : Nat × Nat × Nat) (hs : dirN x (cl n) st = st') :
    Calls Try.prog 13 #[ptr A, .int .u64 x, .int .i64 n] W (CwPost w W A v st') := by
  subst hs
  refine (rdir_any A v st x n W h.1 h.2.2 hk hx).mono ?_
  rintro e W' ⟨rfl, v', k1, k2, k3⟩
  exact ⟨rfl, v', ⟨k1, up_moved h.2.1 k3 hb.size, (dirN_ok x _ st h.2.2).1⟩, below_foot hb k2 h.2.1, k2, k3⟩
end Go.Proofs.Ytbmjehpkcelogaa
