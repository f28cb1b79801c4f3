/-
  Get of parts by codes.
-/
import Derived.Test.YtlkebkchbgpnpaaHs
import Derived.Test.YtlkebkchbgpnpaaCd
import Derived.Test.YtlkebkchbgpnpaaRefHx
namespace Go.Proofs.Ytlkebkchbgpnpaa
open Go.ChangeShapes Go.WideShapes Go.ChangeAt Go.RowKit
open Go.ChangeMaps (open_string shut_string)

/-- What is left to be read makes the whole. -/
def RdAt (C : Nat → List Nat) (n : Nat) (T : List Nat) (ps : List (Nat × Nat)) (m : Nat) (B : List Nat) : Prop :=
  rdP C n T = if (rdP C m B).1 ≠ 0 then ((rdP C m B).1, [], []) else (0, ps ++ (rdP C m B).2.1, (rdP C m B).2.2)
theorem rd_zero (C : Nat → List Nat) : ∀ (n : Nat) (T : List Nat), RdAt C n T [] n T
  | 0, _ => rfl
  | n + 1, T => by
    unfold RdAt
    rw [rdP_succ]
    by_cases h1 : (prt C T).1 ≠ 0
    · simp only [if_pos h1]
    · simp only [if_neg h1]
      by_cases h2 : (rdP C n (prt C T).2.2).1 ≠ 0
      · simp only [if_pos h2]
      · simp only [if_neg h2]; rfl
theorem rd_err {C : Nat → List Nat} {n m : Nat} {T B : List Nat} {ps : List (Nat × Nat)} (h : RdAt C n T ps (m + 1) B) (he : (prt C B).1 ≠ 0) : rdP C n T = ((prt C B).1, [], []) := by
  unfold RdAt at h
  rw [rdP_succ, if_pos he] at h
  rw [h, if_pos he]
theorem rd_next {C : Nat → List Nat} {n m : Nat} {T B : List Nat} {ps : List (Nat × Nat)} (h : RdAt C n T ps (m + 1) B) (he : (prt C B).1 = 0) : RdAt C n T (ps ++ [(prt C B).2.1]) m (prt C B).2.2 := by
  have e := rdP_succ C m B
  rw [if_neg (fun h => h he)] at e
  unfold RdAt at h ⊢
  rw [e] at h
  by_cases h2 : (rdP C m (prt C B).2.2).1 ≠ 0
  · simp only [if_pos h2] at h ⊢; exact h
  · simp only [if_neg h2] at h ⊢
    rw [h]; simp
theorem rd_end {C : Nat → List Nat} {n : Nat} {T B : List Nat} {ps : List (Nat × Nat)} (h : RdAt C n T ps 0 B) : rdP C n T = (0, ps, B) := by
  unfold RdAt at h
  rw [h]
  simp [rdP]
theorem rs_eq (s : ByteArray) (a : Nat) (ha : a ≤ 8 * s.size) : rs s a = decide (((bts s.data.toList).drop a).length < 8 ∧ b2 ((bts s.data.toList).drop a) = 0) := by
  have hl : ((bts s.data.toList).drop a).length = 8 * s.size - a := by rw [List.length_drop, bts_len, len_data]
  unfold rs
  rw [got_bits, List.take_of_length_le (by omega), hl, Bool.eq_iff_iff]
  simp only [Bool.and_eq_true, decide_eq_true_eq]
  constructor
  · rintro ⟨h1, h2⟩; exact ⟨by omega, h2⟩
  · rintro ⟨h1, h2⟩; exact ⟨by omega, h2⟩
def HgRel (C : Nat → List Nat) (G : List Nat → Nat) (D : List Nat → Bool) (E : List Nat → Option Nat) (B0 R X Y n : Nat) (s : ByteArray) (w : World) (iv : Value) (wr : World) : Prop :=
  ∃ (i a' : Nat) (ps : List (Nat × Nat)), i ≤ n ∧ iv = .int .i64 i ∧ ps.length = i ∧ a' ≤ 8 * s.size ∧ Rd wr R s a' ∧ Tre wr B0 G D E ∧ Blk wr X #[.pointer (some ⟨R, 0, none⟩), .pointer (some ⟨G [], 0, none⟩)] 86 ∧
    wr.ownsRow w.heap.size 54 2 (.slice (some ⟨Y, 0, none⟩) n n) n (pvs (ps.map toI ++ List.replicate (n - i) (0, 0))) ∧ Below w.heap.size w wr ∧
    RdAt C n (bts s.data.toList) ps (n - i) ((bts s.data.toList).drop a')
theorem lt_above {w W : World} {B0 : Nat} {G : List Nat → Nat} {D : List Nat → Bool} {E : List Nat → Option Nat} (h : Tre W B0 G D E) (_b : Below w.heap.size w W) (P : List Nat) (hP : D P = true) : G P ≠ W.heap.size ∧ G P ≠ W.heap.size + 1 := by
  have := (tre_lt h P hP).2
  omega
set_option maxRecDepth 100000 in
set_option maxHeartbeats 2000000 in
theorem hget_any (a : Option Addr) (n0 cap : Nat) (f : List Int) (s : ByteArray) (n : Int) (w : World) (h : RI w a n0 f) (hn0 : n0 ≤ 100000) (hs : s.size ≤ 100000) :
    Calls Try.prog 12 #[.string s, .int .i64 n, .slice a n0 cap] w fun e w' => HgPost (getH f s.data.toList n) w e w' := by
  by_cases hm : mayL f = true
  · obtain ⟨m1, m2, m3⟩ := mayL_yes hm
    have CY := codes_yes a n0 cap f w (by have := h.1; rw [m1] at this; exact h) hm
    by_cases hn : n < 0 ∨ 4096 < n
    · have G : Unit → getH f s.data.toList n = (1, []) := fun _ => by unfold getH; rw [if_neg (by rw [hm]; decide), if_pos hn]
      generalize getH f s.data.toList n = g at *
      clear h hm m1 m2 m3
      by_cases h1 : n < 0
      · clear hn
        go_enter Try.func12, Try.ntmps12
        go_wp2_with fail
        with_reducible refine CY.mono ?_
        rintro e w1 ⟨v, rfl, k1, k2⟩
        have K2 := Hid.intro k2
        clear CY k1 k2
        go_wp2_with fail
        go_ret2
        rw [G ()]; exact hg_none K2.out
      · have h2 : 4096 < n := by omega
        clear hn
        go_enter Try.func12, Try.ntmps12
        go_wp2_with fail
        with_reducible refine CY.mono ?_
        rintro e w1 ⟨v, rfl, k1, k2⟩
        have K2 := Hid.intro k2
        clear CY k1 k2
        go_wp2_with fail
        go_ret2
        rw [G ()]; exact hg_none K2.out
    · obtain ⟨k, rfl⟩ : ∃ k : Nat, n = (k : Int) := ⟨n.toNat, by omega⟩
      have hk : k ≤ 4096 := by omega
      have HL := Hid.intro ((okL_iff (nat f)).1 m3)
      have GG : Unit → getH f s.data.toList (k : Int) = hget (codeB (nat f)) s.data.toList k := fun _ => by unfold getH; rw [if_neg (by rw [hm]; decide), if_neg hn]; rfl
      generalize getH f s.data.toList (k : Int) = g at *
      have TO : ∀ (R cp base : Nat) (V : World), V.ownsRow base 68 2 (.slice (some ⟨R, 0, none⟩) 65 cp) 65 (cvs (codesOf (nat f))) → Calls Try.prog 35 #[.slice (some ⟨R, 0, none⟩) 65 cp] V fun e w' => ∃ G D E, e = .returned (ptr (G [])) ∧ Tre w' V.heap.size G D E ∧ TSpec (codeB (nat f)) 65 D E ∧ Below V.heap.size V w' :=
        fun R cp base V o => treeOf_any (nat f) (nat_bd f m2) (ok_sum m3) R cp base V o
      have PFC : Hid (PF (codeB (nat f))) := codeB_pf (nat_bd f m2) (ok_sum m3)
      generalize codeB (nat f) = C at *
      generalize codesOf (nat f) = cod at *
      have HT := Hid.intro TO
      clear h hm m1 m2 m3 hn HL TO
      go_enter Try.func12, Try.ntmps12
      go_wp2_with fail
      with_reducible refine CY.mono ?_
      rintro e w1 ⟨v, rfl, k1, k2⟩
      obtain ⟨b, cp, rfl⟩ := own_slice k1 (by omega)
      have K1 := Hid.intro k1
      have K2 := Hid.intro k2
      clear CY k1 k2
      go_wp2_with fail
      refine (from_any s w1).mono ?_
      rintro e w2 ⟨rfl, r1, r2⟩
      have hRlt : w1.heap.size < w2.heap.size := blk_lt r1
      obtain ⟨R, hR⟩ : ∃ R, w1.heap.size = R := ⟨_, rfl⟩
      have HRW : Hid (w.heap.size ≤ R) := by rw [← hR]; exact K2.out.size
      rw [hR] at r1 hRlt
      simp only [hR]
      have TR := HT.out b cp 0 w2 (own_kept (own_low K1.out (Nat.zero_le _)) r2 (fun _ _ h => h))
      have B2 : Below w.heap.size w w2 := below_no K2.out r2
      have R1 := Hid.intro r1
      have B2' := Hid.intro B2
      clear r1 r2 hR B2 HT K1 K2
      unfold ptr
      go_wp2_with fail
      with_reducible refine TR.mono ?_
      rintro e w3 ⟨G, D, E, rfl, t1, t2, t3⟩
      clear TR
      have q1 : Rd w3 R s 0 := blk_below R1.out t3 hRlt
      have q2 : Below w.heap.size w w3 := B2'.out.trans (t3.mono B2'.out.size)
      have hX : Hid (w2.heap.size ≤ w3.heap.size) := t3.size
      have LA : Hid (∀ P, D P = true → G P ≠ w3.heap.size ∧ G P ≠ w3.heap.size + 1) := fun P hP => lt_above t1 q2 P hP
      have T2 := Hid.intro t2
      obtain ⟨root, hroot⟩ : ∃ root, G [] = root := ⟨_, rfl⟩
      have HRT := Hid.intro hroot
      have mk := make_parts k (by omega) (w3.alloc (.cells #[.pointer (some ⟨R, 0, none⟩), .pointer (some ⟨root, 0, none⟩)] 86))
      have ow := own_made_parts (w3.alloc (.cells #[.pointer (some ⟨R, 0, none⟩), .pointer (some ⟨root, 0, none⟩)] 86)) k (by omega)
      have sz : (w3.alloc (.cells #[.pointer (some ⟨R, 0, none⟩), .pointer (some ⟨root, 0, none⟩)] 86)).heap.size = w3.heap.size + 1 := by simp
      have bx := blk_alloc (blk_new w3 #[.pointer (some ⟨R, 0, none⟩), .pointer (some ⟨root, 0, none⟩)] 86) (.cells (madeCells #[.int .i64 0, .int .u64 0] (k * 2)) 54)
      have tr := tre_alloc (tre_alloc t1 (.cells #[.pointer (some ⟨R, 0, none⟩), .pointer (some ⟨root, 0, none⟩)] 86)) (.cells (madeCells #[.int .i64 0, .int .u64 0] (k * 2)) 54)
      have rd : Rd _ R s 0 := blk_alloc (blk_alloc q1 (.cells #[.pointer (some ⟨R, 0, none⟩), .pointer (some ⟨root, 0, none⟩)] 86)) (.cells (madeCells #[.int .i64 0, .int .u64 0] (k * 2)) 54)
      have q3 := (q2.alloc q2.size (.cells #[.pointer (some ⟨R, 0, none⟩), .pointer (some ⟨root, 0, none⟩)] 86)).alloc (by rw [sz]; have := q2.size; omega) (.cells (madeCells #[.int .i64 0, .int .u64 0] (k * 2)) 54)
      rw [sz] at mk ow
      have q2s := q2.size
      obtain ⟨X, hX2⟩ : ∃ X, w3.heap.size = X := ⟨_, rfl⟩
      simp only [hX2] at mk ow bx LA hX q2s
      obtain ⟨Y, hY⟩ : ∃ Y, X + 1 = Y := ⟨_, rfl⟩
      simp only [hY] at mk ow LA
      have hRX : R < X := by have := hX.out; omega
      have hXY : X < Y := by omega
      have ST : Hid (HgRel C G D E w2.heap.size R X Y k s w (.int .i64 0) (((w3.alloc (.cells #[.pointer (some ⟨R, 0, none⟩), .pointer (some ⟨root, 0, none⟩)] 86))).alloc (.cells (madeCells #[.int .i64 0, .int .u64 0] (k * 2)) 54))) := by
        refine ⟨0, 0, [], Nat.zero_le _, rfl, rfl, Nat.zero_le _, rd, tr, by rw [hroot]; exact bx, own_up ow (fun j hj => by simp [Value.ownBlock] at hj; omega), q3, ?_⟩
        rw [List.drop_zero, Nat.sub_zero]
        exact rd_zero _ _ _
      have HRw : Hid (w.heap.size ≤ R) := HRW.out
      clear t1 t2 t3 q1 q2 q3 bx tr rd ow q2s
      have HX2 := Hid.intro hX2
      have HY := Hid.intro hY
      have HRlt := Hid.intro hRlt
      rw [hroot]
      unfold ptr
      clear hroot sz hRlt
      go_wp2_with fail
      have hYw : Hid (w.heap.size ≤ Y) := by have := HRw.out; show _ ≤ _; omega
      clear mk hX2 hY
      go_loopw [36] (fun iv wr => HgRel C G D E w2.heap.size R X Y k s w iv wr) (fun iv _ => 4097 - (intOf iv).toNat)
      case atStart => exact ST.out
      case round =>
        clear ST
        obtain ⟨i, a', ps, hi, rfl, hps, ha', d1, d2, d3, d4, d5, d6⟩ := hrel
        rw [HRT.out] at d3
        have x0 : wr.cell? ⟨X, 0, none⟩ = some (.pointer (some ⟨R, 0, none⟩)) := by rw [blk_cell d3]; rfl
        have x1 : wr.cell? ⟨X, 1, none⟩ = some (.pointer (some ⟨root, 0, none⟩)) := by rw [blk_cell d3]; rfl
        by_cases hlt : i < k
        · have PA := part_any C PFC.out G D E w2.heap.size R s a' wr d2 T2.out HRlt.out d1 hs ha'
          rw [HRT.out] at PA
          obtain ⟨m, hm⟩ : ∃ m, k - i = m + 1 := ⟨k - i - 1, by omega⟩
          rw [hm] at d6 d4
          have PE : Hid ((prt C ((bts s.data.toList).drop a')).1 ≠ 0 → rdP C k (bts s.data.toList) = ((prt C ((bts s.data.toList).drop a')).1, [], [])) := fun h => rd_err d6 h
          have PN : Hid ((prt C ((bts s.data.toList).drop a')).1 = 0 → RdAt C k (bts s.data.toList) (ps ++ [(prt C ((bts s.data.toList).drop a')).2.1]) m (prt C ((bts s.data.toList).drop a')).2.2) := fun h => rd_next d6 h
          generalize prt C ((bts s.data.toList).drop a') = p at *
          obtain ⟨er, ⟨c, r⟩, Bs⟩ := p
          unfold PtPost at PA
          simp only at PE PN PA
          have HM := Hid.intro hm
          have D2 := Hid.intro d2
          have D3 := Hid.intro d3
          have D4 := Hid.intro d4
          have D5 := Hid.intro d5
          clear d1 d2 d3 d4 d5 d6 hm
          go_wp2_with fail
          with_reducible refine PA.mono ?_
          rintro e w5 ⟨rfl, a2, k1, k2, k3, k4⟩
          clear PA
          have o5 := own_kept D4.out k4 (fun j hj => by simp [Value.ownBlock] at hj; omega)
          obtain ⟨u0, v0, y0, y1, f0, f1⟩ := own_two o5 i hlt
          have e5 := own_set (own_set o5 (i * 2) (.int .i64 (c : Int))) (i * 2 + 1) (.int .u64 (r : Int))
          rw [pvs_set] at e5
          have se := set_end (ps.map toI) (toI (c, r)) (0, 0) m
          rw [List.length_map, hps] at se
          rw [show ((c : Int), (r : Int)) = toI (c, r) from rfl, se] at e5
          have c6 : Chg (· = Y) w5 ((w5.setCell ⟨Y, i * 2, none⟩ (.int .i64 (c : Int))).setCell ⟨Y, i * 2 + 1, none⟩ (.int .u64 (r : Int))) := chg_in (chg_in (chg_refl _ _) _ _) _ _
          have B6 := Hid.intro ((D5.out.trans (chg_below k4 D5.out.size (fun j hj => by have := HRw.out; omega))).trans (chg_below c6 (D5.out.trans (chg_below k4 D5.out.size (fun j hj => by have := HRw.out; omega))).size (fun j hj => by have := hYw.out; omega)))
          have R6 : Hid (Rd ((w5.setCell ⟨Y, i * 2, none⟩ (.int .i64 (c : Int))).setCell ⟨Y, i * 2 + 1, none⟩ (.int .u64 (r : Int))) R s a2) := blk_kept k2 c6 (by omega)
          have T6 := Hid.intro (tre_kept (tre_kept D2.out k4 (fun P hP e => by have := (tre_lt D2.out P hP).1; have := HRlt.out; omega)) c6 (fun P hP e => (LA.out P hP).2 e))
          have X6 := Hid.intro (blk_kept (blk_kept D3.out k4 (by omega)) c6 (by omega))
          have E5 := Hid.intro e5
          have K3 := Hid.intro k3
          clear o5 e5 se k2 k3 k4 x0 x1 D2 D3 D4 D5
          by_cases he : er = 0
          · subst he
            have K := Hid.intro (PN.out rfl)
            have KB := Hid.intro (K3.out rfl)
            clear c6 PE PN K3
            go_wp2_with fail
            go_roundw
            case rel =>
              refine ⟨i + 1, a2, ps ++ [(c, r)], hlt, by go_num, by simp [hps], k1, R6.out, T6.out, by rw [HRT.out]; exact X6.out, ?_, B6.out, ?_⟩
              · rw [show k - (i + 1) = m from by have := HM.out; omega, List.map_append]; exact E5.out
              · rw [show k - (i + 1) = m from by have := HM.out; omega, ← KB.out]; exact K.out
            case measure => simp [intOf]; omega
          · have t1 : ((er : Int) == 0) = false := by simp; omega
            have hd : decide (er = 0) = false := decide_eq_false he
            have G2 : Unit → g = (er, []) := fun _ => by rw [GG (), hget_err (PE.out he) he]
            clear c6 PE PN K3 he
            go_wp2_with fail
            go_ret2
            rw [G2 ()]; exact hg_none B6.out
        · obtain rfl : i = k := by omega
          rw [Nat.sub_self] at d4 d6
          have RS := rest_any R s a' wr d1 hs ha'
          rw [rs_eq s a' ha'] at RS
          unfold ptr at RS
          have G2 : Unit → g = if ((bts s.data.toList).drop a').length < 8 ∧ b2 ((bts s.data.toList).drop a') = 0 then (0, ps) else (3, []) := fun _ => by rw [GG (), hget_end (rd_end d6)]
          generalize ((bts s.data.toList).drop a') = Q at *
          have D4 := Hid.intro d4
          have D5 := Hid.intro d5
          clear d1 d2 d3 d4 d5 d6
          by_cases hq : Q.length < 8 ∧ b2 Q = 0
          · rw [decide_eq_true hq] at RS
            have G3 : Unit → g = (0, ps) := fun _ => by rw [G2 (), if_pos hq]
            clear G2 hq
            go_wp2_with fail
            with_reducible refine RS.mono ?_
            rintro e w5 ⟨rfl, k4⟩
            have o5 := own_kept D4.out k4 (fun _ _ h => h)
            have B5 := Hid.intro (below_no D5.out k4)
            obtain ⟨av, cpv, hv, v1, v2, v3⟩ := own_rp o5
            injection hv with h1 h2 h3
            subst h1 h3
            rw [List.replicate_zero, List.append_nil] at v3
            have V3 := Hid.intro v3
            clear RS k4 o5 v3 x0 x1
            go_wp2_with fail
            go_ret2
            rw [G3 ()]
            exact ⟨_, i, i, rfl, V3.out, hk, v1, v2, B5.out⟩
          · rw [decide_eq_false hq] at RS
            have G3 : Unit → g = (3, []) := fun _ => by rw [G2 (), if_neg hq]
            clear G2 hq
            go_wp2_with fail
            with_reducible refine RS.mono ?_
            rintro e w5 ⟨rfl, k4⟩
            have B5 := Hid.intro (below_no D5.out k4)
            clear RS k4 x0 x1
            go_wp2_with fail
            go_ret2
            rw [G3 ()]; exact hg_none B5.out
  · have hm' : mayL f = false := by simpa using hm
    have CN := codes_no a n0 cap f w h hn0 hm'
    have G : Unit → getH f s.data.toList n = (3, []) := fun _ => by unfold getH; rw [if_pos hm']
    generalize getH f s.data.toList n = g at *
    clear h hm hm'
    go_enter Try.func12, Try.ntmps12
    go_wp2_with fail
    with_reducible refine CN.mono ?_
    rintro e w1 ⟨rfl, rfl⟩
    clear CN
    go_wp2_with fail
    go_ret2
    rw [G ()]; exact hg_none (Below.refl _ _)
end Go.Proofs.Ytlkebkchbgpnpaa
