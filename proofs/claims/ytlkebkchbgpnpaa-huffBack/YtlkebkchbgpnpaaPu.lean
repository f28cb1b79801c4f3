/-
  The reference's Put of parts by codes.
-/
import Derived.Test.YtlkebkchbgpnpaaHu
import Derived.Test.YtlkebkchbgpnpaaKn
import Derived.BigRegion
namespace Go.Proofs.Ytlkebkchbgpnpaa
open Go.ChangeShapes Go.WideShapes Go.ChangeAt Go.RowKit
open Go.ChangeMaps (open_string shut_string)

theorem rput_own {w W : World} (A : Nat) (v : Value) (sz N x : Nat) (n : Int) (h : Ro W A v sz N) (hu : Up w.heap.size A v) (hb : Below w.heap.size w W) (hsz : sz ≤ 100000) (hx : x < 18446744073709551616)
    (sz' N' : Nat) (e1 : sz + cl n = sz') (e2 : N + x % 2 ^ cl n * 2 ^ sz = N') :
    Calls Try.prog 31 #[ptr A, .int .u64 x, .int .i64 n] W fun e W' => e = .returned (.tuple #[]) ∧ ∃ v', Ro W' A v' sz' N' ∧ Up w.heap.size A v' ∧ Below w.heap.size w W' ∧ Chg (foot A v) W W' ∧ Moved W v v' := by
  subst e1 e2
  refine (rput_any A v sz N x n W h hsz hx).mono ?_
  rintro e W' ⟨rfl, v', k1, k2, k3⟩
  exact ⟨rfl, v', k1, up_moved hu k3 hb.size, below_foot hb k2 hu, k2, k3⟩
set_option maxRecDepth 100000 in
theorem rrest_own {w W : World} (A : Nat) (v : Value) (sz N c r m : Nat) (h : Ro W A v sz N) (hu : Up w.heap.size A v) (hb : Below w.heap.size w W) (hsz : sz ≤ 100000) (hx : r < 18446744073709551616) (hm : c - 1 = m) (hc : c ≤ 64)
    (sz' N' : Nat) (e1 : sz + m = sz') (e2 : N + r % 2 ^ m * 2 ^ sz = N') :
    Calls Try.prog 32 #[.pointer (some ⟨A, 0, none⟩), .agg #[.int .i64 c, .int .u64 r]] W fun e W' => e = .returned (.tuple #[]) ∧ ∃ v', Ro W' A v' sz' N' ∧ Up w.heap.size A v' ∧ Below w.heap.size w W' := by
  have PO := rput_own (w := w) (W := W.alloc (.cells #[.int .i64 c, .int .u64 r] 54)) A v sz N r (m : Int) (ro_kept (S := fun _ => False) h (chg_alloc (chg_refl _ _) _) (fun _ _ h => h)) hu (hb.alloc hb.size _) hsz hx sz' N' (by rw [cl_nat m (by omega)]; exact e1) (by rw [cl_nat m (by omega)]; exact e2)
  unfold ptr at PO
  clear h hu hb hsz e1 e2
  by_cases h0 : c = 0
  · subst h0
    obtain rfl : m = 0 := by omega
    have PO2 : Calls Try.prog 31 #[.pointer (some ⟨A, 0, none⟩), .int .u64 r, .int .i64 0] (W.alloc (.cells #[.int .i64 0, .int .u64 r] 54)) fun e W' => e = .returned (.tuple #[]) ∧ ∃ v', Ro W' A v' sz' N' ∧ Up w.heap.size A v' ∧ Below w.heap.size w W' ∧ Chg (foot A v) (W.alloc (.cells #[.int .i64 0, .int .u64 r] 54)) W' ∧ Moved (W.alloc (.cells #[.int .i64 0, .int .u64 r] 54)) v v' := PO
    have hmx : max (0 : Int) (-1) = 0 := by decide
    clear PO
    go_enter Try.func32, Try.ntmps32
    go_wp2_with fail
    with_reducible refine PO2.mono ?_
    rintro e w1 ⟨rfl, v', k1, k2, k3, -, -⟩
    go_wp2_with fail
    go_returns
    exact ⟨rfl, v', k1, k2, k3⟩
  · have h1 : (c : Int) - 1 = (m : Int) := by omega
    by_cases hm0 : 0 < m
    · clear hm
      go_enter Try.func32, Try.ntmps32
      go_wp2_with fail
      with_reducible refine PO.mono ?_
      rintro e w1 ⟨rfl, v', k1, k2, k3, -, -⟩
      go_wp2_with fail
      go_returns
      exact ⟨rfl, v', k1, k2, k3⟩
    · obtain rfl : m = 0 := by omega
      have PO2 : Calls Try.prog 31 #[.pointer (some ⟨A, 0, none⟩), .int .u64 r, .int .i64 0] (W.alloc (.cells #[.int .i64 c, .int .u64 r] 54)) fun e W' => e = .returned (.tuple #[]) ∧ ∃ v', Ro W' A v' sz' N' ∧ Up w.heap.size A v' ∧ Below w.heap.size w W' ∧ Chg (foot A v) (W.alloc (.cells #[.int .i64 c, .int .u64 r] 54)) W' ∧ Moved (W.alloc (.cells #[.int .i64 c, .int .u64 r] 54)) v v' := PO
      clear hm PO
      go_enter Try.func32, Try.ntmps32
      go_wp2_with fail
      with_reducible refine PO2.mono ?_
      rintro e w1 ⟨rfl, v', k1, k2, k3, -, -⟩
      go_wp2_with fail
      go_returns
      exact ⟨rfl, v', k1, k2, k3⟩
theorem okPB_jok (L : List Nat) (c r : Int) (hr : 0 ≤ r) : okPB L (c, r) = (jok c r && decide (0 < at0 L c.toNat)) := by
  unfold okPB jok hi
  by_cases h0 : c = 0
  · subst h0
    rw [if_pos rfl, Bool.eq_iff_iff]
    simp only [Bool.and_eq_true, decide_eq_true_eq]
    constructor
    · rintro ⟨_, _, h3, h4⟩; exact ⟨by simp at h4; omega, h3⟩
    · rintro ⟨h3, h4⟩; exact ⟨by omega, by omega, h4, by rw [h3]; decide⟩
  · rw [if_neg h0, Bool.eq_iff_iff]
    simp only [Bool.and_eq_true, decide_eq_true_eq]
    constructor
    · rintro ⟨h1, h2, h3, h4⟩; exact ⟨⟨by omega, by omega, h4⟩, h3⟩
    · rintro ⟨⟨h1, h2, h3⟩, h4⟩; exact ⟨by omega, by omega, h4, h3⟩
def RhRel (L : List Nat) (ps : List (Int × Int)) (A : Nat) (w1 : World) (iv : Value) (wr : World) : Prop :=
  ∃ (i : Nat) (v : Value), i ≤ ps.length ∧ iv = .int .i64 i ∧ (ps.take i).all (okPB L) = true ∧ Ro wr A v (psB (codeB L) ((ps.take i).map toN)).length (b2 (psB (codeB L) ((ps.take i).map toN))) ∧ Up w1.heap.size A v ∧ Below w1.heap.size w1 wr
def RkRel (Q B : List Nat) (r n A Cb : Nat) (w1 : World) (kv : Value) (wr : World) : Prop :=
  ∃ (j : Nat) (z : Int) (v : Value), j ≤ n ∧ kv = .int .i64 z ∧ z + 1 = (j : Int) ∧ Ro wr A v (Q ++ B.take (n - j)).length (b2 (Q ++ B.take (n - j))) ∧ Up w1.heap.size A v ∧ (∀ k, foot A v k → k ≠ Cb) ∧
    Blk wr Cb #[.int .i64 r, .int .i64 n] 68 ∧ Below w1.heap.size w1 wr
/-- A result's two cells set: what stands there. -/
theorem rb_end {w w4 : World} {u v : Value} {t : TypeId} (b : Blk w4 w.heap.size #[u, v] t) (h : Below w.heap.size w w4) (x y : Value) :
    ((w4.setCell ⟨w.heap.size, 0, none⟩ x).setCell ⟨w.heap.size, 1, none⟩ y).cell? ⟨w.heap.size, 0, none⟩ = some x ∧ ((w4.setCell ⟨w.heap.size, 0, none⟩ x).setCell ⟨w.heap.size, 1, none⟩ y).cell? ⟨w.heap.size, 1, none⟩ = some y ∧
      Below w.heap.size w ((w4.setCell ⟨w.heap.size, 0, none⟩ x).setCell ⟨w.heap.size, 1, none⟩ y) := by
  have b2 := blk_set (blk_set b 0 x) 1 y
  exact ⟨by rw [blk_cell b2]; rfl, by rw [blk_cell b2]; rfl, Below.setCell (Below.setCell h (p := ⟨w.heap.size, 0, none⟩) (Nat.le_refl _) x) (p := ⟨w.heap.size, 1, none⟩) (Nat.le_refl _) y⟩
theorem rb_cells {w w4 : World} {u v : Value} {t : TypeId} (b : Blk w4 w.heap.size #[u, v] t) : w4.cell? ⟨w.heap.size, 0, none⟩ = some u ∧ w4.cell? ⟨w.heap.size, 1, none⟩ = some v ∧ w4.frozen? ⟨w.heap.size, 0, none⟩ = false ∧ w4.frozen? ⟨w.heap.size, 1, none⟩ = false :=
  ⟨by rw [blk_cell b]; rfl, by rw [blk_cell b]; rfl, blk_free b 0, blk_free b 1⟩
theorem b2_bit (Q : List Nat) (x : Nat) : b2 Q + x % 2 ^ cl 1 * 2 ^ Q.length = b2 (Q ++ [x % 2]) := by
  rw [b2_append]
  have : cl 1 = 1 := rfl
  rw [this, Nat.pow_one]; simp [b2]
theorem rp_cells2 {w wr : World} {x : Addr} {i : Nat} {u v : Value} (b : Below w.heap.size w wr) (h0 : w.cell? (x.add (i * 2)) = some u) (h1 : w.cell? (x.add (i * 2 + 1)) = some v) :
    wr.cell? (x.add (i * 2)) = some u ∧ wr.cell? ⟨(x.add (i * 2)).block, (x.add (i * 2)).off + 1, none⟩ = some v := by
  rw [← b.cell (World.block_lt_of_cell? _ _ h0)] at h0
  rw [← b.cell (World.block_lt_of_cell? _ _ h1), add_next] at h1
  exact ⟨h0, h1⟩
set_option maxRecDepth 100000 in
set_option maxHeartbeats 2000000 in
theorem rputh_any (al : Option Addr) (nl capl : Nat) (ps : List (Int × Int)) (a : Option Addr) (n0 cap : Nat) (f : List Int) (w : World) (hp : RP w al nl ps) (hf : ∀ p ∈ ps, 0 ≤ p.2 ∧ p.2 ≤ 18446744073709551615) (hnl : nl ≤ 1000) (h : RI w a n0 f) (hn0 : n0 ≤ 100000) :
    Calls Try.prog 11 #[.slice al nl capl, .slice a n0 cap] w fun e w' => e = .returned (.agg #[.string (bs (putH f ps).2), .int .i64 ((putH f ps).1 : Nat)]) ∧ Below w.heap.size w w' := by
  have b1 : Below w.heap.size w (w.alloc (.cells #[.string ⟨#[]⟩, .int .i64 0] 29)) := (Below.refl _ _).alloc (Nat.le_refl _) _
  have bk := blk_new w #[.string ⟨#[]⟩, .int .i64 0] 29
  have sz1 : (w.alloc (.cells #[.string ⟨#[]⟩, .int .i64 0] 29)).heap.size = w.heap.size + 1 := by simp
  by_cases hm : mayL f = true
  · obtain ⟨m1, m2, m3⟩ := mayL_yes hm
    have CY := rcanon_yes a n0 cap f _ (ri_below h b1) hm
    have GN : Unit → ps.all (okPB (nat f)) = false → putH f ps = (1, []) := fun _ g => by unfold putH; rw [if_neg (by rw [hm]; decide), if_neg (by rw [g]; decide)]
    have GY : Unit → ps.all (okPB (nat f)) = true → putH f ps = (0, hput (codeB (nat f)) (ps.map toN)) := fun _ g => by unfold putH; rw [if_neg (by rw [hm]; decide), if_pos g]
    have HBD := Hid.intro (nat_bd f m2)
    have HNA := Hid.intro (nat_at f m2)
    have HFIT : Hid (∀ c, c < 65 → (cat (codesOf (nat f)) c).1 < 2 ^ at0 (nat f) c) := fun c hc => code_fit (nat f) (nat_bd f m2) (ok_sum m3) c hc
    have HRI := Hid.intro h
    have hn65 : Hid (n0 = 65) := by show _ = _; rw [← h.1]; exact m1
    obtain ⟨L, hL⟩ : ∃ L, nat f = L := ⟨_, rfl⟩
    rw [hL] at CY HBD HFIT GN GY HNA
    generalize putH f ps = g at *
    have HX : Hid (0 < nl → ∃ x, al = some x ∧ ∀ i (h : i < ps.length), w.cell? (x.add (i * 2)) = some (.int .i64 ps[i].1) ∧ w.cell? (x.add (i * 2 + 1)) = some (.int .u64 ps[i].2)) := hp.2
    have HN : Hid (ps.length = nl) := hp.1
    have HF := Hid.intro hf
    have B1 := Hid.intro b1
    have BK := Hid.intro bk
    have SZ1 := Hid.intro sz1
    clear h hm m1 m2 m3 hp hf hL b1 bk sz1
    go_enter Try.func11, Try.ntmps11
    go_wp2_with fail
    with_reducible refine CY.mono ?_
    rintro e w2 ⟨v, rfl, k1, k2⟩
    obtain ⟨b, cp, rfl⟩ := own_slice k1 (by omega)
    have c7 := blk_new w2 #[.slice (some ⟨b, 0, none⟩) 65 cp, .int .i64 0] 74
    have o3 := World.ownsRow.alloc (own_low k1 (Nat.zero_le _)) (.cells #[.slice (some ⟨b, 0, none⟩) 65 cp, .int .i64 0] 74)
    have rb := blk_alloc (blk_below BK.out k2 (by rw [SZ1.out]; omega)) (.cells #[.slice (some ⟨b, 0, none⟩) 65 cp, .int .i64 0] 74)
    have hb2 := B1.out.trans (k2.mono B1.out.size)
    have hb3 := hb2.alloc hb2.size (.cells #[.slice (some ⟨b, 0, none⟩) 65 cp, .int .i64 0] 74)
    have hlt2 : w.heap.size < w2.heap.size := by have := k2.size; have := SZ1.out; omega
    have x1 : (w2.alloc (.cells #[.slice (some ⟨b, 0, none⟩) 65 cp, .int .i64 0] 74)).cell? ⟨w2.heap.size, 1, none⟩ = some (.int .i64 0) := by rw [blk_cell c7]; rfl
    have x2 := blk_free c7 1
    obtain ⟨C7, hC7⟩ : ∃ C7, w2.heap.size = C7 := ⟨_, rfl⟩
    rw [hC7] at c7 x1 x2 hlt2
    clear CY k1 k2 hb2
    obtain ⟨w3, hw3⟩ : ∃ w3, w2.alloc (.cells #[.slice (some ⟨b, 0, none⟩) 65 cp, .int .i64 0] 74) = w3 := ⟨_, rfl⟩
    rw [hw3] at c7 o3 rb hb3 x1 x2
    have sz3 : Hid (w3.heap.size = C7 + 1) := by show _ = _; rw [← hw3, ← hC7]; simp
    have C7B := Hid.intro c7
    have O3 := Hid.intro o3
    have RB := Hid.intro rb
    have HB3 := Hid.intro hb3
    clear c7 o3 rb hb3
    have hset : w3.setCell ⟨C7, 1, none⟩ (.int .i64 0) = w3 := by rw [← hw3, ← hC7, World.setCell_alloc_new]; rfl
    obtain ⟨A, hA⟩ : ∃ A, w3.heap.size = A := ⟨_, rfl⟩
    have HA := Hid.intro hA
    have ST : Hid (RhRel L ps A w3 (.int .i64 0) (w3.alloc (.cells #[.slice none 0 0] 78))) :=
      ⟨0, .slice none 0 0, Nat.zero_le _, rfl, rfl, ⟨by rw [← hA]; exact blk_new _ _ _, World.ownsRow_nil _ _ _ _, by simp [Value.ownBlock], by simp [psB, b2]⟩, up_nil _ _ (by omega), (Below.refl _ _).alloc (Nat.le_refl _) _⟩
    go_wp2_with fail
    clear x1 x2 hA hC7 hw3 hset
    go_loopw [7] (fun iv wr => RhRel L ps A w3 iv wr) (fun iv _ => 1001 - (intOf iv).toNat)
    case atStart => exact ST.out
    case round =>
      clear ST
      obtain ⟨i, v, hi, rfl, d1, d2, d3, d4⟩ := hrel
      have hin : i ≤ nl := by rw [← HN.out]; exact hi
      have B0 : Below w.heap.size w wr := HB3.out.trans (d4.mono HB3.out.size)
      by_cases hlt : i < nl
      · obtain ⟨x, rfl, hx⟩ := HX.out (by omega)
        have hl : i < ps.length := by rw [HN.out]; exact hlt
        obtain ⟨x0', x1'⟩ := hx i hl
        obtain ⟨x0, x1⟩ := rp_cells2 B0 x0' x1'
        have hr := HF.out ps[i] (List.getElem_mem hl)
        have TK : Hid (ps.take (i + 1) = ps.take i ++ [ps[i]]) := take_snoc ps i hl
        have GF : Hid (okPB L ps[i] = false → ps.all (okPB L) = false) := fun h => by
          rw [List.all_eq_false]
          exact ⟨_, List.getElem_mem hl, by rw [h]; decide⟩
        obtain ⟨⟨c, r0⟩, hpp⟩ : ∃ p, ps[i] = p := ⟨_, rfl⟩
        rw [hpp] at x0 x1 x0' x1' hr TK GF
        simp only at x0 x1 x0' x1' hr
        obtain ⟨r, rfl⟩ : ∃ r : Nat, r0 = (r : Int) := ⟨r0.toNat, by omega⟩
        have hr64 : r < 18446744073709551616 := by omega
        have MP := mayPart_any c (r : Int) wr (by omega)
        have HJ := Hid.intro (okPB_jok L c (r : Int) (by omega))
        have X0 := Hid.intro x0'
        have X1 := Hid.intro x1'
        have D1 := Hid.intro d1
        have D2 := Hid.intro d2
        have D3 := Hid.intro d3
        have D4 := Hid.intro d4
        clear hx hpp x0' x1' d1 d2 d3 d4 B0
        go_wp2_with fail
        with_reducible refine MP.mono ?_
        rintro e w4 ⟨rfl, hw4⟩
        have bw : Below wr.heap.size wr w4 := by rw [hw4]; exact (Below.refl _ _).alloc (Nat.le_refl _) _
        have D5 := Hid.intro (D4.out.trans (bw.mono D4.out.size))
        have B5 : Hid (Below w.heap.size w w4) := HB3.out.trans (D5.out.mono HB3.out.size)
        have R5 := Hid.intro (ro_kept (S := fun _ => False) D2.out (chg_of bw) (fun _ _ h => h))
        have rb5 := blk_below RB.out D5.out (by have := sz3.out; omega)
        have hlt4 : A < w4.heap.size := ro_lt R5.out A (.inl rfl)
        clear MP hw4 bw x0 x1 D2 D4
        cases hj : jok c (r : Int) with
        | false =>
          have G2 : Unit → g = (1, []) := fun _ => GN () (GF.out (by rw [HJ.out, hj]; rfl))
          obtain ⟨r0, r1, f0, f1⟩ := rb_cells rb5
          obtain ⟨q0, q1, q2⟩ := rb_end rb5 B5.out (.string ⟨#[]⟩) (.int .i64 1)
          have Q2 := Hid.intro q2
          clear GN GY GF rb5 q2
          go_wp2_with fail
          refine bodyPost_ret (v := .agg #[.string ⟨#[]⟩, .int .i64 1]) (by simp [results, Try.results11, go_sem, q0, q1]) rfl ?_
          rw [G2 ()]; exact ⟨rfl, Q2.out⟩
        | true =>
          obtain ⟨k, hck, hk⟩ : ∃ k : Nat, c = (k : Int) ∧ k < 65 := by
            by_cases h0 : c < 0 ∨ 64 < c
            · rw [jokOut c r h0] at hj; cases hj
            · exact ⟨c.toNat, by omega, by omega⟩
          subst hck
          obtain ⟨x0, x1⟩ := rp_cells2 B5.out X0.out X1.out
          obtain ⟨xl, rfl, cl0⟩ := ri_at HRI.out k (by rw [hn65.out]; exact hk)
          rw [HNA.out k] at cl0
          have cl1 : w4.cell? (xl.add k) = some (.int .i64 (at0 L k : Int)) := by rw [B5.out.cell (World.block_lt_of_cell? _ _ cl0)]; exact cl0
          have OK : Hid (okPB L ((k : Int), (r : Int)) = decide (0 < at0 L k)) := by
            show _ = _
            rw [HJ.out, hj, Bool.true_and]; rfl
          have h15 := HBD.out k
          have hfit := HFIT.out k hk
          have hcb : Hid (codeB L k = msb (at0 L k) (cat (codesOf L) k).1) := rfl
          have o5 := own_below O3.out D5.out (fun k hk => (O3.out.lt k hk).2)
          obtain ⟨g1, g2, -, -⟩ := cv_cells o5 k hk
          rw [code_len L HBD.out k hk] at g2
          generalize (cat (codesOf L) k).1 = rc at *
          generalize at0 L k = n at *
          have hkn : k < n0 := by rw [hn65.out]; exact hk
          by_cases hn : n = 0
          · subst hn
            have G2 : Unit → g = (1, []) := fun _ => GN () (GF.out (by rw [OK.out]; rfl))
            obtain ⟨r0, r1, f0, f1⟩ := rb_cells rb5
            obtain ⟨q0, q1, q2⟩ := rb_end rb5 B5.out (.string ⟨#[]⟩) (.int .i64 1)
            have Q2 := Hid.intro q2
            clear GN GY GF rb5 q2 cl0 o5 g1 g2 hfit hj
            go_wp2_with fail
            refine bodyPost_ret (v := .agg #[.string ⟨#[]⟩, .int .i64 1]) (by simp [results, Try.results11, go_sem, q0, q1]) rfl ?_
            rw [G2 ()]; exact ⟨rfl, Q2.out⟩
          · have c7 := blk_below C7B.out D5.out (by have := sz3.out; omega)
            have y0 : w4.cell? ⟨C7, 0, none⟩ = some (.slice (some ⟨b, 0, none⟩) 65 cp) := by rw [blk_cell c7]; rfl
            have t1 : ((n : Int) == 0) = false := by simp; omega
            have hd : decide (n = 0) = false := decide_eq_false hn
            clear cl0 o5 hj c7 rb5
            go_wp2_with fail
            have hk65 : (k : Int) < 65 := by omega
            have hk0 : (0 : Int) ≤ (k : Int) := by omega
            have ba : Below w4.heap.size w4 (w4.alloc (.cells #[.int .i64 0, .int .i64 0] 68)) := (Below.refl _ _).alloc (Nat.le_refl _) _
            have x0a : (w4.alloc (.cells #[.int .i64 0, .int .i64 0] 68)).cell? (x.add (i * 2)) = some (.int .i64 (k : Int)) := by rw [ba.cell (World.block_lt_of_cell? _ _ x0)]; exact x0
            have g1a : (w4.alloc (.cells #[.int .i64 0, .int .i64 0] 68)).cell? ⟨b, k * 2, none⟩ = some (.int .i64 (rc : Int)) := by rw [ba.cell (World.block_lt_of_cell? _ _ g1)]; exact g1
            have g2a : (w4.alloc (.cells #[.int .i64 0, .int .i64 0] 68)).cell? ⟨b, k * 2 + 1, none⟩ = some (.int .i64 (n : Int)) := by rw [ba.cell (World.block_lt_of_cell? _ _ g2)]; exact g2
            have y0a : (w4.alloc (.cells #[.int .i64 0, .int .i64 0] 68)).cell? ⟨C7, 0, none⟩ = some (.slice (some ⟨b, 0, none⟩) 65 cp) := by rw [ba.cell (World.block_lt_of_cell? _ _ y0)]; exact y0
            clear ba
            go_region
            all_goals
              clear x0a g1a g2a y0a y0
              go_wp2_with fail
              obtain ⟨Q, hQ⟩ : ∃ Q, psB (codeB L) ((ps.take i).map toN) = Q := ⟨_, rfl⟩
              have HQ := Hid.intro hQ
              have QL : Hid (Q.length ≤ 78000) := by
                show _ ≤ _
                rw [← hQ]
                have h1 := psB_le (C := codeB L) (fun c => by rw [codeB_len]; exact HBD.out c) ((ps.take i).map toN) (fun p hp => by
                  obtain ⟨q, hq, rfl⟩ := List.mem_map.1 hp
                  obtain ⟨d, e1, e2, _⟩ := okPB_yes (List.all_eq_true.1 D1.out q hq)
                  unfold toN; simp only; omega)
                rw [List.length_map, List.length_take] at h1
                omega
              have r5 := R5.out
              rw [hQ] at r5
              have bc := blk_new w4 #[.int .i64 (rc : Int), .int .i64 (n : Int)] 68
              have NF : Hid (∀ k, foot A v k → k ≠ w4.heap.size) := fun k hk => by have := ro_lt R5.out k hk; omega
              obtain ⟨Cb, hCb⟩ : ∃ Cb, w4.heap.size = Cb := ⟨_, rfl⟩
              rw [hCb] at bc NF
              simp only [hCb]
              have ST2 : Hid (RkRel Q (msb n rc) rc n A Cb w3 (.int .i64 ((n : Int) - 1)) (w4.alloc (.cells #[.int .i64 (rc : Int), .int .i64 (n : Int)] 68)).drew) := by
                refine ⟨n, (n : Int) - 1, v, Nat.le_refl _, rfl, by omega, ?_, D3.out, NF.out, blk_drew bc, (D5.out.alloc D5.out.size _).drew⟩
                rw [Nat.sub_self, List.take_zero, List.append_nil]
                exact ro_kept (S := fun _ => False) r5 (chg_drew (chg_alloc (chg_refl _ _) _)) (fun _ _ h => h)
              have X2 := Hid.intro x1
              have hrc : rc ≤ 100000 := by
                have : 2 ^ n ≤ 2 ^ 15 := Nat.pow_le_pow_right (by decide) h15
                omega
              have HOK := Hid.intro hn
              clear x0 x1 g1 g2 t1 hd hk65 hk0 hQ r5 bc hfit hn cl1 hCb
              go_loopw [9] (fun kv wr => RkRel Q (msb n rc) rc n A Cb w3 kv wr) (fun kv _ => (intOf kv + 1).toNat)
              case atStart => exact ST2.out
              case round =>
                clear ST2
                obtain ⟨j, z, v2, hj, rfl, hz, e1, e2, e3, e4, e5⟩ := hrel
                by_cases hj0 : 0 < j
                · obtain ⟨m, rfl⟩ : ∃ m, j = m + 1 := ⟨j - 1, by omega⟩
                  have hzm : z = (m : Int) := by omega
                  subst hzm
                  have TB := take_succ_get (msb_get n rc (n - (m + 1)) (by omega))
                  rw [show n - 1 - (n - (m + 1)) = m from by omega, show n - (m + 1) + 1 = n - m from by omega] at TB
                  obtain ⟨P, hP⟩ : ∃ P, (msb n rc).take (n - (m + 1)) = P := ⟨_, rfl⟩
                  rw [hP] at e1 TB
                  have PLn : P.length ≤ 15 := by rw [← hP, List.length_take, msb_len]; omega
                  have hy : (rc : Int) / 2 ^ m = ((rc / 2 ^ m : Nat) : Int) := by simp
                  have hyle : rc / 2 ^ m ≤ rc := Nat.div_le_self _ _
                  generalize rc / 2 ^ m = y at *
                  have c0 : wr.cell? ⟨Cb, 0, none⟩ = some (.int .i64 (rc : Int)) := by rw [blk_cell e4]; rfl
                  have PO := rput_own (w := w3) A v2 _ _ y 1 e1 e2 e5 (by rw [List.length_append]; have := QL.out; omega) (by omega) ((Q ++ (P ++ [y % 2])).length) (b2 (Q ++ (P ++ [y % 2]))) (by rw [show cl 1 = 1 from rfl]; simp; omega) (by rw [b2_bit, List.append_assoc])
                  unfold ptr at PO
                  have HTB := Hid.intro TB
                  have E3 := Hid.intro e3
                  have E4 := Hid.intro e4
                  have hltC := blk_lt e4
                  clear e1 e2 e3 e4 e5 TB hP
                  go_wp2_with fail
                  with_reducible refine PO.mono ?_
                  rintro e w6 ⟨rfl, v3, k1, k2, k3, k4, k5⟩
                  have N3 := Hid.intro (foot_stays (S := fun k => k ≠ Cb) E3.out k5 (fun k hk => by omega))
                  have F7 := Hid.intro (blk_kept E4.out k4 (fun h => E3.out _ h rfl))
                  have K1' := Hid.intro k1
                  have K2' := Hid.intro k2
                  have K3' := Hid.intro k3
                  clear PO k1 k2 k3 k4 k5 c0
                  go_wp2_with fail
                  go_roundw
                  case rel => exact ⟨m, _, v3, by omega, rfl, by omega, by rw [HTB.out]; exact K1'.out, K2'.out, N3.out, F7.out, K3'.out⟩
                  case measure => simp [intOf] <;> omega
                · obtain rfl : j = 0 := by omega
                  have hz1 : z = -1 := by omega
                  subst hz1
                  have TB : (msb n rc).take (n - 0) = msb n rc := List.take_of_length_le (by rw [msb_len]; omega)
                  rw [TB] at e1
                  obtain ⟨m, hm⟩ : ∃ m, k - 1 = m := ⟨_, rfl⟩
                  have EQ : Hid (psB (codeB L) ((ps.take (i + 1)).map toN) = (Q ++ msb n rc) ++ lsb m r) := by
                    show _ = _
                    rw [TK.out, List.map_append, List.map_singleton, psB_snoc, HQ.out]
                    unfold toN
                    simp only [Int.toNat_natCast]
                    rw [hcb.out, hm, List.append_assoc]
                  have PO := rrest_own (w := w3) A v2 _ _ k r m e1 e2 e5 (by rw [List.length_append, msb_len]; have := QL.out; omega) hr64 hm (by omega) (((Q ++ msb n rc) ++ lsb m r).length) (b2 ((Q ++ msb n rc) ++ lsb m r)) (by simp only [List.length_append, lsb_len]) (by rw [b2_append _ (lsb m r), b2_lsb])
                  obtain ⟨x0, x1⟩ := rp_cells2 (HB3.out.trans (e5.mono HB3.out.size)) X0.out X1.out
                  clear e1 e2 e3 e4 e5 TB hm
                  go_wp2_with fail
                  with_reducible refine PO.mono ?_
                  rintro e w6 ⟨rfl, v3, g1, g2, g3⟩
                  have G1 := Hid.intro g1
                  have G2 := Hid.intro g2
                  have G3 := Hid.intro g3
                  clear PO g1 g2 g3 x0 x1
                  go_wp2_with fail
                  go_roundw
                  case rel => exact ⟨i + 1, v3, hl, by go_num, by rw [TK.out, List.all_append, D1.out, List.all_cons, OK.out, decide_eq_true (Nat.pos_of_ne_zero HOK.out)]; rfl, by rw [EQ.out]; exact G1.out, G2.out, G3.out⟩
                  case measure => simp [intOf]; omega
      · obtain rfl : i = nl := by omega
        have TKA : ps.take i = ps := by rw [← HN.out]; exact List.take_length
        rw [TKA] at d1 d2
        have QL : (psB (codeB L) (ps.map toN)).length ≤ 78000 := by
          have h1 := psB_le (C := codeB L) (fun c => by rw [codeB_len]; exact HBD.out c) (ps.map toN) (fun p hp => by
            obtain ⟨q, hq, rfl⟩ := List.mem_map.1 hp
            obtain ⟨d, e1, e2, _⟩ := okPB_yes (List.all_eq_true.1 d1 q hq)
            unfold toN; simp only; omega)
          rw [List.length_map] at h1
          have := HN.out
          omega
        have BY := rbytes_any A v _ _ wr d2 (by omega)
        have G2 : Unit → g = (0, hput (codeB L) (ps.map toN)) := fun _ => GY () d1
        have HB : Unit → byt (b2 (psB (codeB L) (ps.map toN))) (byc (psB (codeB L) (ps.map toN)).length) = hput (codeB L) (ps.map toN) := fun _ => rfl
        generalize byt (b2 (psB (codeB L) (ps.map toN))) (byc (psB (codeB L) (ps.map toN)).length) = t at *
        have B9 := Hid.intro B0
        have rb5 := Hid.intro (blk_below RB.out d4 (by have := sz3.out; have := HA.out; omega))
        unfold ptr at BY
        clear d1 d2 d3 d4 GN GY TKA B0 QL
        go_wp2_with fail
        with_reducible refine BY.mono ?_
        rintro e w5 ⟨rfl, c5⟩
        have rb6 := blk_kept rb5.out c5 (fun h => h)
        obtain ⟨r0, r1, f0, f1⟩ := rb_cells rb6
        obtain ⟨q0, q1, q2⟩ := rb_end rb6 (below_no B9.out c5) (.string (bs t)) (.int .i64 0)
        have Q2 := Hid.intro q2
        clear BY c5 rb6 q2
        go_wp2_with fail
        refine bodyPost_ret (v := .agg #[.string (bs t), .int .i64 0]) (by simp [results, Try.results11, go_sem, q0, q1]) rfl ?_
        rw [G2 (), ← HB ()]; exact ⟨rfl, Q2.out⟩
  · have hm' : mayL f = false := by simpa using hm
    have CN := rcanon_no a n0 cap f _ (ri_below h b1) hn0 hm'
    have G : Unit → putH f ps = (3, []) := fun _ => by unfold putH; rw [if_pos hm']
    generalize putH f ps = g at *
    have B1 := Hid.intro b1
    have BK := Hid.intro bk
    have SZ1 := Hid.intro sz1
    clear h hm hm' hp hf b1 bk sz1
    go_enter Try.func11, Try.ntmps11
    go_wp2_with fail
    with_reducible refine CN.mono ?_
    rintro e w2 ⟨rfl, k2⟩
    have rb := blk_below BK.out k2 (by rw [SZ1.out]; omega)
    have hb2 := B1.out.trans (k2.mono B1.out.size)
    have hlt2 : w.heap.size < w2.heap.size := by have := k2.size; have := SZ1.out; omega
    have r0 : w2.cell? ⟨w.heap.size, 0, none⟩ = some (.string ⟨#[]⟩) := by rw [blk_cell rb]; rfl
    have r1 : w2.cell? ⟨w.heap.size, 1, none⟩ = some (.int .i64 0) := by rw [blk_cell rb]; rfl
    have f0 := blk_free rb 0
    have f1 := blk_free rb 1
    have q := blk_alloc (blk_set (blk_set rb 0 (.string ⟨#[]⟩)) 1 (.int .i64 3)) (.cells #[.slice none 0 0, .int .i64 3] 74)
    have B5 := Hid.intro ((Below.setCell (Below.setCell hb2 (p := ⟨w.heap.size, 0, none⟩) (Nat.le_refl _) (.string ⟨#[]⟩)) (p := ⟨w.heap.size, 1, none⟩) (Nat.le_refl _) (.int .i64 3)).alloc (by rw [Go.Deep.nblk_setCell, Go.Deep.nblk_setCell]; omega) (.cells #[.slice none 0 0, .int .i64 3] 74))
    have q0 : (((w2.setCell ⟨w.heap.size, 0, none⟩ (.string ⟨#[]⟩)).setCell ⟨w.heap.size, 1, none⟩ (.int .i64 3)).alloc (.cells #[.slice none 0 0, .int .i64 3] 74)).cell? ⟨w.heap.size, 0, none⟩ = some (.string ⟨#[]⟩) := by rw [blk_cell q]; rfl
    have q1 : (((w2.setCell ⟨w.heap.size, 0, none⟩ (.string ⟨#[]⟩)).setCell ⟨w.heap.size, 1, none⟩ (.int .i64 3)).alloc (.cells #[.slice none 0 0, .int .i64 3] 74)).cell? ⟨w.heap.size, 1, none⟩ = some (.int .i64 3) := by rw [blk_cell q]; rfl
    clear CN k2 hb2 rb q
    go_wp2_with fail
    refine bodyPost_ret (v := .agg #[.string ⟨#[]⟩, .int .i64 3]) (by simp [results, Try.results11, go_sem, q0, q1]) rfl ?_
    rw [G ()]
    exact ⟨rfl, B5.out⟩
end Go.Proofs.Ytlkebkchbgpnpaa
