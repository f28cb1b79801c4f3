/-
  Put of parts by codes.
-/
import Derived.Test.YtlkebkchbgpnpaaHs
import Derived.Test.YtlkebkchbgpnpaaCd
import Derived.Test.YtlkebkchbgpnpaaOfy
namespace Go.Proofs.Ytlkebkchbgpnpaa
open Go.ChangeShapes Go.WideShapes Go.ChangeAt Go.RowKit
open Go.ChangeMaps (open_string shut_string)

/-- Put, as the document has it. -/
def putH (f : List Int) (ps : List (Int × Int)) : Nat × List UInt8 :=
  if mayL f = false then (3, []) else if ps.all (okPB (nat f)) then (0, hput (codeB (nat f)) (ps.map toN)) else (1, [])
theorem b2_one (Q : List Nat) (x : Nat) (hx : x < 2) : b2 Q + x % 2 ^ cl 1 * 2 ^ Q.length = b2 (Q ++ [x]) := by
  rw [b2_append]
  have : cl 1 = 1 := rfl
  rw [this, Nat.pow_one, Nat.mod_eq_of_lt hx]; simp [b2]
theorem b2_more (Q : List Nat) (m r : Nat) (hm : m ≤ 64) : b2 Q + r % 2 ^ cl (m : Int) * 2 ^ Q.length = b2 (Q ++ lsb m r) := by
  rw [b2_append, b2_lsb, cl_nat m hm]
theorem psB_snoc (C : Nat → List Nat) (ps : List (Nat × Nat)) (p : Nat × Nat) : psB C (ps ++ [p]) = psB C ps ++ (C p.1 ++ lsb (p.1 - 1) p.2) := by
  unfold psB; simp [ptB]
theorem psB_le {C : Nat → List Nat} (hC : ∀ c, (C c).length ≤ 15) (ps : List (Nat × Nat)) (h : ∀ p ∈ ps, p.1 < 65) : (psB C ps).length ≤ 78 * ps.length := by
  induction ps with
  | nil => simp [psB]
  | cons p ps ih =>
    have e : psB C (p :: ps) = ptB C p ++ psB C ps := by simp [psB]
    have h1 := hC p.1
    have h2 := h p (by simp)
    have h3 := ih (fun q hq => h q (by simp [hq]))
    rw [e, List.length_append, List.length_cons]
    unfold ptB
    rw [List.length_append, lsb_len]; omega
theorem okPB_yes {L : List Nat} {p : Int × Int} (h : okPB L p = true) : ∃ k : Nat, p.1 = (k : Int) ∧ k < 65 ∧ 0 < at0 L k := by
  unfold okPB at h
  simp only [Bool.and_eq_true, decide_eq_true_eq] at h
  obtain ⟨h1, h2, h3, _⟩ := h
  exact ⟨p.1.toNat, by omega, by omega, h3⟩
def HpRel (L : List Nat) (ps : List (Int × Int)) (A : Nat) (w1 : World) (iv : Value) (wr : World) : Prop :=
  ∃ (i : Nat) (v : Value), i ≤ ps.length ∧ iv = .int .i64 i ∧ (ps.take i).all (okPB L) = true ∧ Wr wr A v (psB (codeB L) ((ps.take i).map toN)).length (b2 (psB (codeB L) ((ps.take i).map toN))) ∧ Up w1.heap.size A v ∧ Below w1.heap.size w1 wr
def HjRel (Q B : List Nat) (r n c rs A Pb Cb : Nat) (w1 : World) (jv : Value) (wr : World) : Prop :=
  ∃ (j : Nat) (v : Value), j ≤ n ∧ jv = .int .i64 j ∧ Wr wr A v (Q ++ B.take j).length (b2 (Q ++ B.take j)) ∧ Up w1.heap.size A v ∧ (∀ k, foot A v k → k ≠ Pb ∧ k ≠ Cb) ∧
    Blk wr Pb #[.int .i64 c, .int .u64 rs] 54 ∧ Blk wr Cb #[.int .i64 r, .int .i64 n] 68 ∧ Below w1.heap.size w1 wr
theorem foot_stays {A : Nat} {v v' : Value} {W : World} {S : Nat → Prop} (h : ∀ k, foot A v k → S k) (m : Moved W v v') (hS : ∀ k, W.heap.size ≤ k → S k) : ∀ k, foot A v' k → S k := by
  rintro k (e | e)
  · exact h k (.inl e)
  · rcases m k e with g | g
    · exact h k (.inr g)
    · exact hS k g
set_option maxRecDepth 100000 in
set_option maxHeartbeats 2000000 in
theorem hput_any (al : Option Addr) (nl capl : Nat) (ps : List (Int × Int)) (a : Option Addr) (n0 cap : Nat) (f : List Int) (w : World) (hp : RP w al nl ps) (hf : ∀ p ∈ ps, 0 ≤ p.2 ∧ p.2 ≤ 18446744073709551615) (hnl : nl ≤ 5000) (h : RI w a n0 f) (hn0 : n0 ≤ 100000) :
    Calls Try.prog 10 #[.slice al nl capl, .slice a n0 cap] w fun e w' => e = .returned (.tuple #[.string (bs (putH f ps).2), .int .i64 ((putH f ps).1 : Nat)]) ∧ Below w.heap.size w w' := by
  by_cases hm : mayL f = true
  · obtain ⟨m1, m2, m3⟩ := mayL_yes hm
    have CY := codes_yes a n0 cap f w (by have := h.1; rw [m1] at this; exact h) hm
    have GN : Unit → ps.all (okPB (nat f)) = false → putH f ps = (1, []) := fun _ g => by unfold putH; rw [if_neg (by rw [hm]; decide), if_neg (by rw [g]; decide)]
    have GY : Unit → ps.all (okPB (nat f)) = true → putH f ps = (0, hput (codeB (nat f)) (ps.map toN)) := fun _ g => by unfold putH; rw [if_neg (by rw [hm]; decide), if_pos g]
    have HBD := Hid.intro (nat_bd f m2)
    have HFIT : Hid (∀ c, c < 65 → (cat (codesOf (nat f)) c).1 < 2 ^ at0 (nat f) c) := fun c hc => code_fit (nat f) (nat_bd f m2) (ok_sum m3) c hc
    obtain ⟨L, hL⟩ : ∃ L, nat f = L := ⟨_, rfl⟩
    rw [hL] at CY HBD HFIT GN GY
    generalize putH f ps = g at *
    have HX : Hid (0 < nl → ∃ x, al = some x ∧ ∀ i (h : i < ps.length), w.cell? (x.add (i * 2)) = some (.int .i64 ps[i].1) ∧ w.cell? (x.add (i * 2 + 1)) = some (.int .u64 ps[i].2)) := hp.2
    have HN : Hid (ps.length = nl) := hp.1
    have HF := Hid.intro hf
    clear h hm m1 m2 m3 hp hf hL
    go_enter Try.func10, Try.ntmps10
    go_wp2_with fail
    with_reducible refine CY.mono ?_
    rintro e w1 ⟨v, rfl, k1, k2⟩
    obtain ⟨b, cp, rfl⟩ := own_slice k1 (by omega)
    have K1 := Hid.intro (own_low k1 (Nat.zero_le _))
    have K2 := Hid.intro k2
    clear CY k1 k2
    go_wp2_with fail
    refine (new_any w1).mono ?_
    rintro e w2 ⟨rfl, r1, r2⟩
    obtain ⟨A, hA⟩ : ∃ A, w1.heap.size = A := ⟨_, rfl⟩
    have HA := Hid.intro hA
    rw [hA] at r1
    simp only [hA]
    have ST : Hid (HpRel L ps A w1 (.int .i64 0) w2) := ⟨0, _, Nat.zero_le _, rfl, rfl, r1, up_nil _ _ (by omega), below_no (Below.refl _ _) r2⟩
    clear r1 r2 hA
    unfold ptr
    go_wp2_with fail
    go_loopw [24] (fun iv wr => HpRel L ps A w1 iv wr) (fun iv _ => 5001 - (intOf iv).toNat)
    case atStart => exact ST.out
    case round =>
      clear ST
      obtain ⟨i, v, hi, rfl, d1, d2, d3, d4⟩ := hrel
      have hin : i ≤ nl := by rw [← HN.out]; exact hi
      by_cases hlt : i < nl
      · obtain ⟨x, rfl, hx⟩ := HX.out (by omega)
        have hl : i < ps.length := by rw [HN.out]; exact hlt
        obtain ⟨x0, x1⟩ := hx i hl
        have B0 : Below w.heap.size w wr := K2.out.trans (d4.mono K2.out.size)
        rw [← B0.cell (World.block_lt_of_cell? _ _ x0)] at x0
        rw [← B0.cell (World.block_lt_of_cell? _ _ x1), add_next] at x1
        have hr := HF.out ps[i] (List.getElem_mem hl)
        have TK : Hid (ps.take (i + 1) = ps.take i ++ [ps[i]]) := take_snoc ps i hl
        have GF : Hid (okPB L ps[i] = false → ps.all (okPB L) = false) := fun h => by
          rw [List.all_eq_false]
          exact ⟨_, List.getElem_mem hl, by rw [h]; decide⟩
        obtain ⟨⟨c, r0⟩, hpp⟩ : ∃ p, ps[i] = p := ⟨_, rfl⟩
        rw [hpp] at x0 x1 hr TK GF
        simp only at x0 x1 hr
        obtain ⟨r, rfl⟩ : ∃ r : Nat, r0 = (r : Int) := ⟨r0.toNat, by omega⟩
        have hr64 : r < 18446744073709551616 := by omega
        have o2 := World.ownsRow.alloc (own_below K1.out d4 (fun k hk => (K1.out.lt k hk).2)) (.cells #[.int .i64 c, .int .u64 (r : Int)] 54)
        have MA := hmay_any L HBD.out b cp 0 c r _ o2 hr64
        obtain ⟨Pb, hPb⟩ : ∃ Pb, wr.heap.size = Pb := ⟨_, rfl⟩
        have BP : Hid (Blk (wr.alloc (.cells #[.int .i64 c, .int .u64 (r : Int)] 54)) Pb #[.int .i64 c, .int .u64 (r : Int)] 54) := by show Blk _ _ _ _; rw [← hPb]; exact blk_new _ _ _
        have B2 := Hid.intro (d4.alloc d4.size (.cells #[.int .i64 c, .int .u64 (r : Int)] 54))
        have W2 : Hid (Wr (wr.alloc (.cells #[.int .i64 c, .int .u64 (r : Int)] 54)) A v (psB (codeB L) ((ps.take i).map toN)).length (b2 (psB (codeB L) ((ps.take i).map toN)))) := wr_kept (S := fun _ => False) d2 (chg_alloc (chg_refl _ _) _) (fun _ _ h => h)
        have NF : Hid (∀ k, foot A v k → k < Pb) := fun k hk => by rw [← hPb]; exact wr_lt d2 k hk
        have HPb := Hid.intro hPb
        have O2 := Hid.intro o2
        have D1 := Hid.intro d1
        have D3 := Hid.intro d3
        have hpt : (wr.alloc (.cells #[.int .i64 c, .int .u64 (r : Int)] 54)).heap.size = Pb + 1 := by rw [← hPb]; simp
        have HPT := Hid.intro hpt
        clear hx B0 d1 d2 d3 d4 o2 hpp hpt
        cases hz : okPB L (c, (r : Int)) with
        | false =>
          rw [hz] at MA
          have G2 : Unit → g = (1, []) := fun _ => GN () (GF.out hz)
          clear GN GY GF hz
          go_wp2_with fail
          with_reducible refine MA.mono ?_
          rintro e w3 ⟨rfl, b3⟩
          have B3 := Hid.intro (K2.out.trans ((B2.out.trans (b3.mono B2.out.size)).mono K2.out.size))
          clear MA b3 hPb
          go_wp2_with fail
          go_ret2
          rw [G2 ()]; exact ⟨rfl, B3.out⟩
        | true =>
          rw [hz] at MA
          obtain ⟨k, hck, hk, hk0⟩ := okPB_yes hz
          simp only at hck
          subst hck
          have HZ := Hid.intro hz
          go_wp2_with fail
          with_reducible refine MA.mono ?_
          rintro e w3 ⟨rfl, b3⟩
          have o3 := own_below O2.out b3 (fun k hk => (O2.out.lt k hk).2)
          obtain ⟨g1, g2, -, -⟩ := cv_cells o3 k hk
          rw [code_len L HBD.out k hk] at g2
          have h15 := HBD.out k
          have hfit := HFIT.out k hk
          have hcb : Hid (codeB L k = msb (at0 L k) (cat (codesOf L) k).1) := rfl
          have p3 := blk_below BP.out b3 (by rw [HPT.out]; omega)
          have w3r := wr_kept (S := fun _ => False) W2.out (chg_of b3) (fun _ _ h => h)
          have b3' := B2.out.trans (b3.mono B2.out.size)
          have hpc : Hid (Pb < w3.heap.size) := blk_lt p3
          generalize (cat (codesOf L) k).1 = rc at *
          generalize at0 L k = n at *
          have hrc : rc ≤ 100000 := by
            have : 2 ^ n ≤ 2 ^ 15 := Nat.pow_le_pow_right (by decide) h15
            omega
          obtain ⟨Cb, hCb⟩ : ∃ Cb, w3.heap.size = Cb := ⟨_, rfl⟩
          have bc := blk_new w3 #[.int .i64 (rc : Int), .int .i64 (n : Int)] 68
          rw [hCb] at bc
          have c1 : (w3.alloc (.cells #[.int .i64 (rc : Int), .int .i64 (n : Int)] 68)).cell? ⟨Cb, 1, none⟩ = some (.int .i64 (n : Int)) := by rw [blk_cell bc]; rfl
          have p0 : w3.cell? ⟨Pb, 0, none⟩ = some (.int .i64 (k : Int)) := by rw [blk_cell p3]; rfl
          obtain ⟨Q, hQ⟩ : ∃ Q, psB (codeB L) ((ps.take i).map toN) = Q := ⟨_, rfl⟩
          have HQ := Hid.intro hQ
          have QL : Hid (Q.length ≤ 390000) := by
            show _ ≤ _
            rw [← hQ]
            have h1 := psB_le (C := codeB L) (fun c => by rw [codeB_len]; exact HBD.out c) ((ps.take i).map toN) (fun p hp => by
              obtain ⟨q, hq, rfl⟩ := List.mem_map.1 hp
              obtain ⟨d, e1, e2, _⟩ := okPB_yes (List.all_eq_true.1 D1.out q hq)
              unfold toN; simp only; omega)
            rw [List.length_map, List.length_take] at h1
            omega
          rw [hQ] at w3r
          have ST2 : Hid (HjRel Q (msb n rc) rc n k r A Pb Cb w1 (.int .i64 0) (w3.alloc (.cells #[.int .i64 (rc : Int), .int .i64 (n : Int)] 68))) := by
            refine ⟨0, v, Nat.zero_le _, rfl, ?_, D3.out, fun j hj => ?_, blk_alloc p3 _, bc, b3'.alloc b3'.size _⟩
            · rw [List.take_zero, List.append_nil]
              exact wr_kept (S := fun _ => False) w3r (chg_alloc (chg_refl _ _) _) (fun _ _ h => h)
            · have := NF.out j hj
              have := hpc.out
              omega
          clear MA b3 o3 p3 w3r b3' bc hfit hQ hz hPb W2 B2 BP O2 NF
          go_wp2_with fail
          clear g1 g2 p0 c1 hCb
          go_loopw [39] (fun jv wr => HjRel Q (msb n rc) rc n k r A Pb Cb w1 jv wr) (fun jv _ => 16 - (intOf jv).toNat)
          case atStart => exact ST2.out
          case round =>
            clear ST2
            obtain ⟨j, v2, hj, rfl, e1, e2, e3, e4, e5, e6⟩ := hrel
            by_cases hjn : j < n
            · have BO := bitOf_any rc n j wr hrc h15 hjn
              have TB := take_succ_get (msb_get n rc j hjn)
              obtain ⟨y, hy⟩ : ∃ y, rc / 2 ^ (n - 1 - j) % 2 = y := ⟨_, rfl⟩
              have hy2 : y < 2 := by omega
              rw [hy] at BO TB
              obtain ⟨P, hP⟩ : ∃ P, (msb n rc).take j = P := ⟨_, rfl⟩
              rw [hP] at e1 TB
              have PLn : P.length ≤ 15 := by rw [← hP, List.length_take, msb_len]; omega
              have c0 : wr.cell? ⟨Cb, 0, none⟩ = some (.int .i64 (rc : Int)) := by rw [blk_cell e5]; rfl
              have c1 : wr.cell? ⟨Cb, 1, none⟩ = some (.int .i64 (n : Int)) := by rw [blk_cell e5]; rfl
              have HTB := Hid.intro TB
              have HPL := Hid.intro PLn
              have E1 := Hid.intro e1
              have E2 := Hid.intro e2
              have E3 := Hid.intro e3
              have E4 := Hid.intro e4
              have E5 := Hid.intro e5
              have E6 := Hid.intro e6
              clear e1 e2 e3 e4 e5 e6 hy hP TB PLn
              go_wp2_with fail
              with_reducible refine BO.mono ?_
              rintro e w5 ⟨rfl, b5⟩
              have f4 := blk_below E4.out b5 (blk_lt E4.out)
              have f5 := blk_below E5.out b5 (blk_lt E5.out)
              have l4 := blk_lt f4
              have l5 := blk_lt f5
              have PO := put_own (w := w1) A v2 _ _ y 1 (wr_kept (S := fun _ => False) E1.out (chg_of b5) (fun _ _ h => h)) E2.out (E6.out.trans (b5.mono E6.out.size)) (by rw [List.length_append]; have := QL.out; have := HPL.out; omega) (by omega) (by omega) (by omega) ((Q ++ (P ++ [y])).length) (b2 (Q ++ (P ++ [y]))) (by rw [show cl 1 = 1 from rfl]; simp; omega) (by rw [b2_one _ _ hy2, List.append_assoc])
              unfold ptr at PO
              have F4 := Hid.intro f4
              have F5 := Hid.intro f5
              clear BO b5 c0 c1 f4 f5
              go_wp2_with fail
              with_reducible refine PO.mono ?_
              rintro e w6 ⟨rfl, v3, k1, k2, k3, k4, k5⟩
              have N3 := Hid.intro (foot_stays (S := fun k => k ≠ Pb ∧ k ≠ Cb) E3.out k5 (fun k hk => by omega))
              have F6 := Hid.intro (blk_kept F4.out k4 (fun h => (E3.out _ h).1 rfl))
              have F7 := Hid.intro (blk_kept F5.out k4 (fun h => (E3.out _ h).2 rfl))
              have K1' := Hid.intro k1
              have K2' := Hid.intro k2
              have K3' := Hid.intro k3
              clear PO k1 k2 k3 k4 k5
              go_wp2_with fail
              go_roundw
              case rel => exact ⟨j + 1, v3, hjn, by go_num, by rw [HTB.out]; exact K1'.out, K2'.out, N3.out, F6.out, F7.out, K3'.out⟩
              case measure => simp [intOf]; omega
            · have hjn' : j = n := by omega
              have TB : (msb n rc).take j = msb n rc := List.take_of_length_le (by rw [msb_len]; omega)
              rw [TB] at e1
              obtain ⟨m, hm⟩ : ∃ m, k - 1 = m := ⟨_, rfl⟩
              have hm64 : m ≤ 64 := by omega
              have FU := further_any k wr.drew (by omega)
              rw [hm] at FU
              have EQ : Hid (psB (codeB L) ((ps.take (i + 1)).map toN) = (Q ++ msb n rc) ++ lsb m r) := by
                show _ = _
                rw [TK.out, List.map_append, List.map_singleton, psB_snoc, HQ.out]
                unfold toN
                simp only [Int.toNat_natCast]
                rw [hcb.out, hm, List.append_assoc]
              have PO := put_own (w := w1) (W := wr.drew) A v2 _ _ r (m : Int) (wr_kept (S := fun _ => False) e1 (chg_drew (chg_refl _ _)) (fun _ _ h => h)) e2 e6.drew (by rw [List.length_append, msb_len]; have := QL.out; omega) hr64 (by omega) (by omega) (((Q ++ msb n rc) ++ lsb m r).length) (b2 ((Q ++ msb n rc) ++ lsb m r)) (by rw [cl_nat m hm64]; simp only [List.length_append, lsb_len]) (b2_more _ _ _ hm64)
              unfold ptr at PO
              have p0 : wr.cell? ⟨Pb, 0, none⟩ = some (.int .i64 (k : Int)) := by rw [blk_cell e4]; rfl
              have p1 : wr.cell? ⟨Pb, 1, none⟩ = some (.int .u64 (r : Int)) := by rw [blk_cell e4]; rfl
              clear e1 e2 e3 e4 e5 e6 TB hm
              go_wp2_with fail
              go_region_with (first | (go_at_call 27; refine FU.mono ?_; rintro e w6 ⟨rfl, rfl⟩) | (go_at_call 25; refine PO.mono ?_; rintro e w6 ⟨rfl, v3, g1, g2, g3, g4, g5⟩; have G1 := Hid.intro g1; have G2 := Hid.intro g2; have G3 := Hid.intro g3; clear g1 g2 g3 g4 g5))
              all_goals
                clear PO FU
                go_wp2_with fail
                go_roundw
                case rel => exact ⟨i + 1, v3, hl, by go_num, by rw [TK.out, List.all_append, D1.out, List.all_cons, HZ.out]; rfl, by rw [EQ.out]; exact G1.out, G2.out, G3.out⟩
                case measure => simp [intOf]; omega
      · obtain rfl : i = nl := by omega
        have TKA : ps.take i = ps := by rw [← HN.out]; exact List.take_length
        rw [TKA] at d1 d2
        have BY := bytes_any A v _ _ wr d2
        have G2 : Unit → g = (0, hput (codeB L) (ps.map toN)) := fun _ => GY () d1
        have HB : Unit → byt (b2 (psB (codeB L) (ps.map toN))) (byc (psB (codeB L) (ps.map toN)).length) = hput (codeB L) (ps.map toN) := fun _ => rfl
        generalize byt (b2 (psB (codeB L) (ps.map toN))) (byc (psB (codeB L) (ps.map toN)).length) = t at *
        have B9 := Hid.intro (K2.out.trans (d4.mono K2.out.size))
        unfold ptr at BY
        clear d1 d2 d3 d4 GN GY TKA
        go_wp2_with fail
        with_reducible refine BY.mono ?_
        rintro e w5 ⟨rfl, rfl⟩
        clear BY
        go_wp2_with fail
        go_ret2
        rw [G2 (), HB ()]; exact ⟨rfl, B9.out⟩
  · have hm' : mayL f = false := by simpa using hm
    have CN := codes_no a n0 cap f w h hn0 hm'
    have G : Unit → putH f ps = (3, []) := fun _ => by unfold putH; rw [if_pos hm']
    generalize putH f ps = g at *
    clear h hm hm' hp hf
    go_enter Try.func10, Try.ntmps10
    go_wp2_with fail
    with_reducible refine CN.mono ?_
    rintro e w1 ⟨rfl, rfl⟩
    clear CN
    go_wp2_with fail
    go_ret2
    rw [G ()]; exact ⟨rfl, Below.refl _ _⟩
end Go.Proofs.Ytlkebkchbgpnpaa
