/-
  The reference's Get of parts by codes.
-/
import Derived.Test.YtlkebkchbgpnpaaGm
import Derived.Test.YtlkebkchbgpnpaaRpy
namespace Go.Proofs.Ytlkebkchbgpnpaa
open Go.ChangeShapes Go.WideShapes Go.ChangeAt Go.RowKit
open Go.ChangeMaps (open_string shut_string)

set_option maxRecDepth 100000 in
set_option maxHeartbeats 40000000 in
theorem rgeth_any (a : Option Addr) (n0 cap : Nat) (f : List Int) (s : ByteArray) (n : Int) (w : World) (h : RI w a n0 f) (hn0 : n0 ≤ 100000) (hs : s.size ≤ 10000) :
    Calls Try.prog 13 #[.string s, .int .i64 n, .slice a n0 cap] w fun e w' => RgPost (getH f s.data.toList n) w e w' := by
  have b1 : Below w.heap.size w (w.alloc (.cells #[.slice none 0 0, .int .i64 0] 34)) := (Below.refl _ _).alloc (Nat.le_refl _) _
  have bk := blk_new w #[.slice none 0 0, .int .i64 0] 34
  have sz1 : (w.alloc (.cells #[.slice none 0 0, .int .i64 0] 34)).heap.size = w.heap.size + 1 := by simp
  by_cases hm : mayL f = true
  · obtain ⟨m1, m2, m3⟩ := mayL_yes hm
    have CY := rcanon_yes a n0 cap f _ (ri_below h b1) hm
    have B1 := Hid.intro b1
    have BK := Hid.intro bk
    have SZ1 := Hid.intro sz1
    by_cases hn : n < 0 ∨ 4096 < n
    · have G : Unit → getH f s.data.toList n = (1, []) := fun _ => by unfold getH; rw [if_neg (by rw [hm]; decide), if_pos hn]
      generalize getH f s.data.toList n = g at *
      clear h hm m1 m2 m3 b1 bk sz1
      rcases (by omega : n < 0 ∨ (0 ≤ n ∧ 4096 < n)) with h1 | ⟨h1', h1⟩
      all_goals
        clear hn
        go_enter Try.func13, Try.ntmps13
        go_wp2_with fail
        with_reducible refine CY.mono ?_
        rintro e w2 ⟨v, rfl, k1, k2⟩
        have rb := blk_below BK.out k2 (by rw [SZ1.out]; omega)
        have hb2 := B1.out.trans (k2.mono B1.out.size)
        have hlt2 : w.heap.size < w2.heap.size := by have := k2.size; have := SZ1.out; omega
        obtain ⟨b, cp, rfl⟩ := own_slice k1 (by omega)
        obtain ⟨r0, r1, f0, f1⟩ := rb_cells rb
        have q := blk_alloc (blk_set (blk_set rb 0 (.slice none 0 0)) 1 (.int .i64 1)) (.cells #[.slice (some ⟨b, 0, none⟩) 65 cp, .int .i64 0] 74)
        have B5 := Hid.intro ((Below.setCell (Below.setCell hb2 (p := ⟨w.heap.size, 0, none⟩) (Nat.le_refl _) (.slice none 0 0)) (p := ⟨w.heap.size, 1, none⟩) (Nat.le_refl _) (.int .i64 1)).alloc (by rw [Go.Deep.nblk_setCell, Go.Deep.nblk_setCell]; omega) (.cells #[.slice (some ⟨b, 0, none⟩) 65 cp, .int .i64 0] 74))
        have q0 : (((w2.setCell ⟨w.heap.size, 0, none⟩ (.slice none 0 0)).setCell ⟨w.heap.size, 1, none⟩ (.int .i64 1)).alloc (.cells #[.slice (some ⟨b, 0, none⟩) 65 cp, .int .i64 0] 74)).cell? ⟨w.heap.size, 0, none⟩ = some (.slice none 0 0) := by rw [blk_cell q]; rfl
        have q1 : (((w2.setCell ⟨w.heap.size, 0, none⟩ (.slice none 0 0)).setCell ⟨w.heap.size, 1, none⟩ (.int .i64 1)).alloc (.cells #[.slice (some ⟨b, 0, none⟩) 65 cp, .int .i64 0] 74)).cell? ⟨w.heap.size, 1, none⟩ = some (.int .i64 1) := by rw [blk_cell q]; rfl
        clear CY k1 k2 hb2 rb q
        go_wp2_with fail
        refine bodyPost_ret (v := .agg #[.slice none 0 0, .int .i64 1]) (by simp [results, Try.results13, go_sem, q0, q1]) rfl ?_
        rw [G ()]
        exact rg_none B5.out
    · obtain ⟨nn, rfl⟩ : ∃ k : Nat, n = (k : Int) := ⟨n.toNat, by omega⟩
      have hk : nn ≤ 4096 := by omega
      have G : Unit → getH f s.data.toList (nn : Int) = hget (codeB (nat f)) s.data.toList nn := fun _ => by unfold getH; rw [if_neg (by rw [hm]; decide), if_neg hn]; rfl
      generalize getH f s.data.toList (nn : Int) = g at *
      have HBD := Hid.intro (nat_bd f m2)
      have HNA := Hid.intro (nat_at f m2)
      have HMS : Unit → mS (nat f) 65 ≤ 32768 := fun _ => ok_sum m3
      have HRI := Hid.intro h
      have hn65 : Hid (n0 = 65) := by show _ = _; rw [← h.1]; exact m1
      obtain ⟨xl, hxl, -⟩ := ri_at h 0 (by rw [hn65.out]; omega)
      subst hxl
      obtain ⟨L, hL⟩ : ∃ L, nat f = L := ⟨_, rfl⟩
      rw [hL] at CY HBD HMS HNA G
      clear h hm m1 m2 m3 hL b1 bk sz1 hn
      go_enter Try.func13, Try.ntmps13
      go_wp2_with fail
      with_reducible refine CY.mono ?_
      rintro e w2 ⟨v, rfl, k1, k2⟩
      obtain ⟨b, cp, rfl⟩ := own_slice k1 (by omega)
      have c7 := blk_new w2 #[.slice (some ⟨b, 0, none⟩) 65 cp, .int .i64 0] 74
      have o3 := World.ownsRow.alloc (own_low k1 (Nat.zero_le _)) (.cells #[.slice (some ⟨b, 0, none⟩) 65 cp, .int .i64 0] 74)
      have rb := blk_alloc (blk_below BK.out k2 (by rw [SZ1.out]; omega)) (.cells #[.slice (some ⟨b, 0, none⟩) 65 cp, .int .i64 0] 74)
      have hb2 := B1.out.trans (k2.mono B1.out.size)
      have hb3 := hb2.alloc hb2.size (.cells #[.slice (some ⟨b, 0, none⟩) 65 cp, .int .i64 0] 74)
      have hlt2 : w.heap.size < w2.heap.size := by have := k2.size; have := SZ1.out; omega
      have x1 : (w2.alloc (.cells #[.slice (some ⟨b, 0, none⟩) 65 cp, .int .i64 0] 74)).cell? ⟨w2.heap.size, 1, none⟩ = some (.int .i64 0) := by rw [blk_cell c7]; rfl
      have x2 := blk_free c7 1
      obtain ⟨C7, hC7⟩ : ∃ C7, w2.heap.size = C7 := ⟨_, rfl⟩
      rw [hC7] at c7 x1 x2 hlt2
      clear CY k1 k2 hb2
      obtain ⟨w3, hw3⟩ : ∃ w3, w2.alloc (.cells #[.slice (some ⟨b, 0, none⟩) 65 cp, .int .i64 0] 74) = w3 := ⟨_, rfl⟩
      rw [hw3] at c7 o3 rb hb3 x1 x2
      have sz3 : Hid (w3.heap.size = C7 + 1) := by show _ = _; rw [← hw3, ← hC7]; simp
      have hset : w3.setCell ⟨C7, 1, none⟩ (.int .i64 0) = w3 := by rw [← hw3, ← hC7, World.setCell_alloc_new]; rfl
      have RF := rfrom_any s w3 hs
      have C7B := Hid.intro c7
      have O3 := Hid.intro o3
      have RB := Hid.intro rb
      have HB3 := Hid.intro hb3
      clear c7 o3 rb hb3
      go_wp2_with fail
      with_reducible refine RF.mono ?_
      rintro e w4 ⟨A, wv, rfl, f1, f2, f3, f4⟩
      have C7C := Hid.intro (blk_kept C7B.out f4 (fun h => h))
      have O4 := Hid.intro (own_kept O3.out f4 (fun _ _ h => h))
      have RC := Hid.intro (blk_kept RB.out f4 (fun h => h))
      have HB4 := Hid.intro (below_no HB3.out f4)
      have hBA : Hid (b < A) := by
        have h1 := (O3.out.lt b rfl).2
        show _ < _; omega
      have hC4 : Hid (C7 < A ∧ w.heap.size < C7) := ⟨by have := sz3.out; omega, hlt2⟩
      have FA : Hid (∀ k, foot A wv k → C7 < k ∧ k < w4.heap.size) := fun k hk => ⟨by
        have := sz3.out
        rcases hk with e | e
        · omega
        · have := f3 k e; omega, wk_lt f1 k hk⟩
      have F1 := Hid.intro f1
      clear RF C7B O3 RB HB3 sz3 f1 f2 f3 f4 x1 x2 hC7 hw3 hset hlt2
      have ST : Hid (H1Rel (codeB L) nn A wv s w4 (.slice none 0 0) w4) :=
        ⟨0, 0, [], Nat.zero_le _, rfl, Nat.zero_le _, F1.out, World.ownsRow_nil _ _ _ _, chg_refl _ _, by rw [Nat.sub_zero, List.drop_zero]; exact rd_zero _ _ _⟩
      have PFC : Hid (PF (codeB L)) := codeB_pf HBD.out (HMS ())
      have HIS : Hid (∀ c, c < 65 → ∀ B : List Nat, (∀ x ∈ B, x < 2) → (codeB L c = B ↔ at0 L c = B.length ∧ (cat (codesOf L) c).1 = num B)) := fun c hc B hB => codeB_is HBD.out (HMS ()) c hc B hB
      have HBG : Hid (∀ c, c < 65 → ∀ B : List Nat, (∀ x ∈ B, x < 2) → (B <+: codeB L c ↔ B.length ≤ at0 L c ∧ (cat (codesOf L) c).1 / 2 ^ (at0 L c - B.length) = num B)) := fun c hc B hB => codeB_begins HBD.out (HMS ()) c hc B hB
      have HLN : Hid (∀ c, at0 L c ≤ 15) := HBD.out
      have HCL : Hid (∀ c, (codeB L c).length ≤ 15) := fun c => by rw [codeB_len]; exact HBD.out c
      have HFT : Hid (∀ c, c < 65 → (cat (codesOf L) c).1 < 2 ^ at0 L c) := fun c hc => code_fit L HBD.out (HMS ()) c hc
      have HCC : Hid (∀ wr, Chg (· = A) w4 wr → wr.cell? ⟨C7, 0, none⟩ = some (.slice (some ⟨b, 0, none⟩) 65 cp) ∧ (∀ i, i < 65 → wr.cell? ⟨b, i * 2, none⟩ = some (.int .i64 ((cat (codesOf L) i).1 : Int))) ∧ Blk wr w.heap.size #[.slice none 0 0, .int .i64 0] 34 ∧ Below w.heap.size w wr ∧
          (∀ i, i < 65 → wr.cell? (xl.add i) = some (.int .i64 (at0 L i : Int)))) := by
        intro wr c
        have hb : Below w.heap.size w wr := HB4.out.trans (chg_below c HB4.out.size (fun k hk => by have := hC4.out; omega))
        have o9 := own_kept O4.out c (fun k hk e => by
          simp [Value.ownBlock] at hk
          have := (O4.out.lt b rfl).2
          have h7 := hBA.out
          omega)
        refine ⟨by rw [blk_cell (blk_kept C7C.out c (by have := hC4.out; omega))]; rfl, fun i hi => (cv_cells o9 i hi).1, blk_kept RC.out c (by have := hC4.out; omega), hb, fun i hi => ?_⟩
        obtain ⟨x, hx, cx⟩ := ri_at HRI.out i (by rw [hn65.out]; exact hi)
        injection hx with hx
        subst hx
        rw [hb.cell (World.block_lt_of_cell? _ _ cx), cx, HNA.out i]
      generalize codeB L = C at *
      clear HMS HBD HNA F1 C7C O4 RC HB4 HRI
      unfold ptr
      go_wp2_with fail
      have hd1 : decide ((nn : Int) < 0) = false := decide_eq_false (by omega)
      have hd2 : decide ((4096 : Int) < (nn : Int)) = false := decide_eq_false (by omega)
      simp only [hd1, hd2, Bool.or_false]
      clear hd1 hd2
      go_loopw [9] (fun ov wr => H1Rel C nn A wv s w4 ov wr) (fun ov _ => nn - slen ov)
      case atStart => exact ST.out
      case round =>
        clear ST
        obtain ⟨i, a0, ps, hi, hps, ha0, d1, d2, d3, d4⟩ := hrel
        obtain ⟨ao, co, rfl, ho1, ho2, ho3⟩ := own_rp d2
        by_cases hlt : i < nn
        · obtain ⟨B, hB⟩ : ∃ B, (bts s.data.toList).drop a0 = B := ⟨_, rfl⟩
          have BL : Hid (a0 + B.length = 8 * s.size) := by
            show _ = _
            rw [← hB, List.length_drop, bts_len, len_data]; omega
          have BD : Hid (∀ k, B.drop k = (bts s.data.toList).drop (a0 + k)) := fun k => by rw [← hB, List.drop_drop]
          have BG : Hid (∀ k, B[k]? = (bts s.data.toList)[a0 + k]?) := fun k => by rw [← hB, List.getElem?_drop]
          have BT : Hid (∀ x ∈ B, x < 2) := fun x hx => by rw [← hB] at hx; exact bts_lt _ x (List.mem_of_mem_drop hx)
          rw [hB] at d4
          obtain ⟨m, hm⟩ : ∃ m, nn - i = m + 1 := ⟨nn - i - 1, by omega⟩
          rw [hm] at d4
          have ST2 : Hid (H2Rel C A wv s a0 B wr (.int .i64 0) (.int .i64 (-1)) (.int .i64 1) wr) :=
            ⟨0, -1, Nat.zero_le _, Nat.zero_le _, rfl, rfl, rfl, d1, chg_refl _ _, .inl ⟨rfl, fun c _ h0 j hj e => h0 (by rw [e, show j = 0 from by omega, List.take_zero])⟩, .inl rfl⟩
          have HM := Hid.intro hm
          have D1 := Hid.intro d1
          have D2 := Hid.intro d2
          have D3 := Hid.intro d3
          have D4 := Hid.intro d4
          clear d1 d2 d3 d4 hm hB ho3
          go_wp2_with fail
          go_loopw [10, 11, 12] (fun bv cv kv w9 => H2Rel C A wv s a0 B wr bv cv kv w9) (fun _ _ kv _ => 17 - (intOf kv).toNat)
          case atStart => exact ST2.out
          case round =>
            clear ST2
            obtain ⟨k, cls, hk1, hk15, rfl, rfl, rfl, e1, e2, e3, e4⟩ := hrel
            by_cases hc : cls < 0
            · have hcn : cls = -1 ∧ ∀ c, c < 65 → C c ≠ [] → ∀ j, j ≤ k → C c ≠ B.take j := by
                rcases e3 with h | ⟨c, _, h, _⟩
                · exact h
                · omega
              obtain ⟨rfl, hno⟩ := hcn
              have NC := Hid.intro hno
              have RG := rget_any A wv (le s.data.toList) (8 * s.size) (a0 + k) 1 wr e1 (by have := BL.out; omega) (by omega)
              unfold ptr at RG
              by_cases hb : k < B.length
              · have hge : ge (8 * s.size) (a0 + k) 1 = 0 := by unfold ge; rw [if_neg (by omega), if_neg (by have := BL.out; omega)]
                have hgk : gk (8 * s.size) (a0 + k) 1 = 1 := by unfold gk; rw [if_pos hge]; rfl
                obtain ⟨x, hx⟩ : ∃ x, B[k]? = some x := ⟨_, List.getElem?_eq_getElem hb⟩
                have hx2 : x < 2 := BT.out x (List.mem_of_getElem? hx)
                rw [hge, hgk, got_bits, bts_bit (by rw [← BG.out]; exact hx)] at RG
                have TK := take_succ_get hx
                have hnum : Hid (num (B.take (k + 1)) = 2 * num (B.take k) + x) := by show _ = _; rw [TK, num_snoc]
                have hnl : num (B.take k) < 32768 := by
                  have h1 := num_lt (B.take k) (fun y hy => BT.out y (List.mem_of_mem_take hy))
                  have h2 : (B.take k).length ≤ 15 := by rw [List.length_take]; omega
                  exact Nat.lt_of_lt_of_le h1 (Nat.pow_le_pow_right (by decide) h2)
                obtain ⟨v0, hv0⟩ : ∃ v0, num (B.take k) = v0 := ⟨_, rfl⟩
                rw [hv0] at hnl hnum ⊢
                have HX := Hid.intro hx
                have E2 := Hid.intro e2
                unfold agg3 at RG
                clear e1 e2 e3 e4 hno hge hgk hx TK hv0 hc
                go_wp2_with fail
                with_reducible refine RG.mono ?_
                rintro e w6 ⟨rfl, k1, k2⟩
                have K1 := Hid.intro k1
                have E6 := Hid.intro (chg_same E2.out k2)
                clear RG k1 k2
                go_wp2_with fail
                obtain ⟨P, hP⟩ : ∃ P, B.take (k + 1) = P := ⟨_, rfl⟩
                rw [hP] at hnum
                have HP := Hid.intro hP
                have PL : Hid (P.length = k + 1) := by show _ = _; rw [← hP, List.length_take]; omega
                have PT : Hid (∀ x ∈ P, x < 2) := fun y hy => by rw [← hP] at hy; exact BT.out y (List.mem_of_mem_take hy)
                have PN : Hid (P ≠ []) := by show _ ≠ _; rw [← List.length_pos_iff, PL.out]; omega
                obtain ⟨v1, hv1⟩ : ∃ v1, num P = v1 := ⟨_, rfl⟩
                have HV1 := Hid.intro hv1
                have hor : bits .or .i64 ((v0 : Int) * 2) (x : Int) = (v1 : Int) := by rw [i64_or_bit v0 x hnl hx2, ← hnum.out, hv1]
                obtain ⟨kk, hkk⟩ : ∃ kk, k + 1 = kk := ⟨_, rfl⟩
                have HKK := Hid.intro hkk
                have hkki : (k : Int) + 1 = (kk : Int) := by omega
                try simp only [hkki]
                have hkk16 : kk ≤ 16 := by omega
                have bx := blk_new w6 #[.int .u64 (x : Int), .int .i64 0, .int .i64 0] 92
                have E7 := Hid.intro (chg_alloc E6.out (.cells #[.int .u64 (x : Int), .int .i64 0, .int .i64 0] 92))
                have K7 := Hid.intro (wk_kept (S := fun _ => False) K1.out (chg_alloc (chg_refl _ _) (.cells #[.int .u64 (x : Int), .int .i64 0, .int .i64 0] 92)) (fun _ _ h => h))
                have c0 : (w6.alloc (.cells #[.int .u64 (x : Int), .int .i64 0, .int .i64 0] 92)).cell? ⟨w6.heap.size, 0, none⟩ = some (.int .u64 (x : Int)) := by rw [blk_cell bx]; rfl
                have c2 : (w6.alloc (.cells #[.int .u64 (x : Int), .int .i64 0, .int .i64 0] 92)).cell? ⟨w6.heap.size, 2, none⟩ = some (.int .i64 0) := by rw [blk_cell bx]; rfl
                have ST3 : Hid (H3Rel C P (w6.alloc (.cells #[.int .u64 (x : Int), .int .i64 0, .int .i64 0] 92)) (.int .i64 (-1)) (.bool false) (.int .i64 0) (w6.alloc (.cells #[.int .u64 (x : Int), .int .i64 0, .int .i64 0] 92))) :=
                  ⟨0, by omega, rfl, rfl, rfl, chg_refl _ _⟩
                clear hP hv1 hnl hkk bx E6 K1 hk15 hk1
                go_wp2_with fail
                simp only [hor]
                clear c0 c2 hor hkki
                go_loopw [11, 14, 15] (fun cv bv iv w9 => H3Rel C P (w6.alloc (.cells #[.int .u64 (x : Int), .int .i64 0, .int .i64 0] 92)) cv bv iv w9) (fun _ _ iv _ => 66 - (intOf iv).toNat)
                case atStart => exact ST3.out
                case round =>
                  clear ST3
                  obtain ⟨i3, hi3, rfl, rfl, rfl, e3⟩ := hrel
                  by_cases hl3 : i3 < 65
                  · obtain ⟨y0, y1, -, -, y2⟩ := HCC.out wr (chg_same D3.out (chg_same E7.out (chg_mono e3 (fun _ _ h => h.elim))))
                    have cl := y2 i3 hl3
                    have cr := y1 i3 hl3
                    have IS : Hid (C i3 = P ↔ at0 L i3 = kk ∧ (cat (codesOf L) i3).1 = v1) := by
                      show _ ↔ _
                      rw [HIS.out i3 hl3 P PT.out, PL.out, HKK.out, HV1.out]
                    have BGN : Hid (P <+: C i3 ↔ kk ≤ at0 L i3 ∧ (cat (codesOf L) i3).1 / 2 ^ (at0 L i3 - kk) = v1) := by
                      show _ ↔ _
                      rw [HBG.out i3 hl3 P PT.out, PL.out, HKK.out, HV1.out]
                    have CL : Unit → clsF C P (i3 + 1) = if C i3 = P then (i3 : Int) else clsF C P i3 := fun _ => rfl
                    have BF : Unit → begF C P (i3 + 1) = (begF C P i3 || decide (P <+: C i3)) := fun _ => rfl
                    have hrcn := HFT.out i3 hl3
                    have hn15 : Hid (at0 L i3 ≤ 15) := HLN.out i3
                    have hcle := cls_le C P i3
                    generalize (cat (codesOf L) i3).1 = rc at *
                    generalize at0 L i3 = n at *
                    generalize clsF C P i3 = z at *
                    have hrc : rc < 32768 := Nat.lt_of_lt_of_le hrcn (Nat.pow_le_pow_right (by decide) hn15.out)
                    have hn16 : n ≤ 15 := hn15.out
                    have E3 := Hid.intro e3
                    have hnn0 : n0 = 65 := hn65.out
                    have hin0 : i3 < n0 := by omega
                    clear y1 y2 e3 hrcn hnn0
                    cases hb0 : begF C P i3 with
                    | true =>
                      by_cases hA : n = kk
                      · subst hA
                        by_cases hR : rc = v1
                        · subst hR
                          have CL2 : Unit → clsF C P (i3 + 1) = (i3 : Int) := fun _ => by rw [CL (), if_pos (IS.out.2 ⟨rfl, rfl⟩)]
                          have BF2 : Unit → begF C P (i3 + 1) = true := fun _ => by rw [BF (), hb0]; rfl
                          clear CL BF IS BGN
                          go_wp2_with fail
                          go_quiet (fail)
                          go_wp2_with fail
                          go_roundw
                          case rel => exact ⟨i3 + 1, hl3, by go_num, by rw [CL2 ()], by rw [BF2 ()] <;> rfl, chg_drewN E3.out nq⟩
                          case measure => simp [intOf]; omega
                        · have t1 : ((rc : Int) == (v1 : Int)) = false := by simp; omega
                          have t2 : decide (rc = v1) = false := decide_eq_false hR
                          have CL2 : Unit → clsF C P (i3 + 1) = z := fun _ => by rw [CL (), if_neg (fun e => hR (IS.out.1 e).2)]
                          have BF2 : Unit → begF C P (i3 + 1) = true := fun _ => by rw [BF (), hb0]; rfl
                          clear CL BF IS BGN
                          clear hR
                          go_wp2_with fail
                          go_quiet (fail)
                          go_wp2_with fail
                          go_roundw
                          case rel => exact ⟨i3 + 1, hl3, by go_num, by rw [CL2 ()], by rw [BF2 ()] <;> rfl, chg_drewN E3.out nq⟩
                          case measure => simp [intOf]; omega
                      · have t1 : ((n : Int) == (kk : Int)) = false := by simp; omega
                        have t2 : decide (n = kk) = false := decide_eq_false hA
                        have CL2 : Unit → clsF C P (i3 + 1) = z := fun _ => by rw [CL (), if_neg (fun e => hA (IS.out.1 e).1)]
                        have BF2 : Unit → begF C P (i3 + 1) = true := fun _ => by rw [BF (), hb0]; rfl
                        clear CL BF IS BGN
                        clear hA
                        go_wp2_with fail
                        go_quiet (fail)
                        go_wp2_with fail
                        go_roundw
                        case rel => exact ⟨i3 + 1, hl3, by go_num, by rw [CL2 ()], by rw [BF2 ()] <;> rfl, chg_drewN E3.out nq⟩
                        case measure => simp [intOf]; omega
                    | false =>
                      by_cases hA : n = kk
                      · subst hA
                        by_cases hR : rc = v1
                        · subst hR
                          have CL2 : Unit → clsF C P (i3 + 1) = (i3 : Int) := fun _ => by rw [CL (), if_pos (IS.out.2 ⟨rfl, rfl⟩)]
                          have BF2 : Unit → begF C P (i3 + 1) = true := fun _ => by rw [BF (), decide_eq_true (BGN.out.2 ⟨Nat.le_refl _, by rw [Nat.sub_self, Nat.pow_zero, Nat.div_one]⟩), Bool.or_true]
                          clear CL BF IS BGN
                          go_wp2_with fail
                          go_quiet (fail)
                          go_wp2_with fail
                          go_roundw
                          case rel => exact ⟨i3 + 1, hl3, by go_num, by rw [CL2 ()], by rw [BF2 ()] <;> rfl, chg_drewN E3.out nq⟩
                          case measure => simp [intOf]; omega
                        · have t1 : ((rc : Int) == (v1 : Int)) = false := by simp; omega
                          have t2 : decide (rc = v1) = false := decide_eq_false hR
                          have CL2 : Unit → clsF C P (i3 + 1) = z := fun _ => by rw [CL (), if_neg (fun e => hR (IS.out.1 e).2)]
                          have BF2 : Unit → begF C P (i3 + 1) = false := fun _ => by rw [BF (), hb0, decide_eq_false (fun e => hR (by have := (BGN.out.1 e).2; rw [Nat.sub_self, Nat.pow_zero, Nat.div_one] at this; exact this))]; rfl
                          clear CL BF IS BGN
                          clear hR
                          go_wp2_with fail
                          go_quiet (fail)
                          go_wp2_with fail
                          go_roundw
                          case rel => exact ⟨i3 + 1, hl3, by go_num, by rw [CL2 ()], by rw [BF2 ()] <;> rfl, chg_drewN E3.out nq⟩
                          case measure => simp [intOf]; omega
                      · by_cases hG : kk < n
                        · have t1 : ((n : Int) == (kk : Int)) = false := by simp; omega
                          have t2 : decide (n = kk) = false := decide_eq_false hA
                          have hge : (kk : Int) ≤ (n : Int) := by omega
                          have hgd : decide (kk ≤ n) = true := decide_eq_true (by omega)
                          obtain ⟨d, hd⟩ : ∃ d, n - kk = d := ⟨_, rfl⟩
                          have hdi : (n : Int) - (kk : Int) = (d : Int) := by omega
                          rw [hd] at BGN
                          have hyi : (rc : Int) / 2 ^ d = ((rc / 2 ^ d : Nat) : Int) := by simp
                          have hyle : rc / 2 ^ d ≤ rc := Nat.div_le_self _ _
                          have hd15 : d ≤ 15 := by omega
                          generalize rc / 2 ^ d = y at *
                          by_cases hR : y = v1
                          · subst hR
                            have CL2 : Unit → clsF C P (i3 + 1) = z := fun _ => by rw [CL (), if_neg (fun e => hA (IS.out.1 e).1)]
                            have BF2 : Unit → begF C P (i3 + 1) = true := fun _ => by rw [BF (), decide_eq_true (BGN.out.2 ⟨by omega, rfl⟩), Bool.or_true]
                            clear CL BF IS BGN
                            clear hd
                            go_wp2_with fail
                            go_quiet (fail)
                            go_wp2_with fail
                            go_roundw
                            case rel => exact ⟨i3 + 1, hl3, by go_num, by rw [CL2 ()], by rw [BF2 ()] <;> rfl, chg_drewN E3.out nq⟩
                            case measure => simp [intOf]; omega
                          · have t3 : ((y : Int) == (v1 : Int)) = false := by simp; omega
                            have t4 : decide (y = v1) = false := decide_eq_false hR
                            have CL2 : Unit → clsF C P (i3 + 1) = z := fun _ => by rw [CL (), if_neg (fun e => hA (IS.out.1 e).1)]
                            have BF2 : Unit → begF C P (i3 + 1) = false := fun _ => by rw [BF (), hb0, decide_eq_false (fun e => hR (BGN.out.1 e).2)]; rfl
                            clear CL BF IS BGN
                            clear hd hR
                            go_wp2_with fail
                            go_quiet (fail)
                            go_wp2_with fail
                            go_roundw
                            case rel => exact ⟨i3 + 1, hl3, by go_num, by rw [CL2 ()], by rw [BF2 ()] <;> rfl, chg_drewN E3.out nq⟩
                            case measure => simp [intOf]; omega
                        · have t1 : ((n : Int) == (kk : Int)) = false := by simp; omega
                          have t2 : decide (n = kk) = false := decide_eq_false hA
                          have hge : (n : Int) < (kk : Int) := by omega
                          have hgd : decide (kk ≤ n) = false := decide_eq_false (by omega)
                          have CL2 : Unit → clsF C P (i3 + 1) = z := fun _ => by rw [CL (), if_neg (fun e => hA (IS.out.1 e).1)]
                          have BF2 : Unit → begF C P (i3 + 1) = false := fun _ => by rw [BF (), hb0, decide_eq_false (fun e => hG (by have := (BGN.out.1 e).1; omega))]; rfl
                          clear CL BF IS BGN
                          go_wp2_with fail
                          go_quiet (fail)
                          go_wp2_with fail
                          go_roundw
                          case rel => exact ⟨i3 + 1, hl3, by go_num, by rw [CL2 ()], by rw [BF2 ()] <;> rfl, chg_drewN E3.out nq⟩
                          case measure => simp [intOf]; omega
                  · have e65 : i3 = 65 := by omega
                    have hni : n0 ≤ i3 := by rw [e65, hn65.out]; exact Nat.le_refl _
                    have c9 := chg_same D3.out (chg_same E7.out (chg_mono e3 (fun _ _ h => h.elim)))
                    obtain ⟨-, -, rb, hbw, -⟩ := HCC.out wr c9
                    have bgq : begF C P i3 = beg C P := by rw [e65]; exact begF_beg PN.out
                    have CA : Hid (ClsAt C B (k + 1) (clsF C P i3)) := by rw [e65]; exact cls_at PFC.out HP.out PN.out NC.out
                    clear e65
                    cases hbg : begF C P i3 with
                    | false =>
                      have G2 : Unit → g = (3, []) := fun _ => by
                        have o1 := one_bad (C := C) (B := B) (k := k) NC.out hb (by rw [HP.out, ← bgq, hbg])
                        have p1 := prt_err o1 (by decide)
                        have r1 := rd_err D4.out (by rw [p1]; decide)
                        rw [p1] at r1
                        rw [G (), hget_err r1 (by decide)]
                      obtain ⟨r0, r1, f0, f1⟩ := rb_cells rb
                      obtain ⟨q0, q1, q2⟩ := rb_end rb hbw (.slice none 0 0) (.int .i64 3)
                      have Q2 := Hid.intro q2
                      generalize clsF C P i3 = z at *
                      clear G bgq rb hbw q2 c9 e3
                      go_wp2_with fail
                      refine bodyPost_ret (v := .agg #[.slice none 0 0, .int .i64 3]) (by simp [results, Try.results13, go_sem, q0, q1]) rfl ?_
                      rw [G2 ()]
                      exact rg_none Q2.out
                    | true =>
                      have BGB : Hid (beg C P = true) := by show _ = _; rw [← bgq, hbg]
                      have K8 := Hid.intro (wk_kept K7.out e3 (fun _ _ h => h))
                      have E8 := Hid.intro (chg_same E7.out (chg_mono e3 (fun _ _ h => h.elim)))
                      have HK15 : Hid (kk ≤ 15) := by
                        show _ ≤ _
                        obtain ⟨c, _, _, h3⟩ := (beg_iff C P).1 BGB.out
                        have h4 := h3.length_le
                        have h5 := HCL.out c
                        rw [PL.out] at h4
                        rw [← HKK.out]; omega
                      generalize clsF C P i3 = z at *
                      clear bgq rb hbw c9 e3
                      go_wp2_with fail
                      go_roundw
                      case rel =>
                        refine ⟨kk, z, by rw [← HKK.out]; omega, HK15.out, by rw [← HKK.out, HP.out, HV1.out], rfl, by go_num, ?_, E8.out, by rw [← HKK.out]; exact CA.out, .inr (by rw [← HKK.out, HP.out]; exact BGB.out)⟩
                        rw [← HKK.out]; exact K8.out
                      case measure => have h5 := HK15.out; have h6 := HKK.out; simp [intOf]; omega
              · have ek : k = B.length := by omega
                have hge : ge (8 * s.size) (a0 + k) 1 = 2 := by unfold ge; rw [if_neg (by omega), if_pos (by have := BL.out; omega)]
                have hgk : gk (8 * s.size) (a0 + k) 1 = 0 := by unfold gk; rw [if_neg (by rw [hge]; decide)]
                have g0 : got (le s.data.toList) (a0 + k) 0 = 0 := by unfold got; simp [Nat.mod_one]
                rw [hge, hgk, g0] at RG
                have G2 : Unit → g = (2, []) := fun _ => by
                  have o1 := one_end (C := C) (B := B) (fun c h1 h2 j hj => NC.out c h1 h2 j (by omega)) (by
                    rcases e4 with h | h
                    · exact .inl (List.eq_nil_of_length_eq_zero (by omega))
                    · exact .inr (by rw [ek, List.take_length] at h; exact h))
                  have p1 := prt_err o1 (by decide)
                  have r1 := rd_err D4.out (by rw [p1]; decide)
                  rw [p1] at r1
                  rw [G (), hget_err r1 (by decide)]
                have E2 := Hid.intro e2
                obtain ⟨v0, hv0⟩ : ∃ v0, num (B.take k) = v0 := ⟨_, rfl⟩
                rw [hv0]
                unfold agg3 at RG
                clear e1 e2 e3 e4 hno hge hgk g0 hv0 hc
                go_wp2_with fail
                with_reducible refine RG.mono ?_
                rintro e w6 ⟨rfl, k1, k2⟩
                obtain ⟨-, -, rb, hbw, -⟩ := HCC.out _ (chg_same D3.out (chg_same E2.out k2))
                have hlt6 := blk_lt rb
                obtain ⟨r0, r1, f0, f1⟩ := rb_cells rb
                have q := blk_alloc (blk_set (blk_set rb 0 (.slice none 0 0)) 1 (.int .i64 2)) (.cells #[.int .u64 0, .int .i64 0, .int .i64 2] 92)
                have B5 := Hid.intro ((Below.setCell (Below.setCell hbw (p := ⟨w.heap.size, 0, none⟩) (Nat.le_refl _) (.slice none 0 0)) (p := ⟨w.heap.size, 1, none⟩) (Nat.le_refl _) (.int .i64 2)).alloc (by rw [Go.Deep.nblk_setCell, Go.Deep.nblk_setCell]; omega) (.cells #[.int .u64 0, .int .i64 0, .int .i64 2] 92))
                have q0 : (((w6.setCell ⟨w.heap.size, 0, none⟩ (.slice none 0 0)).setCell ⟨w.heap.size, 1, none⟩ (.int .i64 2)).alloc (.cells #[.int .u64 0, .int .i64 0, .int .i64 2] 92)).cell? ⟨w.heap.size, 0, none⟩ = some (.slice none 0 0) := by rw [blk_cell q]; rfl
                have q1 : (((w6.setCell ⟨w.heap.size, 0, none⟩ (.slice none 0 0)).setCell ⟨w.heap.size, 1, none⟩ (.int .i64 2)).alloc (.cells #[.int .u64 0, .int .i64 0, .int .i64 2] 92)).cell? ⟨w.heap.size, 1, none⟩ = some (.int .i64 2) := by rw [blk_cell q]; rfl
                clear RG k1 k2 rb hbw q G
                go_wp2_with fail
                refine bodyPost_ret (v := .agg #[.slice none 0 0, .int .i64 2]) (by simp [results, Try.results13, go_sem, q0, q1]) rfl ?_
                rw [G2 ()]
                exact rg_none B5.out
            · have hcc : ∃ c : Nat, c < 65 ∧ cls = (c : Int) ∧ C c ≠ [] ∧ C c = B.take k ∧ ∀ d, d < 65 → C d ≠ [] → ∀ j, j < k → C d ≠ B.take j := by
                rcases e3 with ⟨h, _⟩ | h
                · omega
                · exact h
              obtain ⟨c, hc65, rfl, hcn, hce, hno⟩ := hcc
              have hk0 : k ≠ 0 := fun e => by rw [e, List.take_zero] at hce; exact hcn hce
              have o1 := one_next (C := C) (B := B) (k := k - 1) (fun d h1 h2 j hj => hno d h1 h2 j (by omega)) c hc65 hcn (by rw [show k - 1 + 1 = k from by omega]; exact hce) PFC.out
              rw [show k - 1 + 1 = k from by omega] at o1
              obtain ⟨m1, hm1⟩ : ∃ m1, c - 1 = m1 := ⟨_, rfl⟩
              have RG := rget_any A wv (le s.data.toList) (8 * s.size) (a0 + k) (m1 : Int) wr e1 (by have := BL.out; omega) (by omega)
              unfold ptr at RG
              have hml : Hid ((B.drop k).length = 8 * s.size - (a0 + k)) := by show _ = _; rw [List.length_drop]; have := BL.out; omega
              obtain ⟨q9, hq9⟩ : ∃ q9 : Int, (c : Int) - 1 = q9 := ⟨_, rfl⟩
              have hmx : max 0 q9 = (m1 : Int) := by omega
              have hm64 : m1 ≤ 64 := by omega
              obtain ⟨v0, hv0⟩ : ∃ v0, num (B.take k) = v0 := ⟨_, rfl⟩
              rw [hv0]
              have E2 := Hid.intro e2
              by_cases hl : (B.drop k).length < c - 1
              · have hge : ge (8 * s.size) (a0 + k) (m1 : Int) = 2 := by unfold ge; have := hml.out; rw [if_neg (by omega), if_pos (by omega)]
                have hgk : gk (8 * s.size) (a0 + k) (m1 : Int) = 0 := by unfold gk; rw [if_neg (by rw [hge]; decide)]
                have g0 : got (le s.data.toList) (a0 + k) 0 = 0 := by unfold got; simp [Nat.mod_one]
                rw [hge, hgk, g0] at RG
                have G2 : Unit → g = (2, []) := fun _ => by
                  have p1 := prt_more o1 hl
                  have r1 := rd_err D4.out (by rw [p1]; decide)
                  rw [p1] at r1
                  rw [G (), hget_err r1 (by decide)]
                unfold agg3 at RG
                clear e1 e2 e3 e4 hno hge hgk g0 hv0 o1 hce hcn hm1 hl hk0
                go_wp2_with fail
                with_reducible refine RG.mono ?_
                rintro e w6 ⟨rfl, k1, k2⟩
                obtain ⟨-, -, rb, hbw, -⟩ := HCC.out _ (chg_same D3.out (chg_same E2.out k2))
                have hlt6 := blk_lt rb
                obtain ⟨r0, r1, f0, f1⟩ := rb_cells rb
                have q := blk_alloc (blk_set (blk_set rb 0 (.slice none 0 0)) 1 (.int .i64 2)) (.cells #[.int .u64 0, .int .i64 0, .int .i64 2] 92)
                have B5 := Hid.intro ((Below.setCell (Below.setCell hbw (p := ⟨w.heap.size, 0, none⟩) (Nat.le_refl _) (.slice none 0 0)) (p := ⟨w.heap.size, 1, none⟩) (Nat.le_refl _) (.int .i64 2)).alloc (by rw [Go.Deep.nblk_setCell, Go.Deep.nblk_setCell]; omega) (.cells #[.int .u64 0, .int .i64 0, .int .i64 2] 92))
                have q0 : (((w6.setCell ⟨w.heap.size, 0, none⟩ (.slice none 0 0)).setCell ⟨w.heap.size, 1, none⟩ (.int .i64 2)).alloc (.cells #[.int .u64 0, .int .i64 0, .int .i64 2] 92)).cell? ⟨w.heap.size, 0, none⟩ = some (.slice none 0 0) := by rw [blk_cell q]; rfl
                have q1 : (((w6.setCell ⟨w.heap.size, 0, none⟩ (.slice none 0 0)).setCell ⟨w.heap.size, 1, none⟩ (.int .i64 2)).alloc (.cells #[.int .u64 0, .int .i64 0, .int .i64 2] 92)).cell? ⟨w.heap.size, 1, none⟩ = some (.int .i64 2) := by rw [blk_cell q]; rfl
                clear RG k1 k2 rb hbw q G hq9 hmx
                go_wp2_with fail
                refine bodyPost_ret (v := .agg #[.slice none 0 0, .int .i64 2]) (by simp [results, Try.results13, go_sem, q0, q1]) rfl ?_
                rw [G2 ()]
                exact rg_none B5.out
              · have hge : ge (8 * s.size) (a0 + k) (m1 : Int) = 0 := by unfold ge; have := hml.out; have := BL.out; rw [if_neg (by omega), if_neg (by omega)]
                have hgk : gk (8 * s.size) (a0 + k) (m1 : Int) = m1 := by unfold gk; rw [if_pos hge]; simp
                rw [hge, hgk, got_bits, ← BD.out k] at RG
                have p1 := prt_ok o1 hl
                have RN := rd_next D4.out (by rw [p1])
                rw [p1, hm1] at RN
                simp only at RN
                have hzb : b2 ((B.drop k).take m1) < 2 ^ 64 := by
                  have h1 := b2_lt ((B.drop k).take m1) (fun x hx => BT.out x (List.mem_of_mem_drop (List.mem_of_mem_take hx)))
                  have h2 : ((B.drop k).take m1).length ≤ 64 := by rw [List.length_take]; omega
                  exact Nat.lt_of_lt_of_le h1 (Nat.pow_le_pow_right (by decide) h2)
                obtain ⟨z, hz⟩ : ∃ z, b2 ((B.drop k).take m1) = z := ⟨_, rfl⟩
                rw [hz] at RG RN hzb
                have hle9 : Hid (a0 + k + m1 ≤ 8 * s.size) := by show _ ≤ _; have := hml.out; have := BL.out; omega
                have RNH := Hid.intro RN
                have HD9 : Hid ((B.drop k).drop m1 = (bts s.data.toList).drop (a0 + k + m1)) := by show _ = _; rw [BD.out k, List.drop_drop]
                unfold agg3 at RG
                clear e1 e2 e3 e4 hno hge hgk hv0 o1 hce hcn hm1 hl hk0 p1 RN hz
                go_wp2_with fail
                with_reducible refine RG.mono ?_
                rintro e w6 ⟨rfl, k1, k2⟩
                have c6 := chg_same E2.out k2
                have d6 := own_kept D2.out c6 (fun j hj e => by have h1 := (D2.out.lt j hj).1; have h2 := (FA.out A (.inl rfl)).2; omega)
                have d8 := World.ownsRow.alloc (World.ownsRow.alloc (own_low d6 (Nat.zero_le _)) (.cells #[.int .u64 (z : Int), .int .i64 0, .int .i64 0] 92)) (.cells #[.int .i64 (c : Int), .int .u64 (z : Int)] 54)
                have K8 := Hid.intro (wk_kept (S := fun _ => False) k1 (chg_alloc (chg_alloc (chg_refl _ _) (.cells #[.int .u64 (z : Int), .int .i64 0, .int .i64 0] 92)) (.cells #[.int .i64 (c : Int), .int .u64 (z : Int)] 54)) (fun _ _ h => h))
                have E8 := Hid.intro (chg_alloc (chg_alloc (chg_same D3.out c6) (.cells #[.int .u64 (z : Int), .int .i64 0, .int .i64 0] 92)) (.cells #[.int .i64 (c : Int), .int .u64 (z : Int)] 54))
                have hs7 : (w6.alloc (.cells #[.int .u64 (z : Int), .int .i64 0, .int .i64 0] 92)).heap.size = w6.heap.size + 1 := by simp
                have tn := two_new (w6.alloc (.cells #[.int .u64 (z : Int), .int .i64 0, .int .i64 0] 92)) (.int .i64 (c : Int)) (.int .u64 (z : Int)) 54
                rw [hs7] at tn
                obtain ⟨i0, hi0, hz0, hs0, hb0⟩ := info_all info54
                have hi4096 : i ≤ 4096 := by omega
                clear RG k1 k2 c6 d6 hs7
                go_wp2_with (at_builtin; refine wpList_push _ rfl (.tmp 113) (.tmp 118) 22 rfl 54 i0 (.agg #[.int .i64 0, .int .u64 0]) 2 16 Try.underlying22 hi0 hz0 hs0 hb0 rfl (by decide) (by decide) (.slice ao i co) i (pvs (ps.map toI)) rfl d8 ⟨w6.heap.size + 1, 0, none⟩ 1 1 [.int .i64 (c : Int), .int .u64 (z : Int)] rfl rfl tn (pv_one _ _) (by omega) ?_)
                intro v9 w9 o9 g9 m9
                have fu : From w4.heap.size (.slice ao i co) := fun j hj => (D2.out.lt j hj).1
                have hsz8 : w4.heap.size ≤ ((w6.alloc (.cells #[.int .u64 (z : Int), .int .i64 0, .int .i64 0] 92)).alloc (.cells #[.int .i64 (c : Int), .int .u64 (z : Int)] 54)).heap.size := chg_size E8.out
                have JJ : Hid (H1Rel C nn A wv s w4 v9 w9) := by
                  refine ⟨i + 1, a0 + k + m1, ps ++ [(c, z)], by omega, by simp [hps], hle9.out, ?_, ?_, ?_, ?_⟩
                  · exact wk_kept (S := fun j => (Value.slice ao i co).ownBlock = some j) K8.out (chg_grown (chg_refl _ _) g9 (fun j hj _ => hj.symm ▸ rfl)) (fun j hj e => by have h1 := (FA.out j hj).2; have h2 := fu j e; omega)
                  · refine own_up (base := 0) ?_ (from_moved fu m9 hsz8)
                    rw [List.map_append, pvs_append]
                    exact o9
                  · exact chg_grown E8.out g9 (fun j hj hlt => by have h2 := fu j hj; omega)
                  · rw [show nn - (i + 1) = m from by have := HM.out; omega, ← HD9.out]; exact RNH.out
                have hsl : slen v9 = i + 1 := by obtain ⟨b9, c9, rfl⟩ := own_slice o9 (by omega); rfl
                obtain ⟨b9, c9, rfl⟩ := own_slice o9 (by omega)
                clear o9 g9 m9 fu hsz8 d8 tn hmx hq9
                go_wp2_with fail
                go_roundw
                case rel => exact JJ.out
                case measure => simp [slen]; omega
        · have hin : i = nn := by omega
          have hm0 : nn - i = 0 := by omega
          rw [hm0] at d4
          have RS := rrest_any A wv s a0 wr d1 hs ha0
          rw [rs_eq s a0 ha0] at RS
          unfold ptr at RS
          have G2 : Unit → g = if ((bts s.data.toList).drop a0).length < 8 ∧ b2 ((bts s.data.toList).drop a0) = 0 then (0, ps) else (3, []) := fun _ => by rw [G (), hget_end (rd_end d4)]
          generalize ((bts s.data.toList).drop a0) = Q at *
          have D3 := Hid.intro d3
          have D2 := Hid.intro d2
          clear d1 d2 d3 d4 hin hm0 ho3 G
          by_cases hq : Q.length < 8 ∧ b2 Q = 0
          · rw [decide_eq_true hq] at RS
            have G3 : Unit → g = (0, ps) := fun _ => by rw [G2 (), if_pos hq]
            clear G2 hq
            go_wp2_with fail
            with_reducible refine RS.mono ?_
            rintro e w5 ⟨rfl, k4⟩
            obtain ⟨-, -, rb, hbw, -⟩ := HCC.out _ (chg_same D3.out (chg_mono k4 (fun _ _ h => h.elim)))
            obtain ⟨r0, r1, f0, f1⟩ := rb_cells rb
            obtain ⟨q0, q1, q2⟩ := rb_end rb hbw (.slice ao i co) (.int .i64 0)
            have cst : Chg (· = w.heap.size) w5 ((w5.setCell ⟨w.heap.size, 0, none⟩ (.slice ao i co)).setCell ⟨w.heap.size, 1, none⟩ (.int .i64 0)) := chg_in (chg_in (chg_refl _ _) _ _) _ _
            have o5 := own_kept (own_kept D2.out k4 (fun _ _ h => h)) cst (fun j hj e => by have h1 := (D2.out.lt j hj).1; have h2 := (FA.out A (.inl rfl)).2; have h3 := hC4.out; omega)
            obtain ⟨a9, c9, hv, s1, s2, s3⟩ := own_rp o5
            injection hv with h1 h2 h3
            subst h1 h3
            have S3 := Hid.intro s3
            have Q2 := Hid.intro q2
            clear RS k4 rb hbw q2 cst o5 s3
            go_wp2_with fail
            refine bodyPost_ret (v := .agg #[.slice ao i co, .int .i64 0]) (by simp [results, Try.results13, go_sem, q0, q1]) rfl ?_
            rw [G3 ()]
            exact ⟨_, i, _, rfl, S3.out, by omega, s1, s2, Q2.out⟩
          · rw [decide_eq_false hq] at RS
            have G3 : Unit → g = (3, []) := fun _ => by rw [G2 (), if_neg hq]
            clear G2 hq
            go_wp2_with fail
            with_reducible refine RS.mono ?_
            rintro e w5 ⟨rfl, k4⟩
            obtain ⟨-, -, rb, hbw, -⟩ := HCC.out _ (chg_same D3.out (chg_mono k4 (fun _ _ h => h.elim)))
            obtain ⟨r0, r1, f0, f1⟩ := rb_cells rb
            obtain ⟨q0, q1, q2⟩ := rb_end rb hbw (.slice none 0 0) (.int .i64 3)
            have Q2 := Hid.intro q2
            clear RS k4 rb hbw q2
            go_wp2_with fail
            refine bodyPost_ret (v := .agg #[.slice none 0 0, .int .i64 3]) (by simp [results, Try.results13, go_sem, q0, q1]) rfl ?_
            rw [G3 ()]
            exact rg_none Q2.out
  · have hm' : mayL f = false := by simpa using hm
    have CN := rcanon_no a n0 cap f _ (ri_below h b1) hn0 hm'
    have G : Unit → getH f s.data.toList n = (3, []) := fun _ => by unfold getH; rw [if_pos hm']
    generalize getH f s.data.toList n = g at *
    have B1 := Hid.intro b1
    have BK := Hid.intro bk
    have SZ1 := Hid.intro sz1
    clear h hm hm' b1 bk sz1
    go_enter Try.func13, Try.ntmps13
    go_wp2_with fail
    with_reducible refine CN.mono ?_
    rintro e w2 ⟨rfl, k2⟩
    have rb := blk_below BK.out k2 (by rw [SZ1.out]; omega)
    have hb2 := B1.out.trans (k2.mono B1.out.size)
    have hlt2 : w.heap.size < w2.heap.size := by have := k2.size; have := SZ1.out; omega
    obtain ⟨r0, r1, f0, f1⟩ := rb_cells rb
    have q := blk_alloc (blk_set (blk_set rb 0 (.slice none 0 0)) 1 (.int .i64 3)) (.cells #[.slice none 0 0, .int .i64 3] 74)
    have B5 := Hid.intro ((Below.setCell (Below.setCell hb2 (p := ⟨w.heap.size, 0, none⟩) (Nat.le_refl _) (.slice none 0 0)) (p := ⟨w.heap.size, 1, none⟩) (Nat.le_refl _) (.int .i64 3)).alloc (by rw [Go.Deep.nblk_setCell, Go.Deep.nblk_setCell]; omega) (.cells #[.slice none 0 0, .int .i64 3] 74))
    have q0 : (((w2.setCell ⟨w.heap.size, 0, none⟩ (.slice none 0 0)).setCell ⟨w.heap.size, 1, none⟩ (.int .i64 3)).alloc (.cells #[.slice none 0 0, .int .i64 3] 74)).cell? ⟨w.heap.size, 0, none⟩ = some (.slice none 0 0) := by rw [blk_cell q]; rfl
    have q1 : (((w2.setCell ⟨w.heap.size, 0, none⟩ (.slice none 0 0)).setCell ⟨w.heap.size, 1, none⟩ (.int .i64 3)).alloc (.cells #[.slice none 0 0, .int .i64 3] 74)).cell? ⟨w.heap.size, 1, none⟩ = some (.int .i64 3) := by rw [blk_cell q]; rfl
    clear CN k2 hb2 rb q
    go_wp2_with fail
    refine bodyPost_ret (v := .agg #[.slice none 0 0, .int .i64 3]) (by simp [results, Try.results13, go_sem, q0, q1]) rfl ?_
    rw [G ()]
    exact rg_none B5.out
end Go.Proofs.Ytlkebkchbgpnpaa
