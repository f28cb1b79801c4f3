/-
  The tree of codes; the next bit of a reader; a class is found by its code; a part is read; rows of parts; what Get tells; may a part be put?.
-/
import Derived.Test.YtlkebkchbgpnpaaHg
import Derived.Test.YtlkebkchbgpnpaaCd
import Derived.Test.YtlkebkchbgpnpaaHp
import Derived.Test.YtlkebkchbgpnpaaOfy
import Derived.Test.YtlkebkchbgpnpaaAl
import Derived.Deep.RegionWith
import Derived.Laws.MakeOwn
import Derived.BigQuiet
namespace Go.Proofs.Ytlkebkchbgpnpaa
open Go.ChangeShapes Go.WideShapes Go.ChangeAt Go.RowKit
open Go.ChangeMaps (open_string shut_string)

/-- The tree of the first k classes' codes. -/
def TrRel (C : Nat → List Nat) (A0 : Nat) (w : World) (iv : Value) (wr : World) : Prop :=
  ∃ (k : Nat) (G : List Nat → Nat) (D : List Nat → Bool) (E : List Nat → Option Nat), k ≤ 65 ∧ iv = .int .i64 k ∧ G [] = A0 ∧ Tre wr w.heap.size G D E ∧ TSpec C k D E ∧ Below w.heap.size w wr
set_option maxRecDepth 100000 in
set_option maxHeartbeats 1000000 in
theorem treeOf_any (L : List Nat) (hb : ∀ c, at0 L c ≤ 15) (hs : mS L 65 ≤ 32768) (R cap base : Nat) (w : World) (o : w.ownsRow base 68 2 (.slice (some ⟨R, 0, none⟩) 65 cap) 65 (cvs (codesOf L))) :
    Calls Try.prog 35 #[.slice (some ⟨R, 0, none⟩) 65 cap] w fun e w' => ∃ G D E, e = .returned (ptr (G [])) ∧ Tre w' w.heap.size G D E ∧ TSpec (codeB L) 65 D E ∧ Below w.heap.size w w' := by
  have CC : Hid (∀ k, k < 65 → w.cell? ⟨R, k * 2, none⟩ = some (.int .i64 ((cat (codesOf L) k).1 : Int)) ∧ w.cell? ⟨R, k * 2 + 1, none⟩ = some (.int .i64 (at0 L k : Int)) ∧ (cat (codesOf L) k).1 < 2 ^ at0 L k ∧ at0 L k ≤ 15 ∧ codeB L k = msb (at0 L k) (cat (codesOf L) k).1) := by
    intro k hk
    obtain ⟨h1, h2, -, -⟩ := cv_cells o k hk
    rw [code_len L hb k hk] at h2
    exact ⟨h1, h2, code_fit L hb hs k hk, hb k, rfl⟩
  have PFC : Hid (PF (codeB L)) := codeB_pf hb hs
  clear hs hb o
  generalize codeB L = C at *
  generalize at0 L = ln at *
  generalize codesOf L = cod at *
  have ST : Hid (TrRel C w.heap.size w (.int .i64 0) (w.alloc (.cells #[.pointer none, .pointer none, .int .i64 0, .bool false] 116))) :=
    ⟨0, _, _, _, Nat.zero_le _, rfl, rfl, tre_new w, ts_zero C, (Below.refl _ _).alloc (Nat.le_refl _) _⟩
  obtain ⟨A0, hA⟩ : ∃ A0, w.heap.size = A0 := ⟨_, rfl⟩
  have HA := Hid.intro hA
  go_enter Try.func35, Try.ntmps35
  go_wp2_with fail
  clear hA
  go_loopw [11] (fun iv wr => TrRel C w.heap.size w iv wr) (fun iv _ => 66 - (intOf iv).toNat)
  case atStart => exact ST.out
  case round =>
    clear ST
    obtain ⟨k, G, D, E, hk, rfl, d1, d2, d3, d4⟩ := hrel
    by_cases hlt : k < 65
    · obtain ⟨c0, c1, hfit, h15, hC⟩ := CC.out k hlt
      rw [← d4.cell (World.block_lt_of_cell? _ _ c0)] at c0
      rw [← d4.cell (World.block_lt_of_cell? _ _ c1)] at c1
      generalize (cat cod k).1 = r at *
      generalize ln k = n at *
      have hr : r ≤ 100000 := by
        have : 2 ^ n ≤ 2 ^ 15 := Nat.pow_le_pow_right (by decide) h15
        omega
      have HC := Hid.intro hC
      by_cases hn : n = 0
      · subst hn
        have TS := Hid.intro (ts_none d3 hC)
        have D2 := Hid.intro d2
        have D4 := Hid.intro d4
        clear d2 d3 d4 hC hfit
        go_wp2_with fail
        go_roundw
        case rel => exact ⟨k + 1, G, D, E, hlt, by go_num, d1, tre_alloc D2.out _, TS.out, D4.out.alloc D4.out.size _⟩
        case measure => simp [intOf]; omega
      · have T1 := tre_alloc d2 (.cells #[.int .i64 (r : Int), .int .i64 (n : Int)] 68)
        have GR := grow_any G D E w.heap.size r n w _ T1 rfl (d4.alloc d4.size _) hr h15
        rw [d1, HA.out, ← hC] at GR
        unfold ptr at GR
        have hCk : C k ≠ [] := by rw [hC, ← List.length_pos_iff, msb_len]; omega
        have TS := Hid.intro (ts_some PFC.out hlt d3 hCk)
        have D20 := Hid.intro d2.1
        have HP : Hid (Dp D (C k) (C k) = true) := (dp_iff _ _ _).2 (.inr List.prefix_rfl)
        clear T1 d2 d3 d4 hC hfit hCk
        go_wp2_with fail
        with_reducible refine GR.mono ?_
        rintro e w2 ⟨G2, rfl, k1, k2, k3⟩
        clear GR
        obtain ⟨-, -, n2, n3⟩ := tre_cells k1 (C k) HP.out
        have z2 := tre_free k1 (C k) HP.out 2
        have z3 := tre_free k1 (C k) HP.out 3
        have T2 := Hid.intro (tre_end k1 (C k) HP.out k)
        have T3 : Hid (A0 ≤ G2 (C k)) := (tre_lt k1 (C k) HP.out).1
        have K2 := Hid.intro k2
        have K3 := Hid.intro k3
        clear k1 k2 k3
        go_wp2_with fail
        go_roundw
        case rel => exact ⟨k + 1, G2, _, _, hlt, by go_num, by rw [K2.out [] D20.out]; exact d1, by rw [HA.out]; exact T2.out, TS.out, by rw [HA.out]; exact Below.setCell (Below.setCell K3.out (p := ⟨G2 (C k), 2, none⟩) T3.out _) (p := ⟨G2 (C k), 3, none⟩) T3.out _⟩
        case measure => simp [intOf]; omega
    · obtain rfl : k = 65 := by omega
      have D2 := Hid.intro d2
      have D3 := Hid.intro d3
      have D4 := Hid.intro d4
      clear d2 d3 d4
      go_wp2_with fail
      go_ret
      exact ⟨G, D, E, by rw [d1, HA.out]; rfl, D2.out, D3.out, D4.out⟩

theorem bts_bit {l : List UInt8} {a x : Nat} (h : (bts l)[a]? = some x) : b2 (((bts l).drop a).take 1) = x := by
  obtain ⟨ha, e⟩ := List.getElem?_eq_some_iff.1 h
  rw [List.drop_eq_getElem_cons ha, e]
  simp [b2]
set_option maxRecDepth 100000 in
/-- The next bit, while there is one. -/
theorem bit_yes (R T : Nat) (s : ByteArray) (a x : Nat) (W : World) (h : Rd W R s a) (hs : s.size ≤ 100000) (ha : a < 8 * s.size) (hx : (bts s.data.toList)[a]? = some x) :
    Calls Try.prog 55 #[.agg #[.pointer (some ⟨R, 0, none⟩), .pointer (some ⟨T, 0, none⟩)]] W fun e W' => e = .returned (.tuple #[.int .u64 (x : Int), .int .i64 0]) ∧ Rd W' R s (a + 1) ∧ Chg (· = R) W W' := by
  have hge : ge (8 * s.size) a 1 = 0 := by unfold ge; rw [if_neg (by omega), if_neg (by omega)]
  have hgk : gk (8 * s.size) a 1 = 1 := by unfold gk; rw [if_pos hge]; rfl
  have G := get_any R s a 1 (W.alloc (.cells #[.pointer (some ⟨R, 0, none⟩), .pointer (some ⟨T, 0, none⟩)] 86)) (blk_alloc h _) hs (by omega)
  unfold GetPost at G
  rw [hge, hgk, got_bits, bts_bit hx] at G
  have hc : Hid (Chg (· = R) W (W.alloc (.cells #[.pointer (some ⟨R, 0, none⟩), .pointer (some ⟨T, 0, none⟩)] 86))) := chg_alloc (chg_refl _ _) _
  clear h hx hge hgk ha hs
  unfold ptr at G
  go_enter Try.func55, Try.ntmps55
  go_wp2_with fail
  with_reducible refine G.mono ?_
  rintro e w1 ⟨rfl, k1, k2⟩
  go_wp2_with fail
  go_ret2
  exact ⟨rfl, k1, chg_same hc.out k2⟩
set_option maxRecDepth 100000 in
theorem bit_no (R T : Nat) (s : ByteArray) (a : Nat) (W : World) (h : Rd W R s a) (hs : s.size ≤ 100000) (ha : a = 8 * s.size) :
    Calls Try.prog 55 #[.agg #[.pointer (some ⟨R, 0, none⟩), .pointer (some ⟨T, 0, none⟩)]] W fun e W' => e = .returned (.tuple #[.int .u64 0, .int .i64 2]) ∧ Rd W' R s a ∧ Chg (· = R) W W' := by
  have hge : ge (8 * s.size) a 1 = 2 := by unfold ge; rw [if_neg (by omega), if_pos (by omega)]
  have hgk : gk (8 * s.size) a 1 = 0 := by unfold gk; rw [if_neg (by rw [hge]; decide)]
  have G := get_any R s a 1 (W.alloc (.cells #[.pointer (some ⟨R, 0, none⟩), .pointer (some ⟨T, 0, none⟩)] 86)) (blk_alloc h _) hs (by omega)
  unfold GetPost at G
  have g0 : got (le s.data.toList) a 0 = 0 := by unfold got; simp [Nat.mod_one]
  rw [hge, hgk, g0] at G
  have hc : Hid (Chg (· = R) W (W.alloc (.cells #[.pointer (some ⟨R, 0, none⟩), .pointer (some ⟨T, 0, none⟩)] 86))) := chg_alloc (chg_refl _ _) _
  clear h hge hgk ha hs g0
  unfold ptr at G
  go_enter Try.func55, Try.ntmps55
  go_wp2_with fail
  with_reducible refine G.mono ?_
  rintro e w1 ⟨rfl, k1, k2⟩
  go_wp2_with fail
  go_ret2
  exact ⟨rfl, k1, chg_same hc.out k2⟩

/-- How far a reader has come. -/
def rdat (R : Nat) (wr : World) : Nat :=
  match wr.cell? ⟨R, 1, none⟩ with
  | some (.int _ z) => z.toNat
  | _ => 0
theorem rdat_of {R : Nat} {wr : World} {s : ByteArray} {a : Nat} (h : Rd wr R s a) : rdat R wr = a := by
  have : wr.cell? ⟨R, 1, none⟩ = some (.int .i64 (a : Int)) := by rw [blk_cell h]; rfl
  unfold rdat; rw [this]; simp
/-- Behind k bits: no code came so far. -/
def FiRel (C : Nat → List Nat) (G : List Nat → Nat) (D : List Nat → Bool) (R : Nat) (s : ByteArray) (a : Nat) (B : List Nat) (W : World) (tv : Value) (wr : World) : Prop :=
  ∃ k, k ≤ B.length ∧ tv = ptr (G (B.take k)) ∧ D (B.take k) = true ∧ (∀ c, c < 65 → C c ≠ [] → ∀ j, j < k → C c ≠ B.take j) ∧ Rd wr R s (a + k) ∧ Chg (· = R) W wr
def FdPost (o : Nat × Nat × List Nat) (R : Nat) (s : ByteArray) (W : World) (e : Ending) (W' : World) : Prop :=
  e = .returned (.tuple #[.int .i64 (o.2.1 : Nat), .int .i64 (o.1 : Nat)]) ∧ ∃ a', a' ≤ 8 * s.size ∧ Rd W' R s a' ∧ (o.1 = 0 → o.2.2 = (bts s.data.toList).drop a') ∧ Chg (· = R) W W'
set_option maxRecDepth 100000 in
set_option maxHeartbeats 1000000 in
theorem find_any (C : Nat → List Nat) (pf : PF C) (G : List Nat → Nat) (D : List Nat → Bool) (E : List Nat → Option Nat) (B0 R : Nat) (s : ByteArray) (a : Nat) (W : World) (ht : Tre W B0 G D E) (sp : TSpec C 65 D E) (hR : R < B0) (h : Rd W R s a) (hs : s.size ≤ 100000) (ha : a ≤ 8 * s.size) :
    Calls Try.prog 54 #[.pointer (some ⟨G [], 0, none⟩), .func (.func 55) #[.agg #[.pointer (some ⟨R, 0, none⟩), .pointer (some ⟨G [], 0, none⟩)]] #[]] W (FdPost (one C ((bts s.data.toList).drop a)) R s W) := by
  obtain ⟨B, hB⟩ : ∃ B, (bts s.data.toList).drop a = B := ⟨_, rfl⟩
  have BL : Hid (a + B.length = 8 * s.size) := by
    show _ = _
    rw [← hB, List.length_drop, bts_len, len_data]; omega
  have BD : Hid (∀ k, B.drop k = (bts s.data.toList).drop (a + k)) := fun k => by rw [← hB, List.drop_drop]
  have BG : Hid (∀ k, B[k]? = (bts s.data.toList)[a + k]?) := fun k => by rw [← hB, List.getElem?_drop]
  have BT : Hid (∀ x ∈ B, x < 2) := fun x hx => by rw [← hB] at hx; exact bts_lt _ x (List.mem_of_mem_drop hx)
  have TW : Hid (∀ w', Chg (· = R) W w' → Tre w' B0 G D E) := fun w' c => tre_kept ht c (fun P hP e => by have := (tre_lt ht P hP).1; omega)
  have ST : Hid (FiRel C G D R s a B W (.pointer (some ⟨G [], 0, none⟩)) W) := ⟨0, Nat.zero_le _, rfl, ht.1, fun c _ _ j hj => by omega, h, chg_refl _ _⟩
  have HP := Hid.intro pf
  have HS := Hid.intro sp
  rw [hB]
  obtain ⟨o, ho⟩ : ∃ o, one C B = o := ⟨_, rfl⟩
  have HO := Hid.intro ho
  rw [ho]
  obtain ⟨T, hT⟩ : ∃ T, G [] = T := ⟨_, rfl⟩
  rw [hT] at ST ⊢
  clear ht sp h hB pf ho hT
  go_enter Try.func54, Try.ntmps54
  go_wp2_with fail
  go_loopw [0] (fun tv wr => FiRel C G D R s a B W tv wr) (fun _ wr => 8 * s.size - rdat R wr)
  case atStart => exact ST.out
  case round =>
    clear ST
    obtain ⟨k, hk, rfl, d1, d2, d3, d4⟩ := hrel
    obtain ⟨P, hP⟩ : ∃ P, B.take k = P := ⟨_, rfl⟩
    rw [hP] at d1 ⊢
    obtain ⟨-, -, n2, n3⟩ := tre_cells (TW.out wr d4) P d1
    unfold ptr
    cases hE : E P with
    | some c =>
      rw [hE] at n2 n3
      have n2' : wr.cell? ⟨G P, 2, none⟩ = some (.int .i64 (c : Int)) := n2
      have n3' : wr.cell? ⟨G P, 3, none⟩ = some (.bool true) := n3
      have FIN : Hid (FdPost o R s W (.returned (.tuple #[.int .i64 (c : Int), .int .i64 0])) wr) := by
        obtain ⟨c1, c2, c3⟩ := (HS.out.2 P c).1 hE
        have hk0 : k ≠ 0 := fun e => by rw [e, List.take_zero] at hP; rw [← hP] at c3; exact c2 c3
        obtain ⟨j, rfl⟩ : ∃ j, k = j + 1 := ⟨k - 1, by omega⟩
        have o1 := one_next (C := C) (B := B) (k := j) (fun d h1 h2 i hi => d2 d h1 h2 i (by omega)) c c1 c2 (by rw [c3, hP]) HP.out
        rw [HO.out] at o1
        rw [o1]
        exact ⟨rfl, a + (j + 1), by have := BL.out; omega, d3, fun _ => BD.out _, d4⟩
      clear hE n2 n3 d1 d2 d3 d4 hP
      go_wp2_with fail
      go_ret2
      exact FIN.out
    | none =>
      rw [hE] at n3
      have n3' : wr.cell? ⟨G P, 3, none⟩ = some (.bool false) := n3
      have NC : Hid (∀ c, c < 65 → C c ≠ [] → ∀ j, j ≤ k → C c ≠ B.take j) := fun c h1 h2 j hj e => by
        rcases Nat.lt_or_ge j k with g | g
        · exact d2 c h1 h2 j g e
        · have ej : j = k := by omega
          rw [ej, hP] at e
          have := (HS.out.2 P c).2 ⟨h1, h2, e⟩
          rw [hE] at this; cases this
      have D1 := Hid.intro d1
      have D4 := Hid.intro d4
      by_cases hlt : k < B.length
      · obtain ⟨x, hx⟩ : ∃ x, B[k]? = some x := ⟨_, List.getElem?_eq_getElem hlt⟩
        have TK := take_succ_get hx
        rw [hP] at TK
        have hx2 : x < 2 := BT.out x (List.mem_of_getElem? hx)
        have BY := bit_yes R T s (a + k) x wr d3 hs (by have := BL.out; omega) (by rw [← BG.out]; exact hx)
        have RD := Hid.intro (rdat_of d3)
        have HTK := Hid.intro TK
        have LE : Hid (a + k < 8 * s.size) := by show _ < _; have := BL.out; omega
        clear hE n2 n3 d1 d2 d3 d4 hP hx TK
        go_wp2_with fail
        with_reducible refine BY.mono ?_
        rintro e w1 ⟨rfl, k1, k2⟩
        clear BY n3'
        have D5 := Hid.intro (chg_same D4.out k2)
        obtain ⟨n0, n1, -, -⟩ := tre_cells (TW.out w1 D5.out) P D1.out
        have K1 := Hid.intro k1
        clear k1 k2
        rcases (by omega : x = 0 ∨ x = 1) with rfl | rfl
        · by_cases hD : D (P ++ [0]) = true
          · rw [kid_yes hD] at n0
            have HD := Hid.intro hD
            clear hD n1
            go_wp2_with fail
            go_roundw
            case rel => exact ⟨k + 1, hlt, by rw [HTK.out]; rfl, by rw [HTK.out]; exact HD.out, fun c h1 h2 j hj => NC.out c h1 h2 j (by omega), K1.out, D5.out⟩
            case measure => rw [RD.out, rdat_of K1.out]; have := LE.out; omega
          · have hD' : D (P ++ [0]) = false := by simpa using hD
            rw [kid_no hD'] at n0
            have FIN : Hid (FdPost o R s W (.returned (.tuple #[.int .i64 0, .int .i64 3])) w1) := by
              have o1 := one_bad (C := C) (B := B) (k := k) NC.out hlt (by
                rw [HTK.out]
                cases hb : beg C (P ++ [0]) with
                | false => rfl
                | true =>
                  exfalso
                  have := (HS.out.1 (P ++ [0])).2 (.inr ((beg_iff C _).1 hb))
                  rw [hD'] at this; cases this)
              rw [HO.out] at o1
              rw [o1]
              exact ⟨rfl, _, by have := LE.out; omega, K1.out, (fun h => by cases h), D5.out⟩
            clear hD hD' n1
            go_wp2_with fail
            go_ret2
            exact FIN.out
        · by_cases hD : D (P ++ [1]) = true
          · rw [kid_yes hD] at n1
            have HD := Hid.intro hD
            clear hD n0
            go_wp2_with fail
            go_roundw
            case rel => exact ⟨k + 1, hlt, by rw [HTK.out]; rfl, by rw [HTK.out]; exact HD.out, fun c h1 h2 j hj => NC.out c h1 h2 j (by omega), K1.out, D5.out⟩
            case measure => rw [RD.out, rdat_of K1.out]; have := LE.out; omega
          · have hD' : D (P ++ [1]) = false := by simpa using hD
            rw [kid_no hD'] at n1
            have FIN : Hid (FdPost o R s W (.returned (.tuple #[.int .i64 0, .int .i64 3])) w1) := by
              have o1 := one_bad (C := C) (B := B) (k := k) NC.out hlt (by
                rw [HTK.out]
                cases hb : beg C (P ++ [1]) with
                | false => rfl
                | true =>
                  exfalso
                  have := (HS.out.1 (P ++ [1])).2 (.inr ((beg_iff C _).1 hb))
                  rw [hD'] at this; cases this)
              rw [HO.out] at o1
              rw [o1]
              exact ⟨rfl, _, by have := LE.out; omega, K1.out, (fun h => by cases h), D5.out⟩
            clear hD hD' n0
            go_wp2_with fail
            go_ret2
            exact FIN.out
      · have ek : k = B.length := by omega
        have BY := bit_no R T s (a + k) wr d3 hs (by have := BL.out; omega)
        have FIN : Hid (∀ w1, Rd w1 R s (a + k) → Chg (· = R) wr w1 → FdPost o R s W (.returned (.tuple #[.int .i64 0, .int .i64 2])) w1) := by
          intro w1 r1 c1
          have eB : P = B := by rw [← hP, ek, List.take_length]
          have o1 := one_end (C := C) (B := B) (fun c h1 h2 j hj => NC.out c h1 h2 j (by omega)) (by
            rw [eB] at d1
            rcases (HS.out.1 B).1 d1 with g | g
            · exact .inl g
            · exact .inr ((beg_iff C B).2 g))
          rw [HO.out] at o1
          rw [o1]
          exact ⟨rfl, a + k, by have := BL.out; omega, r1, (fun h => by cases h), chg_same D4.out c1⟩
        clear hE n2 n3 d1 d2 d3 d4 hP
        go_wp2_with fail
        with_reducible refine BY.mono ?_
        rintro e w1 ⟨rfl, k1, k2⟩
        clear BY n3'
        have FI2 := Hid.intro (FIN.out w1 k1 k2)
        clear FIN k1 k2
        go_wp2_with fail
        go_ret2
        exact FI2.out

/-- One part: the error, the part, what is left. -/
def prt (C : Nat → List Nat) (B : List Nat) : Nat × (Nat × Nat) × List Nat :=
  if (one C B).1 ≠ 0 then ((one C B).1, (0, 0), [])
  else if (one C B).2.2.length < (one C B).2.1 - 1 then (2, ((one C B).2.1, 0), [])
  else (0, ((one C B).2.1, b2 ((one C B).2.2.take ((one C B).2.1 - 1))), (one C B).2.2.drop ((one C B).2.1 - 1))
theorem one_lt (C : Nat → List Nat) (B : List Nat) : (one C B).2.1 < 65 := by
  unfold one
  cases hf : fnd C B with
  | some c => exact (fnd_some hf).1
  | none => simp only; split <;> decide
theorem rdP_succ (C : Nat → List Nat) (n : Nat) (B : List Nat) : rdP C (n + 1) B = if (prt C B).1 ≠ 0 then ((prt C B).1, [], []) else if (rdP C n (prt C B).2.2).1 ≠ 0 then ((rdP C n (prt C B).2.2).1, [], []) else (0, (prt C B).2.1 :: (rdP C n (prt C B).2.2).2.1, (rdP C n (prt C B).2.2).2.2) := by
  rw [rdP]
  unfold prt
  by_cases h1 : (one C B).1 ≠ 0
  · simp only [if_pos h1]
  · simp only [if_neg h1]
    by_cases h2 : (one C B).2.2.length < (one C B).2.1 - 1
    · simp only [if_pos h2]; rfl
    · simp only [if_neg h2]; rfl
def PtPost (p : Nat × (Nat × Nat) × List Nat) (R : Nat) (s : ByteArray) (W : World) (e : Ending) (W' : World) : Prop :=
  e = .returned (.tuple #[.agg #[.int .i64 (p.2.1.1 : Nat), .int .u64 (p.2.1.2 : Nat)], .int .i64 (p.1 : Nat)]) ∧ ∃ a', a' ≤ 8 * s.size ∧ Rd W' R s a' ∧ (p.1 = 0 → p.2.2 = (bts s.data.toList).drop a') ∧ Chg (· = R) W W'
/-- Two cells set: what stands there, and what has not turned. -/
theorem pt_end {W w : World} {A R t : Nat} {u v x y : Value} (C : Chg (· = R) W w) (b : Blk w A #[u, v] t) (hA : W.heap.size ≤ A) (hR : R < W.heap.size) {s : ByteArray} {a : Nat} (r : Rd w R s a) :
    ((w.setCell ⟨A, 0, none⟩ x).setCell ⟨A, 1, none⟩ y).cell? ⟨A, 0, none⟩ = some x ∧ ((w.setCell ⟨A, 0, none⟩ x).setCell ⟨A, 1, none⟩ y).cell? ⟨A, 1, none⟩ = some y ∧
      Rd ((w.setCell ⟨A, 0, none⟩ x).setCell ⟨A, 1, none⟩ y) R s a ∧ Chg (· = R) W ((w.setCell ⟨A, 0, none⟩ x).setCell ⟨A, 1, none⟩ y) := by
  have b2 := blk_set (blk_set b 0 x) 1 y
  refine ⟨by rw [blk_cell b2]; rfl, by rw [blk_cell b2]; rfl, ?_, chg_set (chg_set C _ _ (fun h => absurd h (by show ¬ A < _; omega))) _ _ (fun h => absurd h (by show ¬ A < _; omega))⟩
  have hne : R ≠ A := by omega
  exact blk_set_other (blk_set_other r _ _ hne) _ _ hne
set_option maxRecDepth 100000 in
set_option maxHeartbeats 1000000 in
theorem part_any (C : Nat → List Nat) (pf : PF C) (G : List Nat → Nat) (D : List Nat → Bool) (E : List Nat → Option Nat) (B0 R : Nat) (s : ByteArray) (a : Nat) (W : World) (ht : Tre W B0 G D E) (sp : TSpec C 65 D E) (hR : R < B0) (h : Rd W R s a) (hs : s.size ≤ 100000) (ha : a ≤ 8 * s.size) :
    Calls Try.prog 36 #[.agg #[.pointer (some ⟨R, 0, none⟩), .pointer (some ⟨G [], 0, none⟩)]] W (PtPost (prt C ((bts s.data.toList).drop a)) R s W) := by
  have lt : R < W.heap.size := blk_lt h
  have FD := find_any C pf G D E B0 R s a ((W.alloc (.cells #[.pointer (some ⟨R, 0, none⟩), .pointer (some ⟨G [], 0, none⟩)] 86)).alloc (.cells #[.int .i64 0, .int .u64 0] 54)) (tre_alloc (tre_alloc ht _) _) sp hR (blk_alloc (blk_alloc h _) _) hs ha
  have bx : Blk ((W.alloc (.cells #[.pointer (some ⟨R, 0, none⟩), .pointer (some ⟨G [], 0, none⟩)] 86)).alloc (.cells #[.int .i64 0, .int .u64 0] 54)) W.heap.size #[.pointer (some ⟨R, 0, none⟩), .pointer (some ⟨G [], 0, none⟩)] 86 := blk_alloc (blk_new _ _ _) _
  have br : Blk ((W.alloc (.cells #[.pointer (some ⟨R, 0, none⟩), .pointer (some ⟨G [], 0, none⟩)] 86)).alloc (.cells #[.int .i64 0, .int .u64 0] 54)) (W.heap.size + 1) #[.int .i64 0, .int .u64 0] 54 := by
    have := blk_new (W.alloc (.cells #[.pointer (some ⟨R, 0, none⟩), .pointer (some ⟨G [], 0, none⟩)] 86)) #[.int .i64 0, .int .u64 0] 54
    rw [show (W.alloc (.cells #[.pointer (some ⟨R, 0, none⟩), .pointer (some ⟨G [], 0, none⟩)] 86)).heap.size = W.heap.size + 1 from by simp] at this
    exact this
  have cW : Hid (Chg (· = R) W ((W.alloc (.cells #[.pointer (some ⟨R, 0, none⟩), .pointer (some ⟨G [], 0, none⟩)] 86)).alloc (.cells #[.int .i64 0, .int .u64 0] 54))) := chg_alloc (chg_alloc (chg_refl _ _) _) _
  have ol := one_lt C ((bts s.data.toList).drop a)
  have HPt : Unit → prt C ((bts s.data.toList).drop a) = if (one C ((bts s.data.toList).drop a)).1 ≠ 0 then ((one C ((bts s.data.toList).drop a)).1, (0, 0), [])
    else if (one C ((bts s.data.toList).drop a)).2.2.length < (one C ((bts s.data.toList).drop a)).2.1 - 1 then (2, ((one C ((bts s.data.toList).drop a)).2.1, 0), [])
    else (0, ((one C ((bts s.data.toList).drop a)).2.1, b2 ((one C ((bts s.data.toList).drop a)).2.2.take ((one C ((bts s.data.toList).drop a)).2.1 - 1))), (one C ((bts s.data.toList).drop a)).2.2.drop ((one C ((bts s.data.toList).drop a)).2.1 - 1)) := fun _ => rfl
  generalize prt C ((bts s.data.toList).drop a) = p at *
  generalize one C ((bts s.data.toList).drop a) = o at *
  obtain ⟨er, c, Bs⟩ := o
  simp only at ol HPt
  clear pf ht sp h ha
  go_enter Try.func36, Try.ntmps36
  go_wp2_with fail
  with_reducible refine FD.mono ?_
  rintro e w3 ⟨rfl, a', k1, k2, k3, k4⟩
  clear FD
  simp only at k3
  have bx3 := blk_kept bx k4 (by omega)
  have br3 := blk_kept br k4 (by omega)
  have C3 := Hid.intro (chg_same cW.out k4)
  have r0 : w3.cell? ⟨W.heap.size + 1, 0, none⟩ = some (.int .i64 0) := by rw [blk_cell br3]; rfl
  have r1 : w3.cell? ⟨W.heap.size + 1, 1, none⟩ = some (.int .u64 0) := by rw [blk_cell br3]; rfl
  have f0 := blk_free br3 0
  have f1 := blk_free br3 1
  have b0 : w3.cell? ⟨W.heap.size, 0, none⟩ = some (.pointer (some ⟨R, 0, none⟩)) := by rw [blk_cell bx3]; rfl
  have hA1 : W.heap.size + 1 < w3.heap.size := blk_lt br3
  have K2 := Hid.intro k2
  clear bx br cW k4
  by_cases he : er = 0
  · subst he
    have k3' := k3 rfl
    have HB : Hid (Bs = (bts s.data.toList).drop a') := k3'
    have hbl : Bs.length = 8 * s.size - a' := by rw [k3', List.length_drop, bts_len, len_data]
    have FU := further_any c w3.drew (by omega)
    have GT := get_any R s a' ((c - 1 : Nat) : Int) w3.drew (rd_drew k2) hs k1
    unfold GetPost at GT
    unfold ptr at GT
    rw [got_bits, ← k3'] at GT
    obtain ⟨m, hm⟩ : ∃ m, c - 1 = m := ⟨_, rfl⟩
    have hm64 : m ≤ 64 := by omega
    rw [hm] at GT FU
    rw [if_neg (by decide), hm] at HPt
    by_cases hl : Bs.length < m
    · have hge : ge (8 * s.size) a' (m : Int) = 2 := by unfold ge; rw [if_neg (by omega), if_pos (by omega)]
      have hgk : gk (8 * s.size) a' (m : Int) = 0 := by unfold gk; rw [if_neg (by rw [hge]; decide)]
      rw [hge, hgk, List.take_zero] at GT
      rw [if_pos hl] at HPt
      obtain ⟨z, hz⟩ : ∃ z, b2 [] = z := ⟨_, rfl⟩
      have hz0 : z = 0 := hz.symm
      subst hz0
      rw [hz] at GT
      clear k3 k3' hz hge hgk hl hbl
      go_wp2_with fail
      go_region_with (first | (go_at_call 27; refine FU.mono ?_; rintro e w4 ⟨rfl, rfl⟩) | (go_at_call 56; refine GT.mono ?_; rintro e w4 ⟨rfl, g1, g2⟩; have G1 := Hid.intro g1; have G2 := Hid.intro g2; clear g1 g2))
      all_goals
        obtain ⟨q0, q1, q2, q3⟩ := pt_end (x := .int .i64 (c : Int)) (y := .int .u64 0) (chg_same (chg_drew C3.out) G2.out) (blk_kept (blk_drew br3) G2.out (by omega)) (Nat.le_succ _) lt G1.out
        have Q2 := Hid.intro q2
        have Q3 := Hid.intro q3
        have r0 : w4.cell? ⟨W.heap.size + 1, 0, none⟩ = some (.int .i64 0) := by rw [blk_cell (blk_kept (blk_drew br3) G2.out (by omega))]; rfl
        have r1 : w4.cell? ⟨W.heap.size + 1, 1, none⟩ = some (.int .u64 0) := by rw [blk_cell (blk_kept (blk_drew br3) G2.out (by omega))]; rfl
        have f0 := blk_free (blk_kept (blk_drew br3) G2.out (by omega)) 0
        have f1 := blk_free (blk_kept (blk_drew br3) G2.out (by omega)) 1
        clear q2 q3 FU GT bx3 br3 G1 G2
        go_wp2_with fail
        refine bodyPost_ret (v := .tuple #[.agg #[.int .i64 (c : Int), .int .u64 0], .int .i64 2]) (by simp [results, Try.results36, go_sem, q0, q1]) rfl ?_
        rw [HPt ()]
        exact ⟨rfl, _, k1, Q2.out, (fun h => by cases h), Q3.out⟩
    · have hge : ge (8 * s.size) a' (m : Int) = 0 := by unfold ge; rw [if_neg (by omega), if_neg (by omega)]
      have hgk : gk (8 * s.size) a' (m : Int) = m := by unfold gk; rw [if_pos hge]; simp
      rw [hge, hgk] at GT
      rw [if_neg hl] at HPt
      have hle : a' + m ≤ 8 * s.size := by omega
      have hvb : b2 (Bs.take m) < 2 ^ 64 := by
        have h1 := b2_lt (Bs.take m) (fun x hx => by rw [k3'] at hx; exact bts_lt _ x (List.mem_of_mem_drop (List.mem_of_mem_take hx)))
        have h2 : (Bs.take m).length ≤ 64 := by rw [List.length_take]; omega
        exact Nat.lt_of_lt_of_le h1 (Nat.pow_le_pow_right (by decide) h2)
      obtain ⟨z, hz⟩ : ∃ z, b2 (Bs.take m) = z := ⟨_, rfl⟩
      rw [hz] at GT HPt hvb
      clear k3 k3' hz hge hgk hl hbl
      go_wp2_with fail
      go_region_with (first | (go_at_call 27; refine FU.mono ?_; rintro e w4 ⟨rfl, rfl⟩) | (go_at_call 56; refine GT.mono ?_; rintro e w4 ⟨rfl, g1, g2⟩; have G1 := Hid.intro g1; have G2 := Hid.intro g2; clear g1 g2))
      all_goals
        obtain ⟨q0, q1, q2, q3⟩ := pt_end (x := .int .i64 (c : Int)) (y := .int .u64 (z : Int)) (chg_same (chg_drew C3.out) G2.out) (blk_kept (blk_drew br3) G2.out (by omega)) (Nat.le_succ _) lt G1.out
        have Q2 := Hid.intro q2
        have Q3 := Hid.intro q3
        have r0 : w4.cell? ⟨W.heap.size + 1, 0, none⟩ = some (.int .i64 0) := by rw [blk_cell (blk_kept (blk_drew br3) G2.out (by omega))]; rfl
        have r1 : w4.cell? ⟨W.heap.size + 1, 1, none⟩ = some (.int .u64 0) := by rw [blk_cell (blk_kept (blk_drew br3) G2.out (by omega))]; rfl
        have f0 := blk_free (blk_kept (blk_drew br3) G2.out (by omega)) 0
        have f1 := blk_free (blk_kept (blk_drew br3) G2.out (by omega)) 1
        clear q2 q3 FU GT bx3 br3 G1 G2
        go_wp2_with fail
        refine bodyPost_ret (v := .tuple #[.agg #[.int .i64 (c : Int), .int .u64 (z : Int)], .int .i64 0]) (by simp [results, Try.results36, go_sem, q0, q1]) rfl ?_
        rw [HPt ()]
        exact ⟨rfl, _, hle, Q2.out, (fun _ => by rw [HB.out, List.drop_drop]), Q3.out⟩
  · have t1 : ((er : Int) == 0) = false := by simp; omega
    have HQ : Unit → p = (er, (0, 0), []) := fun _ => by rw [HPt (), if_pos he]
    have hd : decide (er = 0) = false := decide_eq_false he
    have HE := Hid.intro he
    obtain ⟨q0, q1, q2, q3⟩ := pt_end (x := .int .i64 0) (y := .int .u64 0) C3.out br3 (Nat.le_succ _) lt k2
    have Q2 := Hid.intro q2
    have Q3 := Hid.intro q3
    clear k3 HPt he q2 q3
    go_wp2_with fail
    refine bodyPost_ret (v := .tuple #[.agg #[.int .i64 0, .int .u64 0], .int .i64 (er : Int)]) (by simp [results, Try.results36, go_sem, q0, q1]) rfl ?_
    rw [HQ ()]
    exact ⟨rfl, a', k1, Q2.out, fun h => absurd h HE.out, Q3.out⟩

theorem make_parts (n : Nat) (hn : n ≤ 100000) (W : World) :
    (Instr.makeSlice 22 (.int .i64 (n : Int)) (.int .i64 (n : Int))).run Try.prog W = .ok (.slice (some ⟨W.heap.size, 0, none⟩) n n) (W.alloc (.cells (madeCells #[.int .i64 0, .int .u64 0] (n * 2)) 54)) := by
  obtain ⟨i, hi, hz, hs, hb⟩ := info_all info54
  have hr := run_make (P := Try.prog) W 22 54 i _ Try.underlying22 hi hz .i64 .i64 n n (by omega) (Int.le_refl _) (by rw [hb]; omega) (by omega)
  simp only [Int.toNat_natCast, hs] at hr
  exact hr
theorem made_parts (n : Nat) : (madeCells #[Value.int .i64 0, .int .u64 0] (n * 2)).toList = pvs (List.replicate n (0, 0)) := by
  apply List.ext_getElem?
  intro i
  simp only [madeCells, Array.toList_map, Array.toList_range, List.getElem?_map]
  by_cases h : i < n * 2
  · rw [List.getElem?_range h]
    have hk : i / 2 < (List.replicate n ((0 : Int), (0 : Int))).length := by simp; omega
    rcases Nat.mod_two_eq_zero_or_one i with e | e
    · have h2 := pvs_fst _ (i / 2) hk
      rw [show i / 2 * 2 = i from by omega] at h2
      rw [h2]; simp [e]
    · have h2 := pvs_snd _ (i / 2) hk
      rw [show i / 2 * 2 + 1 = i from by omega] at h2
      rw [h2]; simp [e]
  · rw [List.getElem?_eq_none (by simp; omega), List.getElem?_eq_none (by rw [pvs_len]; simp; omega)]; rfl
theorem own_made_parts (W : World) (n : Nat) (hn : n ≤ 100000) : (W.alloc (.cells (madeCells #[.int .i64 0, .int .u64 0] (n * 2)) 54)).ownsRow W.heap.size 54 2 (.slice (some ⟨W.heap.size, 0, none⟩) n n) n (pvs (List.replicate n (0, 0))) :=
  ⟨by rw [pvs_len]; simp, .inr ⟨_, n, _, rfl, Nat.le_refl _, blk_new _ _ _, Nat.le_refl _, by simp only [maxLen]; omega, by simp [madeCells], by rw [made_parts, List.take_of_length_le (by rw [pvs_len]; simp)]⟩⟩
theorem rp_below {W W' : World} {a : Option Addr} {n : Nat} {ps : List (Int × Int)} (h : RP W a n ps) (g : Below W.heap.size W W') : RP W' a n ps :=
  ⟨h.1, fun h0 => by
    obtain ⟨x, hx, hc⟩ := h.2 h0
    exact ⟨x, hx, fun i hi => by
      rw [g.cell (World.block_lt_of_cell? _ _ (hc i hi).1), g.cell (World.block_lt_of_cell? _ _ (hc i hi).2)]; exact hc i hi⟩⟩
theorem own_rp {W : World} {base e : Nat} {v : Value} {n : Nat} {ps : List (Int × Int)} (h : W.ownsRow base e 2 v n (pvs ps)) : ∃ a cap, v = .slice a n cap ∧ n ≤ cap ∧ cap ≤ maxLen ∧ RP W a n ps := by
  have hl : ps.length = n := by have := h.1; rw [pvs_len] at this; omega
  rcases h.2 with ⟨hv, hn⟩ | ⟨g, cap, cur, hv, _, hg, hc, hm, hs, ht⟩
  · exact ⟨none, 0, by rw [hv, hn], by omega, by decide, hl, fun h0 => by omega⟩
  · refine ⟨_, cap, hv, hc, hm, hl, fun _ => ⟨_, rfl, fun i hi => ⟨?_, ?_⟩⟩⟩
    · exact h.cells (g := g) (by rw [hv]; rfl) _ _ (pvs_fst ps i hi)
    · exact h.cells (g := g) (by rw [hv]; rfl) _ _ (pvs_snd ps i hi)
/-- A part as Go has it. -/
def toI (p : Nat × Nat) : Int × Int := ((p.1 : Int), (p.2 : Int))
def toN (p : Int × Int) : Nat × Nat := (p.1.toNat, p.2.toNat)
theorem toN_toI (p : Nat × Nat) : toN (toI p) = p := by unfold toN toI; simp
theorem map_toN_toI (l : List (Nat × Nat)) : (l.map toI).map toN = l := by
  rw [List.map_map]
  conv => rhs; rw [← List.map_id l]
  apply List.map_congr_left
  intro p _
  exact toN_toI p
theorem set_end {α : Type} (l : List α) (x z : α) (m : Nat) : (l ++ List.replicate (m + 1) z).set l.length x = (l ++ [x]) ++ List.replicate m z := by
  rw [List.set_append_right _ _ (Nat.le_refl _), Nat.sub_self, List.replicate_succ, List.set_cons_zero, List.append_assoc]; rfl
/-- Get, as the document has it. -/
def getH (f : List Int) (s : List UInt8) (n : Int) : Nat × List (Nat × Nat) :=
  if mayL f = false then (3, []) else if n < 0 ∨ 4096 < n then (1, []) else hget (codeB (nat f)) s n.toNat
theorem rdP_len (C : Nat → List Nat) : ∀ (n : Nat) (B : List Nat), (rdP C n B).1 = 0 → (rdP C n B).2.1.length = n
  | 0, _, _ => rfl
  | n + 1, B, h => by
    rw [rdP_succ] at h ⊢
    split at h
    · exact absurd h (by assumption)
    · rename_i h1
      rw [if_neg h1]
      split at h
      · exact absurd h (by assumption)
      · rename_i h2
        rw [if_neg h2]
        have := rdP_len C n _ (by simpa using h2)
        simp [this]
theorem hget_err {C : Nat → List Nat} {t : List UInt8} {n er : Nat} (h : rdP C n (bts t) = (er, [], [])) (h0 : er ≠ 0) : hget C t n = (er, []) := by
  unfold hget; rw [h]; simp [h0]
theorem hget_end {C : Nat → List Nat} {t : List UInt8} {n : Nat} {ps : List (Nat × Nat)} {r : List Nat} (h : rdP C n (bts t) = (0, ps, r)) : hget C t n = if r.length < 8 ∧ b2 r = 0 then (0, ps) else (3, []) := by
  unfold hget; rw [h]; simp
def HgPost (g : Nat × List (Nat × Nat)) (W : World) (e : Ending) (W' : World) : Prop :=
  ∃ a n cap, e = .returned (.tuple #[.slice a n cap, .int .i64 (g.1 : Nat)]) ∧ RP W' a n (g.2.map toI) ∧ n ≤ 4096 ∧ n ≤ cap ∧ cap ≤ maxLen ∧ Below W.heap.size W W'
theorem hg_none {er : Nat} {w w' : World} (h : Below w.heap.size w w') : HgPost (er, []) w (.returned (.tuple #[.slice none 0 0, .int .i64 (er : Nat)])) w' :=
  ⟨none, 0, 0, rfl, ⟨rfl, fun h => by omega⟩, by omega, by omega, by decide, h⟩

/-- May a part be put by these lengths? -/
def okPB (L : List Nat) (p : Int × Int) : Bool := decide (0 ≤ p.1) && (decide (p.1 < 65) && (decide (0 < at0 L p.1.toNat) && decide (p.2 < 2 ^ (p.1.toNat - 1))))
set_option maxRecDepth 100000 in
set_option maxHeartbeats 1000000 in
theorem hmay_any (L : List Nat) (hb : ∀ c, at0 L c ≤ 15) (b cp base : Nat) (c : Int) (r : Nat) (W : World) (o : W.ownsRow base 68 2 (.slice (some ⟨b, 0, none⟩) 65 cp) 65 (cvs (codesOf L))) (_hr : r < 18446744073709551616) :
    Calls Try.prog 24 #[.agg #[.int .i64 c, .int .u64 r], .slice (some ⟨b, 0, none⟩) 65 cp] W fun e W' => e = .returned (.bool (okPB L (c, (r : Int)))) ∧ Below W.heap.size W W' := by
  have bn := blk_new W #[.int .i64 c, .int .u64 r] 54
  have B1 : Hid (∀ k, Below W.heap.size W ((W.alloc (.cells #[.int .i64 c, .int .u64 r] 54)).drewN k)) := fun k => below_drewN ((Below.refl _ _).alloc (Nat.le_refl _) _) k
  have c0 : (W.alloc (.cells #[.int .i64 c, .int .u64 r] 54)).cell? ⟨W.heap.size, 0, none⟩ = some (.int .i64 c) := by rw [blk_cell bn]; rfl
  have c1 : (W.alloc (.cells #[.int .i64 c, .int .u64 r] 54)).cell? ⟨W.heap.size, 1, none⟩ = some (.int .u64 (r : Int)) := by rw [blk_cell bn]; rfl
  by_cases h0 : 0 ≤ c
  · by_cases h65 : c < 65
    · obtain ⟨k, rfl⟩ : ∃ k : Nat, c = (k : Int) := ⟨c.toNat, by omega⟩
      have hk : k < 65 := by omega
      obtain ⟨g1, g2, -, -⟩ := cv_cells (World.ownsRow.alloc o (.cells #[.int .i64 (k : Int), .int .u64 r] 54)) k hk
      rw [code_len L hb k hk] at g2
      have OK : Unit → okPB L ((k : Int), (r : Int)) = (decide (0 < at0 L k) && decide (r < 2 ^ (k - 1))) := fun _ => by
        unfold okPB
        rw [decide_eq_true h0, decide_eq_true h65, Bool.true_and, Bool.true_and]
        simp only [Int.toNat_natCast]
        congr 1
        rw [decide_eq_decide]
        exact_mod_cast Iff.rfl
      have h15 := hb k
      generalize okPB L ((k : Int), (r : Int)) = z at *
      generalize at0 L k = n at *
      clear o bn
      by_cases hn : 0 < n
      · obtain ⟨m, hm⟩ : ∃ m, k - 1 = m := ⟨_, rfl⟩
        have FU : Hid (∀ j, Calls Try.prog 27 #[.int .i64 (k : Int)] ((W.alloc (.cells #[.int .i64 (k : Int), .int .u64 r] 54)).drewN j) fun e w' => e = .returned (.int .i64 (m : Int)) ∧ w' = (W.alloc (.cells #[.int .i64 (k : Int), .int .u64 r] 54)).drewN j) := fun j => by
          rw [← hm]; exact further_any k _ (by omega)
        rw [hm] at OK
        have hy : (r : Int) / 2 ^ m = ((r / 2 ^ m : Nat) : Int) := by simp
        have hm64 : m ≤ 64 := by omega
        have t2 : (0 : Int) < (n : Int) := by omega
        by_cases hlt : r < 2 ^ m
        · have q0 : r / 2 ^ m = 0 := Nat.div_eq_of_lt hlt
          have OK2 : Unit → z = true := fun _ => by rw [OK (), decide_eq_true hn, decide_eq_true hlt]; rfl
          rw [q0] at hy
          clear OK hlt q0 hm
          go_enter Try.func24, Try.ntmps24
          go_wp2_with fail
          go_quiet ((go_at_call 27; refine Calls.quiet_of_same (FU.out _)))
          go_wp2_with fail
          go_ret
          exact ⟨by rw [OK2 ()] <;> rfl, B1.out _⟩
        · have q0 : r / 2 ^ m ≠ 0 := by
            have := Nat.div_pos (Nat.not_lt.1 hlt) (Nat.two_pow_pos m)
            omega
          have OK2 : Unit → z = false := fun _ => by rw [OK (), decide_eq_false hlt, Bool.and_false]
          have hle : r / 2 ^ m ≤ r := Nat.div_le_self _ _
          generalize r / 2 ^ m = y at *
          have t3 : ((y : Int) == 0) = false := by simp; omega
          clear OK hlt hm
          go_enter Try.func24, Try.ntmps24
          go_wp2_with fail
          go_quiet ((go_at_call 27; refine Calls.quiet_of_same (FU.out _)))
          go_wp2_with fail
          go_ret
          exact ⟨by rw [OK2 ()] <;> rfl, B1.out _⟩
      · obtain rfl : n = 0 := by omega
        have OK2 : Unit → z = false := fun _ => by rw [OK ()]; rfl
        clear OK hn
        go_enter Try.func24, Try.ntmps24
        go_wp2_with fail
        go_quiet (fail)
        go_wp2_with fail
        go_ret
        exact ⟨by rw [OK2 ()] <;> rfl, B1.out _⟩
    · have OK2 : Unit → okPB L (c, (r : Int)) = false := fun _ => by unfold okPB; rw [decide_eq_false h65]; simp
      generalize okPB L (c, (r : Int)) = z at *
      have t1 : (65 : Int) ≤ c := by omega
      have t2 : decide (c < 65) = false := decide_eq_false h65
      clear o bn
      go_enter Try.func24, Try.ntmps24
      go_wp2_with fail
      go_quiet (fail)
      go_wp2_with fail
      go_ret
      exact ⟨by rw [OK2 ()] <;> rfl, B1.out _⟩
  · have OK2 : Unit → okPB L (c, (r : Int)) = false := fun _ => by unfold okPB; rw [decide_eq_false h0]; rfl
    generalize okPB L (c, (r : Int)) = z at *
    have t1 : c < 0 := by omega
    have t2 : decide (0 ≤ c) = false := decide_eq_false h0
    clear o bn
    go_enter Try.func24, Try.ntmps24
    go_wp2_with fail
    go_quiet (fail)
    go_wp2_with fail
    go_ret
    exact ⟨by rw [OK2 ()] <;> rfl, B1.out _⟩
end Go.Proofs.Ytlkebkchbgpnpaa
