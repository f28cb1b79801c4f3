/-
  The reference's Parts, Of and Values.
-/
import Derived.Test.YtnnecccnoemkpaaSp
import Derived.OwnWalk
namespace Go.Proofs.Ytnnecccnoemkpaa
open Go.ChangeShapes Go.WideShapes Go.ChangeAt Go.RowKit
open Go.ChangeMaps (open_string shut_string)

def RpRel (zs : List Int) (w : World) (ov sv : Value) (wr : World) : Prop :=
  ∃ i, i ≤ zs.length ∧ sv = .int .i64 (i : Nat) ∧ wr.ownsRow w.heap.size 43 2 ov i (pvs ((zs.take i).map spl)) ∧ Below w.heap.size w wr
set_option maxRecDepth 100000 in
set_option maxHeartbeats 1000000 in
theorem rparts_any (a : Option Addr) (n cap : Nat) (zs : List Int) (w : World) (h : RI w a n zs) (hf : FI zs) (hn : n ≤ 1000) :
    Calls Try.prog 13 #[.slice a n cap] w fun e w' => ∃ v, e = .returned v ∧ w'.ownsRow w.heap.size 43 2 v n (pvs (zs.map spl)) ∧ Below w.heap.size w w' := by
  obtain ⟨h1, h2⟩ := h
  subst h1
  obtain ⟨i0, hi0, hz0, hs0, hb0⟩ := info_all info43
  have HX : Hid (0 < zs.length → ∃ x, a = some x ∧ ∀ i (h : i < zs.length), w.cell? (x.add i) = some (.int .i64 zs[i])) := h2
  have HF : Hid (FI zs) := hf
  clear h2 hf
  go_enter Try.func13, Try.ntmps13
  go_wp2_with fail
  go_loopw [3, 4] (fun ov sv wr => RpRel zs w ov sv wr) (fun _ sv _ => zs.length - (intOf sv).toNat)
  case atStart => exact ⟨0, by omega, rfl, World.ownsRow_nil _ _ _ _, Below.refl _ _⟩
  case round =>
    obtain ⟨i, hi, rfl, d1, d2⟩ := hrel
    by_cases hlt : i < zs.length
    · obtain ⟨x, rfl, hx⟩ := HX.out (by omega)
      have cx := hx i hlt
      rw [← d2.cell (World.block_lt_of_cell? _ _ cx)] at cx
      have bd := HF.out zs[i] (List.getElem_mem hlt)
      have TS : Hid (pvs ((zs.take (i + 1)).map spl) = pvs ((zs.take i).map spl) ++ [.int .i64 (blen (zmap zs[i])), .int .u64 (srest (zmap zs[i]))]) := by
        show _ = _
        rw [take_snoc zs i hlt, List.map_append, pvs_append]; rfl
      generalize zs[i] = z at *
      clear hx
      have S := refSplit_any z wr bd.1 bd.2
      go_wp2_with fail
      with_reducible refine S.mono ?_
      rintro e w2 ⟨rfl, b2⟩
      have e1 := own_later d1 b2
      have e2 : Below w.heap.size w w2 := d2.trans (b2.mono d2.size)
      clear S d1 d2 b2 cx
      generalize blen (zmap z) = c at *
      generalize srest (zmap z) = r at *
      generalize pvs ((zs.take i).map spl) = pre at *
      go_wp2_with (at_builtin; refine wpList_push _ rfl (.tmp 11) (.tmp 17) 23 rfl 43 i0 (.agg #[.int .i64 0, .int .u64 0]) 2 16 Try.underlying23 hi0 hz0 hs0 hb0 rfl (by decide) (by decide) u3 i pre rfl (World.ownsRow.alloc (own_low e1 (Nat.zero_le _)) _) ⟨w2.heap.size, 0, none⟩ 1 1 [.int .i64 c, .int .u64 r] rfl rfl (two_new _ _ _ _) (pv_one c r) (by omega) ?_)
      intro v8 w8 o8 g8 m8
      have fu : From w.heap.size u3 := fun k hk => (e1.lt k hk).1
      have f8 := from_moved fu m8 (by have := e2.size; simp; omega)
      have D8 : Below w.heap.size w w8 := below_grown (e2.alloc e2.size _) g8 (by have := e2.size; simp; omega) (fun k hk => fu k hk)
      rw [← TS.out] at o8
      have JJ : Hid (RpRel zs w v8 (.int .i64 ((i + 1 : Nat) : Int)) w8) := ⟨i + 1, hlt, rfl, own_up o8 f8, D8⟩
      obtain ⟨b8, cap8, rfl⟩ := own_slice o8 (by omega)
      clear o8 g8 m8 fu f8 D8 e1 e2
      go_wp2_with fail
      go_roundw
      case rel => exact JJ.out
      case measure => simp [intOf]; omega
    · obtain rfl : i = zs.length := by omega
      rw [List.take_length] at d1
      go_wp2_with fail
      go_ret
      exact ⟨_, rfl, d1, d2⟩
def RoRel (ps : List (Int × Int)) (w : World) (sv : Value) (wr : World) : Prop :=
  ∃ i : Nat, i ≤ ps.length ∧ sv = .int .i64 i ∧ wr.ownsRow w.heap.size 3 1 (.slice (some ⟨w.heap.size, 0, none⟩) 65 65) 65 (ivs (cnt (ps.take i))) ∧ Below w.heap.size w wr
set_option maxRecDepth 100000 in
set_option maxHeartbeats 1000000 in
theorem rof_any (a : Option Addr) (n cap : Nat) (ps : List (Int × Int)) (w : World) (h : RP w a n ps) (hn : n ≤ 1000) :
    Calls Try.prog 17 #[.slice a n cap] w fun e w' => ∃ v, e = .returned v ∧ w'.ownsRow w.heap.size 3 1 v 65 (ivs (cnt ps)) ∧ Below w.heap.size w w' := by
  obtain ⟨h1, h2⟩ := h
  subst h1
  have mk : (Instr.makeSlice 24 (.int .i64 65) (.int .i64 65)).run Try.prog w = .ok (.slice (some ⟨w.heap.size, 0, none⟩) 65 65) (w.alloc (.cells (madeCells #[.int .i64 0] 65) 3)) := make_ints 24 3 Try.underlying24 info3 65 (by omega) w
  have ow := own_made_ints w 3 65 (by omega)
  rw [← cnt_nil] at ow
  have bl : Below w.heap.size w (w.alloc (.cells (madeCells #[.int .i64 0] 65) 3)) := (Below.refl _ _).alloc (Nat.le_refl _) _
  have HX : Hid (0 < ps.length → ∃ x, a = some x ∧ ∀ i (h : i < ps.length), w.cell? (x.add (i * 2)) = some (.int .i64 ps[i].1) ∧ w.cell? (x.add (i * 2 + 1)) = some (.int .u64 ps[i].2)) := h2
  clear h2
  generalize w.alloc (.cells (madeCells #[.int .i64 0] 65) 3) = w1 at *
  go_enter Try.func17, Try.ntmps17
  go_wp2_with fail
  go_loopw [4] (fun sv wr => RoRel ps w sv wr) (fun sv _ => ps.length - (intOf sv).toNat)
  case atStart => exact ⟨0, by omega, rfl, ow, bl⟩
  case round =>
    clear mk ow bl
    obtain ⟨i, hi, rfl, d1, d2⟩ := hrel
    by_cases hlt : i < ps.length
    · obtain ⟨x, rfl, hx⟩ := HX.out (by omega)
      obtain ⟨cx, _⟩ := hx i hlt
      rw [← d2.cell (World.block_lt_of_cell? _ _ cx)] at cx
      have ts := Hid.intro (take_snoc ps i hlt)
      generalize ps[i] = p at *
      obtain ⟨c, r⟩ := p
      simp only at cx
      clear hx
      by_cases hin : 0 ≤ c ∧ c < 65
      · obtain ⟨h0, h65⟩ := hin
        obtain ⟨k, rfl⟩ := Int.eq_ofNat_of_zero_le h0
        have hk65 : k < 65 := by omega
        have hle := cl_le (ps.take i) k
        rw [List.length_take] at hle
        have ck : wr.cell? ⟨w.heap.size, k, none⟩ = some (.int .i64 (cl (ps.take i) k : Int)) := by
          rw [(own_there d1 k (by omega)).1]; unfold ivs; rw [List.getElem?_map, cnt_at _ k hk65]; rfl
        have fk := (own_there d1 k (by omega)).2.2
        have o1 := own_set d1 k (.int .i64 ((cl (ps.take i) k : Int) + 1))
        rw [ivs_set, cnt_in (ps.take i) ((k : Int), r) k hk65 rfl, ← ts.out] at o1
        have o2 := Hid.intro o1
        have b2 : Hid (Below w.heap.size w (wr.setCell ⟨w.heap.size, k, none⟩ (.int .i64 ((cl (ps.take i) k : Int) + 1)))) := d2.setCell (Nat.le_refl _) _
        generalize cl (ps.take i) k = y at *
        clear d1 d2 o1
        go_wp2_with fail
        go_roundw
        case rel => exact ⟨i + 1, by omega, by go_num, o2.out, b2.out⟩
        case measure => simp [intOf]; omega
      · have CO := Hid.intro (cnt_out (ps.take i) (c, r) (by simp only; omega))
        have o2 : Hid (wr.ownsRow w.heap.size 3 1 (.slice (some ⟨w.heap.size, 0, none⟩) 65 65) 65 (ivs (cnt (ps.take (i + 1))))) := by
          show World.ownsRow _ _ _ _ _ _ _
          rw [ts.out, CO.out]; exact d1
        clear d1
        by_cases h0 : c < 0
        · go_wp2_with fail
          go_roundw
          case rel => exact ⟨i + 1, by omega, by go_num, o2.out, d2⟩
          case measure => simp [intOf]; omega
        · have h65 : 65 ≤ c := by omega
          go_wp2_with fail
          go_roundw
          case rel => exact ⟨i + 1, by omega, by go_num, o2.out, d2⟩
          case measure => simp [intOf]; omega
    · obtain rfl : i = ps.length := by omega
      rw [List.take_length] at d1
      go_wp2_with fail
      go_ret
      exact ⟨_, rfl, d1, d2⟩

theorem one_new2 (w : World) (o : Obj) (x : Value) (t : TypeId) : ∀ j u, [x][j]? = some u → ((w.alloc o).alloc (.cells #[x] t)).cell? ((⟨w.heap.size + 1, 0, none⟩ : Addr).add j) = some u := by
  have h := cell_one_new (w.alloc o) x t
  rw [show (w.alloc o).heap.size = w.heap.size + 1 by simp] at h
  exact h
def RvRel (ps : List (Int × Int)) (_w w0 : World) (ov sv : Value) (wr : World) : Prop :=
  ∃ i, i ≤ ps.length ∧ sv = .int .i64 (i : Nat) ∧ (ps.take i).all jk = true ∧ wr.ownsRow w0.heap.size 2 1 ov i (ivs ((ps.take i).map jv)) ∧ Below w0.heap.size w0 wr
set_option maxRecDepth 100000 in
set_option maxHeartbeats 2000000 in
theorem rvalues_any (a : Option Addr) (n cap : Nat) (ps : List (Int × Int)) (w : World) (h : RP w a n ps) (hf : FP ps) (hn : n ≤ 1000) :
    Calls Try.prog 10 #[.slice a n cap] w fun e w' => ∃ v, e = .returned (.agg #[v, .bool (ps.all jk)]) ∧ w'.ownsRow w.heap.size 2 1 v (vals ps).length (ivs (vals ps)) ∧ Below w.heap.size w w' := by
  obtain ⟨h1, h2⟩ := h
  subst h1
  obtain ⟨i0, hi0, hz0, hs0, hb0⟩ := info_all info2
  have HX : Hid (0 < ps.length → ∃ x, a = some x ∧ ∀ i (h : i < ps.length), w.cell? (x.add (i * 2)) = some (.int .i64 ps[i].1) ∧ w.cell? (x.add (i * 2 + 1)) = some (.int .u64 ps[i].2)) := h2
  have HF : Hid (FP ps) := hf
  clear h2 hf
  have rb := blk_new w #[.slice none 0 0, .bool false] 29
  have bw : Below w.heap.size w (w.alloc (.cells #[.slice none 0 0, .bool false] 29)) := (Below.refl _ _).alloc (Nat.le_refl _) _
  go_enter Try.func10, Try.ntmps10
  go_wp2_with fail
  generalize w.alloc (.cells #[.slice none 0 0, .bool false] 29) = w0 at *
  have hR := blk_lt rb
  go_loopw [3, 4] (fun ov sv wr => RvRel ps w w0 ov sv wr) (fun _ sv _ => ps.length - (intOf sv).toNat)
  case atStart => exact ⟨0, by omega, rfl, rfl, World.ownsRow_nil _ _ _ _, Below.refl _ _⟩
  case round =>
    obtain ⟨i, hi, rfl, d0, d1, d2⟩ := hrel
    have dw : Below w.heap.size w wr := bw.trans (d2.mono bw.size)
    by_cases hlt : i < ps.length
    · obtain ⟨x, rfl, hx⟩ := HX.out (by omega)
      obtain ⟨cx, cy⟩ := hx i hlt
      rw [← dw.cell (World.block_lt_of_cell? _ _ cx)] at cx
      rw [← dw.cell (World.block_lt_of_cell? _ _ cy), add_next] at cy
      obtain ⟨_, r0, r1⟩ := HF.out ps[i] (List.getElem_mem hlt)
      have TS : Hid (ivs ((ps.take (i + 1)).map jv) = ivs ((ps.take i).map jv) ++ [.int .i64 (jv ps[i])]) := by
        show _ = _
        rw [take_snoc ps i hlt, List.map_append, ivs_append]; rfl
      have NO := Hid.intro (all_no ps i hlt)
      have ts : Hid (jk ps[i] = true → (ps.take (i + 1)).all jk = true) := fun hk => by rw [take_snoc ps i hlt, List.all_append, d0]; simp [hk]
      have hjv : jv ps[i] = jval ps[i].1 ps[i].2 := rfl
      have hjk : jk ps[i] = jok ps[i].1 ps[i].2 := rfl
      generalize ps[i] = p at *
      obtain ⟨c, r⟩ := p
      simp only at cx cy r0 r1 hjv hjk
      rw [hjk] at NO ts
      rw [hjv] at TS
      have J := refJoin_any c r wr r0 r1
      clear hx hjv hjk d0
      generalize ivs ((ps.take i).map jv) = pre at *
      generalize jval c r = z at *
      by_cases hk : jok c r = true
      · rw [hk] at J
        have T := Hid.intro (ts.out hk)
        clear ts NO
        go_wp2_with fail
        with_reducible refine J.mono ?_
        rintro e w2 ⟨rfl, b2⟩
        have e1 := World.ownsRow.alloc (own_later d1 b2) (.cells #[.int .i64 z, .bool true] 48)
        have e2 : Below w0.heap.size w0 (w2.alloc (.cells #[.int .i64 z, .bool true] 48)) := (d2.trans (b2.mono d2.size)).alloc (by have := d2.size; have := b2.size; omega) _
        clear J d1 d2 b2 cx cy dw
        go_wp2_with (at_builtin; refine wpList_push _ rfl (.tmp 21) (.tmp 24) 22 rfl 2 i0 (.int .i64 0) 1 8 Try.underlying22 hi0 hz0 hs0 hb0 rfl (by decide) (by decide) u3 i pre rfl (World.ownsRow.alloc (own_low e1 (Nat.zero_le _)) _) ⟨w2.heap.size + 1, 0, none⟩ 1 1 [.int .i64 z] rfl rfl (one_new2 _ _ _ _) (by intro u hu; simp at hu; subst hu; rfl) (by omega) ?_)
        intro v8 w8 o8 g8 m8
        have fu : From w0.heap.size u3 := fun k hk => (e1.lt k hk).1
        have e3 : Below w0.heap.size w0 ((w2.alloc (.cells #[.int .i64 z, .bool true] 48)).alloc (.cells #[.int .i64 z] 2)) := e2.alloc e2.size _
        have f8 := from_moved fu m8 e3.size
        have D8 : Below w0.heap.size w0 w8 := below_grown e3 g8 e3.size (fun k hk => fu k hk)
        rw [← TS.out] at o8
        have JJ : Hid (RvRel ps w w0 v8 (.int .i64 ((i + 1 : Nat) : Int)) w8) := ⟨i + 1, hlt, rfl, T.out, own_up o8 f8, D8⟩
        obtain ⟨b8, cap8, rfl⟩ := own_slice o8 (by omega)
        clear o8 g8 m8 fu f8 D8 e1 e2 e3 T
        go_wp2_with fail
        go_roundw
        case rel => exact JJ.out
        case measure => simp [intOf]; omega
      · have hkf : jok c r = false := by simpa using hk
        rw [hkf] at J NO
        have N := Hid.intro (NO.out rfl)
        clear hk hkf ts NO TS
        go_wp2_with fail
        with_reducible refine J.mono ?_
        rintro e w2 ⟨rfl, b2⟩
        have e2 : Below w0.heap.size w0 (w2.alloc (.cells #[.int .i64 z, .bool false] 48)) := (d2.trans (b2.mono d2.size)).alloc (by have := d2.size; have := b2.size; omega) _
        have e3 := bw.trans (e2.mono bw.size)
        have rb2 := blk_below rb (d2.trans (b2.mono d2.size)) hR
        have q0 : w2.cell? ⟨w.heap.size, 0, none⟩ = some (.slice none 0 0) := by rw [blk_cell rb2]; rfl
        have q1 : w2.cell? ⟨w.heap.size, 1, none⟩ = some (.bool false) := by rw [blk_cell rb2]; rfl
        have q2 := blk_free rb2 0
        have q3 := blk_free rb2 1
        have hs2 : w.heap.size < w2.heap.size := by have := d2.size; have := b2.size; omega
        have e4 : Below w.heap.size w w2 := bw.trans ((d2.trans (b2.mono d2.size)).mono bw.size)
        clear J d1 d2 b2 cx cy dw e2 e3
        go_wp2_with fail
        refine bodyPost_ret (v := .agg #[.slice none 0 0, .bool false]) (by simp [results, Try.results10, go_sem, q0, q1, hs2]) rfl ⟨.slice none 0 0, by rw [N.out], ?_, ((e4.setCell (Nat.le_refl _) _).setCell (Nat.le_refl _) _).alloc (by have := e4.size; simp; omega) _⟩
        rw [vals_no _ N.out]; exact World.ownsRow_nil _ _ _ _
    · obtain rfl : i = ps.length := by omega
      rw [List.take_length] at d0 d1
      have rb2 := blk_below rb d2 hR
      have q0 : wr.cell? ⟨w.heap.size, 0, none⟩ = some (.slice none 0 0) := by rw [blk_cell rb2]; rfl
      have q1 : wr.cell? ⟨w.heap.size, 1, none⟩ = some (.bool false) := by rw [blk_cell rb2]; rfl
      have q2 := blk_free rb2 0
      have q3 := blk_free rb2 1
      have D0 := Hid.intro d0
      obtain ⟨au, cu, rfl, _, _, _⟩ := own_ri d1
      have o9 := own_kept (S := (· = w.heap.size)) (own_low d1 (Nat.le_of_lt hR)) (chg_in (chg_in (chg_refl _ wr) 0 (.slice au ps.length cu)) 1 (.bool true)) (fun k hk e => by have := (d1.lt k hk).1; omega)
      clear d0 d1 d2
      go_wp2_with fail
      refine bodyPost_ret (v := .agg #[.slice au ps.length cu, .bool true]) (by simp [results, Try.results10, go_sem, q0, q1]) rfl ⟨_, by rw [D0.out], ?_, (dw.setCell (Nat.le_refl _) _).setCell (Nat.le_refl _) _⟩
      rw [vals_ok _ D0.out, List.length_map]; exact o9
end Go.Proofs.Ytnnecccnoemkpaa
