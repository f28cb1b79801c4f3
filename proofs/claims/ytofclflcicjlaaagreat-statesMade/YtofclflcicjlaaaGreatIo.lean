/-
  A list cloned; room made; the classes in order, each as many times as is said.
-/
import Derived.Test.YtofclflcicjlaaaGreatSp
import Derived.Deep.QuietTactic
import Derived.Deep.RegionWith
import Derived.OwnWalk
import Derived.BigQuiet
namespace Go.Proofs.YtofclflcicjlaaaGreat
open Go.ChangeShapes Go.WideShapes Go.ChangeAt Go.RowKit
open Go.ChangeMaps (open_string shut_string)

theorem eql_nil (p : Addr) (n cap : Nat) (W : World) : (binOp BinOp.eql 23 (.slice (some p) n cap) (.slice none 0 0)).run Tryz.prog W = .ok (.bool false) W := by kernel_rfl
set_option maxRecDepth 100000 in
set_option maxHeartbeats 1000000 in
theorem clone_any (p : Addr) (n cap : Nat) (f : List Int) (w : World) (h : RI w (some p) n f) (hn : 0 < n) (hn2 : n ≤ 100000) :
    Calls Tryz.prog 44 #[.slice (some p) n cap] w fun e w' => ∃ v, e = .returned v ∧ w'.ownsRow w.heap.size 3 1 v n (ivs f) ∧ Below w.heap.size w w' := by
  obtain ⟨i0, hi0, hz0, hs0, hb0⟩ := info_all info3
  have oE : (w.alloc (.cells #[] 3)).ownsRow w.heap.size 3 1 (.slice (some ⟨w.heap.size, 0, none⟩) 0 0) 0 [] :=
    ⟨by simp, .inr ⟨w.heap.size, 0, #[], rfl, Nat.le_refl _, blk_new w #[] 3, Nat.le_refl _, by decide, by simp, by simp⟩⟩
  have bE : Below w.heap.size w (w.alloc (.cells #[] 3)) := (Below.refl _ _).alloc (Nat.le_refl _) _
  obtain ⟨hl, hp⟩ := h
  obtain ⟨x, hx, hp⟩ := hp hn
  injection hx with hx
  subst hx
  have cells : ∀ j u, (ivs f)[j]? = some u → (w.alloc (.cells #[] 3)).cell? (p.add j) = some u := fun j u hu => by
    obtain ⟨hj, _⟩ := List.getElem?_eq_some_iff.1 hu
    have hj' : j < f.length := by simpa [ivs] using hj
    have c := hp j hj'
    rw [bE.cell (World.block_lt_of_cell? _ _ c), c, ← hu]
    simp [ivs, iv, hj']
  have HL : Hid ((ivs f).length = n * 1) := by show _ = _; simp [ivs]; omega
  have HC := Hid.intro cells
  have HE := Hid.intro oE
  have HB := Hid.intro bE
  have en := eql_nil p n cap w
  clear hl hp cells oE bE
  go_enter Tryz.func44, Tryz.ntmps44
  go_wp2_with (at_builtin; refine wpList_push _ rfl (.tmp 5) (.tmp 6) 23 rfl 3 i0 (.int .i64 0) 1 8 Tryz.underlying23 hi0 hz0 hs0 hb0 rfl (by decide) (by decide) (.slice (some ⟨w.heap.size, 0, none⟩) 0 0) 0 [] rfl (own_low HE.out (Nat.zero_le _)) p n cap (ivs f) rfl HL.out HC.out (ivs_one _) (by omega) ?_)
  intro v' w' g1 g2 g3
  have R : Hid (w'.ownsRow w.heap.size 3 1 v' n (ivs f)) := by
    show World.ownsRow _ _ _ _ _ _ _
    have := own_up (B := w.heap.size) g1 (fun k hk => (g3 k hk).elim (fun e => by simp [Value.ownBlock] at e; omega) (fun e => by have := HB.out.size; omega))
    simpa using this
  have B2 : Hid (Below w.heap.size w w') := by
    refine ⟨g2.os.trans HB.out.os, g2.tape.trans HB.out.tape, g2.output.trans HB.out.output, Nat.le_trans HB.out.size g2.size, fun k hk => (g2.block k ?_ ?_).trans (HB.out.block k hk)⟩
    · have := HB.out.size; omega
    · intro e; simp [Value.ownBlock] at e; omega
  clear g1 g2 g3
  go_wp2_with fail
  go_ret
  exact ⟨v', rfl, R.out, B2.out⟩
/-! ### room made -/
theorem make_room (c : Nat) (hc : c ≤ 100000) (W : World) :
    (Instr.makeSlice 23 (.int .i64 0) (.int .i64 (c : Int))).run Tryz.prog W = .ok (.slice (some ⟨W.heap.size, 0, none⟩) 0 c) (W.alloc (.cells (madeCells #[.int .i64 0] c) 3)) := by
  obtain ⟨i, hi, hz, hs, hb⟩ := info_all info3
  have hr := run_make (P := Tryz.prog) W 23 3 i _ Tryz.underlying23 hi hz .i64 .i64 0 c (by omega) (by omega) (by rw [hb]; omega) (by omega)
  simp only [Int.toNat_natCast, hs, Nat.mul_one] at hr
  exact hr
theorem own_room (W : World) (c : Nat) (hc : c ≤ 100000) : (W.alloc (.cells (madeCells #[.int .i64 0] c) 3)).ownsRow W.heap.size 3 1 (.slice (some ⟨W.heap.size, 0, none⟩) 0 c) 0 [] :=
  ⟨rfl, .inr ⟨_, c, _, rfl, Nat.le_refl _, blk_new _ _ _, Nat.zero_le _, by simp only [maxLen]; omega, by simp [madeCells], by simp⟩⟩
theorem make_room3 (c : Nat) (hc : c ≤ 100000) (W : World) :
    (Instr.makeSlice 51 (.int .i64 0) (.int .i64 (c : Int))).run Tryz.prog W = .ok (.slice (some ⟨W.heap.size, 0, none⟩) 0 c) (W.alloc (.cells (madeCells #[.int .i64 0, .int .i64 0, .int .i64 0] (c * 3)) 77)) := by
  obtain ⟨i, hi, hz, hs, hb⟩ := info_all info77
  have hr := run_make (P := Tryz.prog) W 51 77 i _ Tryz.underlying51 hi hz .i64 .i64 0 c (by omega) (by omega) (by rw [hb]; omega) (by omega)
  simp only [Int.toNat_natCast, hs] at hr
  exact hr
theorem own_room3 (W : World) (c : Nat) (hc : c ≤ 100000) : (W.alloc (.cells (madeCells #[.int .i64 0, .int .i64 0, .int .i64 0] (c * 3)) 77)).ownsRow W.heap.size 77 3 (.slice (some ⟨W.heap.size, 0, none⟩) 0 c) 0 [] :=
  ⟨rfl, .inr ⟨_, c, _, rfl, Nat.le_refl _, blk_new _ _ _, Nat.zero_le _, by simp only [maxLen]; omega, by simp [madeCells], by simp⟩⟩
theorem nis_snoc (l : List Nat) (x : Nat) : nis l ++ [.int .i64 (x : Int)] = nis (l ++ [x]) := by simp [nis, ivs, iv]
theorem one_new (w : World) (x : Value) (t : TypeId) : ∀ j u, [x][j]? = some u → (w.alloc (.cells #[x] t)).cell? ((⟨w.heap.size, 0, none⟩ : Addr).add j) = some u := by
  intro j u hu
  cases j with
  | zero =>
    injection hu with hu
    subst hu
    show (w.alloc (.cells #[x] t)).cell? ⟨w.heap.size, 0 + 0, none⟩ = _
    rw [blk_cell (blk_new w _ _)]; rfl
  | succ j => simp at hu
def IoRel (L : List Nat) (w : World) (sv v : Value) (wr : World) : Prop :=
  ∃ i : Nat, i ≤ 65 ∧ sv = .int .i64 i ∧ wr.ownsRow 0 3 1 v (L.take i).sum (nis (cls 0 (L.take i))) ∧ From w.heap.size v ∧ Below w.heap.size w wr
def IoRel2 (L : List Nat) (i x : Nat) (w : World) (jv v : Value) (wr : World) : Prop :=
  ∃ j : Nat, j ≤ x ∧ jv = .int .i64 j ∧ wr.ownsRow 0 3 1 v ((L.take i).sum + j) (nis (cls 0 (L.take i) ++ List.replicate j i)) ∧ From w.heap.size v ∧ Below w.heap.size w wr
set_option maxRecDepth 100000 in
set_option maxHeartbeats 2000000 in
theorem inorder_any (a : Option Addr) (cap c : Nat) (L : List Nat) (w : World) (h : RI w a 65 (L.map Int.ofNat)) (hs : L.sum ≤ 4096) (hc : c ≤ 4096) :
    Calls Tryz.prog 71 #[.slice a 65 cap, .int .i64 (c : Int)] w fun e w' => ∃ v, e = .returned v ∧ w'.ownsRow w.heap.size 3 1 v L.sum (nis (cls 0 L)) ∧ Below w.heap.size w w' := by
  obtain ⟨i0, hi0, hz0, hs0, hb0⟩ := info_all info3
  have mk := make_room c (by omega) w
  have om := own_room w c (by omega)
  have b1 : Below w.heap.size w (w.alloc (.cells (madeCells #[.int .i64 0] c) 3)) := (Below.refl _ _).alloc (Nat.le_refl _) _
  obtain ⟨w1, hw1⟩ : ∃ w1, w.alloc (.cells (madeCells #[.int .i64 0] c) 3) = w1 := ⟨_, rfl⟩
  rw [hw1] at mk om b1
  have hl : L.length = 65 := by have := h.1; simpa using this
  have HR : Hid (∀ wr, Below w.heap.size w wr → ∀ i, i < 65 → ∃ x, a = some x ∧ wr.cell? (x.add i) = some (.int .i64 (g L i : Nat))) := fun wr hw i hi => by
    obtain ⟨x, hx, cx⟩ := ri_fr (ri_below h hw) i hi
    rw [fr_map] at cx
    exact ⟨x, hx, cx⟩
  have ST : Hid (IoRel L w (.int .i64 0) (.slice (some ⟨w.heap.size, 0, none⟩) 0 c) w1) := ⟨0, by omega, rfl, by simpa [nis, ivs, cls] using own_low om (Nat.zero_le _), fun k hk => by simp [Value.ownBlock] at hk; omega, b1⟩
  have HL := Hid.intro hl
  have HS := Hid.intro hs
  clear om b1 hw1 h hl hs
  go_enter Tryz.func71, Tryz.ntmps71
  go_wp2_with fail
  clear mk
  go_loopw [5, 12] (fun v sv wr => IoRel L w sv v wr) (fun _ sv _ => 65 - (intOf sv).toNat)
  case atStart => exact ST.out
  case round =>
    clear ST
    obtain ⟨i, hi, rfl, d1, d2, d3⟩ := hrel
    by_cases hlt : i < 65
    · obtain ⟨x, rfl, cx⟩ := HR.out wr d3 i hlt
      have T2 : Hid (cls 0 (L.take (i + 1)) = cls 0 (L.take i) ++ List.replicate (g L i) i) := cls_succ L i (by rw [HL.out]; exact hlt)
      have T3 : Hid ((L.take (i + 1)).sum = (L.take i).sum + g L i) := sum_take L i (by rw [HL.out]; exact hlt)
      have T4 : Hid ((L.take (i + 1)).sum ≤ 4096) := Nat.le_trans (sum_take_le L (i + 1)) HS.out
      have ST2 : Hid (IoRel2 L i (g L i) w (.int .i64 0) u5 wr) := ⟨0, by omega, rfl, by simpa using d1, d2, d3⟩
      have GB : g L i ≤ 4096 := by have := T4.out; have := T3.out; omega
      generalize hx : g L i = n at *
      clear d1 d2 d3 hx
      go_wp2_with fail
      have hd : decide ((i : Int) < 65) = true := by simp; omega
      simp only [hd]
      clear hd cx
      go_loopw [5, 18] (fun v jv wr => IoRel2 L i n w jv v wr) (fun _ jv _ => n - (intOf jv).toNat)
      case atStart => exact ST2.out
      case round =>
        clear ST2
        obtain ⟨j, hj, rfl, d1, d2, d3⟩ := hrel
        by_cases hjl : j < n
        · have D2 := Hid.intro d2
          have D3 := Hid.intro d3
          have A1 : Hid ((wr.alloc (.cells #[.int .i64 (i : Int)] 3)).ownsRow 0 3 1 u5 ((L.take i).sum + j) (nis (cls 0 (L.take i) ++ List.replicate j i))) := World.ownsRow.alloc d1 _
          have N1 := one_new wr (.int .i64 (i : Int)) 3
          have B3 : Hid (Below w.heap.size w (wr.alloc (.cells #[.int .i64 (i : Int)] 3))) := d3.alloc d3.size _
          have SZ : Hid (w.heap.size ≤ wr.heap.size) := d3.size
          have P3 : Hid ((L.take i).sum + j + 1 ≤ 100000) := by show _ ≤ _; have := T4.out; have := T3.out; omega
          obtain ⟨q, hq⟩ : ∃ q, (L.take i).sum + j = q := ⟨_, rfl⟩
          rw [hq] at A1 P3
          have HQ := Hid.intro hq
          clear d1 d2 d3 hq
          have N2 := Hid.intro N1
          clear N1
          go_wp2_with (at_builtin; refine wpList_push _ rfl (.tmp 20) (.tmp 22) 23 rfl 3 i0 (.int .i64 0) 1 8 Tryz.underlying23 hi0 hz0 hs0 hb0 rfl (by decide) (by decide) u5 q _ rfl A1.out ⟨wr.heap.size, 0, none⟩ 1 1 [.int .i64 (i : Int)] rfl rfl N2.out (by intro u hu; simp at hu; subst hu; rfl) P3.out ?_)
          intro v' w' g1 g2 g3
          have E1 : Hid (w'.ownsRow 0 3 1 v' ((L.take i).sum + (j + 1)) (nis (cls 0 (L.take i) ++ List.replicate (j + 1) i))) := by
            have e : q + 1 = (L.take i).sum + (j + 1) := by have := HQ.out; omega
            rw [e, nis_snoc, List.append_assoc, ← List.replicate_succ'] at g1
            exact g1
          have E2 : Hid (From w.heap.size v') := from_moved D2.out g3 (by have := SZ.out; simp; omega)
          have E3 : Hid (Below w.heap.size w w') := below_grown B3.out g2 B3.out.size (fun k hk => D2.out k hk)
          clear g1 g2 g3
          go_wp2_with fail
          go_roundw
          case rel => exact ⟨j + 1, by omega, by go_num, E1.out, E2.out, E3.out⟩
          case measure => simp [intOf]; omega
        · obtain rfl : j = n := by omega
          have E1 : Hid (wr.ownsRow 0 3 1 u5 (L.take (i + 1)).sum (nis (cls 0 (L.take (i + 1))))) := by
            show World.ownsRow _ _ _ _ _ _ _
            rw [T3.out, T2.out]; exact d1
          clear d1
          go_wp2_with fail
          go_roundw
          case rel => exact ⟨i + 1, by omega, by go_num, E1.out, d2, d3⟩
          case measure => simp [intOf]; omega
    · obtain rfl : i = 65 := by omega
      have E1 : Hid (wr.ownsRow w.heap.size 3 1 u5 L.sum (nis (cls 0 L))) := by
        have := own_up (B := w.heap.size) d1 d2
        rw [List.take_of_length_le (by rw [HL.out]; omega)] at this
        exact this
      clear d1
      go_wp2_with fail
      go_ret
      exact ⟨_, rfl, E1.out, d3⟩
end Go.Proofs.YtofclflcicjlaaaGreat
