/-
  Of two lists together each class comes as often as in both, in whatever order: for every two lists.
-/
import Derived.Test.YtnnecccnoemkpaaRows
import Derived.WalkKit
import Derived.ProofKit
import Derived.OpenShut
import Derived.ShutString
import Derived.ChangeOld
import Derived.Below
import Derived.Test.YtnnecccnoemkpaaJm
import Derived.Deep.RegionWith
import Derived.Deep.QuietTactic
import Derived.BigQuiet
import Derived.OwnWalk
namespace Go.Proofs.Ytnnecccnoemkpaa.histJoins
open Go.ChangeShapes Go.WideShapes Go.ChangeAt Go.RowKit
open Go.ChangeMaps (open_string shut_string)
set_option linter.unusedVariables false

theorem own : ownKnob Try.prog.godebug = none := by kernel_rfl
theorem laidOut : laidOutB Try.prog = true := by kernel_rfl

/-- WHAT THE WALK IS TOLD OF A SLICE OF INTEGERS THAT CAME IN: it is nil; or it leads to a row of 'cap' cells, the numbers 'zs' (the first 'len' are its elements, the rest its spare room), each fitting its kind. -/
def IsRow (k : IntKind) (w : World) (a : Option Addr) (len cap : Nat) (zs : List Int) : Prop :=
  (a = none ∧ len = 0 ∧ cap = 0 ∧ zs = []) ∨
  ∃ x, a = some x ∧ len ≤ cap ∧ cap ≤ maxLen ∧ zs.length = cap ∧ (∀ i, i < zs.length → w.cell? (x.add i) = some (.int k (zs.getD i 0))) ∧ ∀ n ∈ zs, (Lit.int k n).wf = true

theorem row_ri {w : World} {a : Option Addr} {len cap : Nat} {zs : List Int} (h : IsRow .i64 w a len cap zs) : len ≤ maxLen ∧ RI w a len (zs.take len) ∧ FI (zs.take len) ∧ (a = none → cap = 0 ∧ len = 0) := by
  rcases h with ⟨rfl, rfl, rfl, rfl⟩ | ⟨x, rfl, h1, h2, h3, h4, h5⟩
  · exact ⟨Nat.zero_le _, ⟨rfl, fun h => absurd h (by omega)⟩, fun z hz => by simp at hz, fun _ => ⟨rfl, rfl⟩⟩
  · refine ⟨Nat.le_trans h1 h2, ⟨by rw [List.length_take]; omega, fun _ => ⟨x, rfl, fun i hi => ?_⟩⟩, fun z hz => bounds_i64 (h5 z (List.mem_of_mem_take hz)), fun h => by cases h⟩
    rw [List.length_take] at hi
    rw [h4 i (by omega), List.getD_eq_getElem?_getD, List.getElem?_eq_getElem (by omega), List.getElem_take]; rfl
theorem big (a b : Option Addr) (n cap m cap' : Nat) (t : Int) (w : World) (h : 100 < n ∨ (n ≤ 100 ∧ 100 < m)) (hm : n ≤ maxLen) (hm' : m ≤ maxLen) :
    Calls Try.prog 6 #[.slice a n cap, .slice b m cap', .int .u8 t] w fun e w' => e = .returned (.bool true) ∧ Below w.heap.size w w' := by
  simp only [maxLen] at hm hm'
  have AW := awake_any w
  rcases h with h | ⟨h, h'⟩
  all_goals
    go_enter Try.func6, Try.ntmps6
    go_wp2_with fail
    with_reducible refine AW.mono ?_
    rintro e w1 ⟨rfl, hb⟩
    clear AW
    go_wp2_with fail
    go_ret
    exact ⟨rfl, hb⟩
theorem below_grown {B : Nat} {a b c : World} {row : Option Nat} (h : Below B a b) (g : b.grownBy c row) (hs : B ≤ b.heap.size) (hB : ∀ k, row = some k → B ≤ k) : Below B a c :=
  ⟨g.os.trans h.os, g.tape.trans h.tape, g.output.trans h.output, Nat.le_trans h.size g.size, fun k hk => (g.block k (by omega) (fun e => by have := hB k e.symm; omega)).trans (h.block k hk)⟩
def J1 (xs : List Int) (t : Nat) (w4 : World) (ov sv : Value) (wr : World) : Prop :=
  ∃ i, i ≤ xs.length ∧ sv = .int .i64 (i : Nat) ∧ wr.ownsRow w4.heap.size 2 1 ov i (ivs (rot xs t i)) ∧ Below w4.heap.size w4 wr
def J2 (w13 : World) (sv : Value) (wr : World) : Prop :=
  ∃ j, j ≤ 65 ∧ sv = .int .i64 (j : Nat) ∧ Below w13.heap.size w13 wr
set_option maxRecDepth 100000 in
set_option maxHeartbeats 4000000 in
theorem core (a b : Option Addr) (n cap m cap' t : Nat) (zs ys : List Int) (w : World) (h : RI w a n zs) (hf : FI zs) (hn : n ≤ 100) (h' : RI w b m ys) (hf' : FI ys) (hm : m ≤ 100) (ht : t ≤ 255)
    (ha : a = none → cap = 0 ∧ n = 0) (hb : b = none → cap' = 0 ∧ m = 0) :
    Calls Try.prog 6 #[.slice a n cap, .slice b m cap', .int .u8 t] w fun e w' => e = .returned (.bool true) ∧ Below w.heap.size w w' := by
  have HA := Hid.intro ha
  have HB := Hid.intro hb
  have HF := Hid.intro hf
  have HF' := Hid.intro hf'
  have HR := Hid.intro h
  have HR' := Hid.intro h'
  have P1 := parts_any a n cap zs w h hf (by omega)
  clear ha hb hf hf' h h'
  go_enter Try.func6, Try.ntmps6
  go_wp2_with fail
  with_reducible refine P1.mono ?_
  rintro e w1 ⟨v1, rfl, k1, b1⟩
  obtain ⟨a1, cap1, rfl, _, _, r1⟩ := own_rp k1
  have O1 := of_any a1 n cap1 _ w1 r1 (by omega)
  clear P1 k1 r1
  go_wp2_with fail
  with_reducible refine O1.mono ?_
  rintro e w2 ⟨v2, rfl, kA, b2⟩
  obtain ⟨bA, capA, rfl⟩ := own_slice kA (by decide)
  have B2 : Below w.heap.size w w2 := b1.trans (b2.mono b1.size)
  have P2 := parts_any b m cap' ys w2 (ri_below HR'.out B2) HF'.out (by omega)
  clear O1 b1 b2
  go_wp2_with fail
  with_reducible refine P2.mono ?_
  rintro e w3 ⟨v3, rfl, k3, b3⟩
  obtain ⟨a3, cap3, rfl, _, _, r3⟩ := own_rp k3
  have O2 := of_any a3 m cap3 _ w3 r3 (by omega)
  have kA3 := own_later kA b3
  clear P2 k3 r3 kA
  go_wp2_with fail
  with_reducible refine O2.mono ?_
  rintro e w4 ⟨v4, rfl, kB, b4⟩
  obtain ⟨bB, capB, rfl⟩ := own_slice kB (by decide)
  have B3 : Below w.heap.size w w3 := B2.trans (b3.mono B2.size)
  have B4 : Below w.heap.size w w4 := B3.trans (b4.mono B3.size)
  have kA4 := own_later kA3 b4
  clear O2 b3 b4 B2 B3 kA3
  obtain ⟨i0, hi0, hz0, hs0, hb0⟩ := info_all info2
  have oe := own_low (own_empty w4 2 1) (Nat.zero_le _)
  have kA5 := World.ownsRow.alloc kA4 (.cells #[] 2)
  have kB5 := World.ownsRow.alloc kB (.cells #[] 2)
  have B5 : Below w.heap.size w (w4.alloc (.cells #[] 2)) := B4.alloc B4.size _
  have r5 := ri_below HR.out B5
  have hbA := (kA4.lt bA rfl).2
  have hbB := (kB.lt bB rfl).2
  have fr5 : From w4.heap.size (.slice (some ⟨w4.heap.size, 0, none⟩) 0 0) := fun k hk => by simp [Value.ownBlock] at hk; omega
  have BB : Below w4.heap.size w4 (w4.alloc (.cells #[] 2)) := (Below.refl _ _).alloc (Nat.le_refl _) _
  go_wp2_with (at_builtin; refine wpList_pushS _ rfl (.tmp 29) (.tmp 30) 22 rfl 2 i0 (.int .i64 0) 1 8 Try.underlying22 hi0 hz0 hs0 hb0 rfl (by decide) (by decide) (.slice (some ⟨w4.heap.size, 0, none⟩) 0 0) 0 [] rfl oe a n cap (ivs zs) rfl (by simp [ivs, r5.1]) HA.out (ri_cells r5) (ivs_one _) (by omega) ?_)
  intro v6 w6 o6 g6 m6
  have D6 : Below w4.heap.size w4 w6 := below_grown BB g6 (by simp) (fun k hk => fr5 k hk)
  have f6 := from_moved fr5 m6 (by simp)
  have B6 : Below w.heap.size w w6 := B4.trans (D6.mono B4.size)
  have r6 := ri_below HR'.out B6
  clear kA5 kB5 B5 r5 oe fr5 BB g6 m6
  go_wp2_with (at_builtin; refine wpList_pushS _ rfl (.tmp 31) (.tmp 32) 22 rfl 2 i0 (.int .i64 0) 1 8 Try.underlying22 hi0 hz0 hs0 hb0 rfl (by decide) (by decide) v6 n (ivs zs) rfl o6 b m cap' (ivs ys) rfl (by simp [ivs, r6.1]) HB.out (ri_cells r6) (ivs_one _) (by omega) ?_)
  intro v7 w7 o7 g7 m7
  have D7 : Below w4.heap.size w4 w7 := below_grown D6 g7 D6.size (fun k hk => f6 k hk)
  rw [← ivs_append] at o7
  have HXL : Hid ((zs ++ ys).length = n + m) := by show _ = _; rw [List.length_append, HR.out.1, HR'.out.1]
  have HXF : Hid (FI (zs ++ ys)) := fun z hz => (List.mem_append.1 hz).elim (HF.out z) (HF'.out z)
  have HC : Hid (∀ c, cl ((zs ++ ys).map spl) c = cl (zs.map spl) c + cl (ys.map spl) c) := fun c => by rw [List.map_append, cl_append]
  have LA : Hid (∀ c, cl (zs.map spl) c ≤ 100) := fun c => Nat.le_trans (cl_le _ c) (by rw [List.length_map, HR.out.1]; exact hn)
  have LB : Hid (∀ c, cl (ys.map spl) c ≤ 100) := fun c => Nat.le_trans (cl_le _ c) (by rw [List.length_map, HR'.out.1]; exact hm)
  obtain ⟨N, hN⟩ : ∃ N, n + m = N := ⟨_, rfl⟩
  have hN2 : N ≤ 200 := by omega
  rw [hN] at o7 HXL
  clear hN
  obtain ⟨a7, cap7, rfl, _, _, r7⟩ := own_ri o7
  generalize zs ++ ys = xs at *
  clear D6 f6 B6 r6 o6 g7 m7 o7 HA HB HF HF' HR HR'
  have L0 : Hid (J1 xs t w7 (.slice none 0 0) (.int .i64 0) w7) := ⟨0, by omega, rfl, World.ownsRow_nil _ _ _ _, Below.refl _ _⟩
  go_wp2_with fail
  go_loopw [10, 11] (fun ov sv wr => J1 xs t w7 ov sv wr) (fun _ sv _ => N - (intOf sv).toNat)
  case atStart => exact L0.out
  case round =>
    clear L0
    obtain ⟨i, hi, rfl, d1, d2⟩ := hrel
    rw [HXL.out] at hi
    by_cases hlt : i < N
    · obtain ⟨x, rfl, hx⟩ := r7.2 (by omega)
      obtain ⟨k, hk⟩ : ∃ k, (i + t) % N = k := ⟨_, rfl⟩
      have hkN : k < N := by rw [← hk]; exact Nat.mod_lt _ (by omega)
      have ck := hx k (by rw [HXL.out]; exact hkN)
      rw [← d2.cell (World.block_lt_of_cell? _ _ ck)] at ck
      have ez : xs[k]'(by rw [HXL.out]; exact hkN) = xs.getD k 0 := by rw [List.getD_eq_getElem?_getD, List.getElem?_eq_getElem (by rw [HXL.out]; exact hkN)]; rfl
      rw [ez] at ck
      have RS : Hid (rot xs t (i + 1) = rot xs t i ++ [xs.getD k 0]) := by
        show _ = _
        rw [rot_succ, HXL.out, hk]
      have he : ((i : Int) + (t : Int)) % (N : Int) = (k : Int) := by rw [← hk]; simp
      generalize xs.getD k 0 = z at *
      clear hx hk ez
      go_wp2_with (at_builtin; refine wpList_push _ rfl (.tmp 40) (.tmp 51) 22 rfl 2 i0 (.int .i64 0) 1 8 Try.underlying22 hi0 hz0 hs0 hb0 rfl (by decide) (by decide) u10 i (ivs (rot xs t i)) rfl (World.ownsRow.alloc (own_low d1 (Nat.zero_le _)) _) ⟨wr.heap.size, 0, none⟩ 1 1 [.int .i64 z] rfl rfl (cell_one_new _ _ _) (by intro u hu; simp at hu; subst hu; rfl) (by omega) ?_)
      intro v8 w8 o8 g8 m8
      have fu : From w7.heap.size u10 := fun k hk => (d1.lt k hk).1
      have f8 := from_moved fu m8 (by have := d2.size; simp; omega)
      have D8 : Below w7.heap.size w7 w8 := below_grown (d2.alloc d2.size _) g8 (by have := d2.size; simp; omega) (fun k hk => fu k hk)
      rw [show ivs (rot xs t i) ++ [.int .i64 z] = ivs (rot xs t (i + 1)) from by rw [RS.out, ivs_append]; rfl] at o8
      have JJ : Hid (J1 xs t w7 v8 (.int .i64 ((i + 1 : Nat) : Int)) w8) := ⟨i + 1, by rw [HXL.out]; exact hlt, rfl, own_up o8 f8, D8⟩
      obtain ⟨b8, cap8, rfl⟩ := own_slice o8 (by omega)
      clear o8 g8 m8 fu f8 D8 d1 d2
      go_wp2_with fail
      go_roundw
      case rel => exact JJ.out
      case measure => simp [intOf]; omega
    · obtain rfl : i = N := by omega
      have XN := HXL.out
      have kO := d1
      obtain ⟨a8, cap8, rfl, _, _, r8⟩ := own_ri kO
      have Dr : Below w4.heap.size w4 wr := D7.trans (d2.mono D7.size)
      have Br : Below w.heap.size w wr := B4.trans (Dr.mono B4.size)
      have P3 := parts_any a7 i cap7 xs wr (ri_below r7 d2) HXF.out (by omega)
      clear hi
      go_wp2_with fail
      with_reducible refine P3.mono ?_
      rintro e w9 ⟨v9, rfl, k9, b9⟩
      obtain ⟨a9, cap9, rfl, _, _, r9⟩ := own_rp k9
      have O3 := of_any a9 i cap9 _ w9 r9 (by omega)
      clear P3 k9 r9
      go_wp2_with fail
      with_reducible refine O3.mono ?_
      rintro e w10 ⟨v10, rfl, kC, b10⟩
      obtain ⟨bC, capC, rfl⟩ := own_slice kC (by decide)
      have B10 : Below wr.heap.size wr w10 := b9.trans (b10.mono b9.size)
      have PM : Hid (cnt ((rot xs t i).map spl) = cnt (xs.map spl)) := cnt_perm (by rw [← XN]; exact (rot_perm xs t).map _)
      have P4 := parts_any a8 i cap8 (rot xs t i) w10 (ri_below r8 B10) (rot_mem xs t i HXF.out) (by omega)
      clear O3 b9 b10
      go_wp2_with fail
      with_reducible refine P4.mono ?_
      rintro e w11 ⟨v11, rfl, k11, b11⟩
      obtain ⟨a11, cap11, rfl, _, _, r11⟩ := own_rp k11
      have O4 := of_any a11 i cap11 _ w11 r11 (by omega)
      rw [PM.out] at O4
      clear P4 k11 r11
      go_wp2_with fail
      with_reducible refine O4.mono ?_
      rintro e w12 ⟨v12, rfl, kO2, b12⟩
      obtain ⟨bO, capO, rfl⟩ := own_slice kO2 (by decide)
      have B12 : Below w10.heap.size w10 w12 := b11.trans (b12.mono b11.size)
      have kC12 := own_later kC B12
      obtain ⟨aa, ca, e1, _, _, rO⟩ := own_ri kO2
      obtain ⟨ab, cb, e2, _, _, rC⟩ := own_ri kC12
      injection e1 with e1 _ e1'
      injection e2 with e2 _ e2'
      subst e1 e1' e2 e2'
      have SI := sameI_any (some ⟨bO, 0, none⟩) (some ⟨bC, 0, none⟩) 65 65 capO capC _ _ w12 rO rC (by omega) (by omega)
      rw [decide_eq_true rfl] at SI
      have D12 : Below w4.heap.size w4 w12 := (Dr.trans (B10.mono Dr.size)).trans (B12.mono (by have := Dr.size; have := B10.size; omega))
      clear O4 b11 b12 rO rC r8 kO kO2 B10 B12 kC d1 d2
      go_wp2_with fail
      with_reducible refine SI.mono ?_
      rintro e w13 ⟨rfl, b13⟩
      have D13 : Below w4.heap.size w4 w13 := D12.trans (b13.mono D12.size)
      have qA := own_later kA4 D13
      have qB := own_later kB D13
      have qC := own_later kC12 b13
      have L0 : Hid (J2 w13 (.int .i64 0) w13) := ⟨0, by omega, rfl, Below.refl _ _⟩
      clear SI b13 kC12 D12
      go_wp2_with fail
      go_loopw [13] (fun sv wr => J2 w13 sv wr) (fun sv _ => 65 - (intOf sv).toNat)
      case atStart => exact L0.out
      case round =>
        clear L0
        obtain ⟨j, hj, rfl, d3⟩ := hrel
        by_cases hlt2 : j < 65
        · have cA : wr.cell? ⟨bA, j, none⟩ = some (.int .i64 (cl (zs.map spl) j : Int)) := by
            rw [(own_there (own_later qA d3) j (by omega)).1]; unfold ivs; rw [List.getElem?_map, cnt_at _ j hlt2]; rfl
          have cB : wr.cell? ⟨bB, j, none⟩ = some (.int .i64 (cl (ys.map spl) j : Int)) := by
            rw [(own_there (own_later qB d3) j (by omega)).1]; unfold ivs; rw [List.getElem?_map, cnt_at _ j hlt2]; rfl
          have cC : wr.cell? ⟨bC, j, none⟩ = some (.int .i64 (cl (xs.map spl) j : Int)) := by
            rw [(own_there (own_later qC d3) j (by omega)).1]; unfold ivs; rw [List.getElem?_map, cnt_at _ j hlt2]; rfl
          rw [HC.out j] at cC
          have lA := LA.out j
          have lB := LB.out j
          have B1 : Hid (∀ k, Below w13.heap.size w13 (wr.drewN k)) := fun k => below_drewN d3 k
          generalize cl (zs.map spl) j = p at *
          generalize cl (ys.map spl) j = q at *
          have t1 : IntKind.i64.wrap ((p : Int) + (q : Int)) = (p : Int) + (q : Int) := by rw [IntKind.wrap_i64]; omega
          rw [Int.natCast_add] at cC
          clear d3
          go_wp2_with fail
          go_quiet (fail)
          clear t1
          go_wp2_with fail
          go_roundw
          case rel => exact ⟨j + 1, hlt2, by go_num, B1.out nq⟩
          case measure => simp [intOf]; omega
        · have AW := awake_any wr
          have E13 : Below w.heap.size w w13 := B4.trans (D13.mono B4.size)
          have E14 : Below w.heap.size w wr := E13.trans (d3.mono E13.size)
          clear d3 qA qB qC
          go_wp2_with fail
          with_reducible refine AW.mono ?_
          rintro e w15 ⟨rfl, b15⟩
          clear AW
          go_wp2_with fail
          go_ret
          exact ⟨rfl, E14.trans (b15.mono E14.size)⟩
theorem walk (a0 : Option Addr) (len0 cap0 : Nat) (z0 : List Int) (a1 : Option Addr) (len1 cap1 : Nat) (z1 : List Int) (a2 : Int) (w : World) (w0 : IsRow .i64 w a0 len0 cap0 z0) (w1 : IsRow .i64 w a1 len1 cap1 z1) (w2 : (Lit.int .u8 a2).wf = true) :
    Calls Try.prog 6 #[.slice a0 len0 cap0, .slice a1 len1 cap1, .int .u8 a2] w fun e w' => e = .returned (.bool true) ∧ Below w.heap.size w w' := by
  obtain ⟨h1, h2, h3, h4⟩ := row_ri w0
  obtain ⟨g1, g2, g3, g4⟩ := row_ri w1
  by_cases hb : 100 < len0 ∨ (len0 ≤ 100 ∧ 100 < len1)
  · exact big a0 a1 len0 cap0 len1 cap1 a2 w hb h1 g1
  · obtain ⟨t0, t1⟩ := bounds_u8 w2
    obtain ⟨t, rfl⟩ := Int.eq_ofNat_of_zero_le t0
    exact core a0 a1 len0 cap0 len1 cap1 t _ _ w h2 h3 (by omega) g2 g3 (by omega) (by omega) h4 g4

/-! ### THE ROW's STEP: WRITTEN OUT: LEAVE IT -/
set_option maxRecDepth 100000 in
theorem lifted (os : Os) (started : os.Started) (H : Type) (enc : TypeId × Value → H) :
    ReturnsInHanded {} Try.checked os 6 .any (Rows.histJoinsSpec.pre6 enc Try.prog Try.f6 Rows.histJoinsRow.domain false) (Rows.histJoinsSpec.post enc Try.prog Try.f6 false true false false) := by
  refine returnsInHanded_of_change (C := Try.checked) own started (by kernel_rfl) Try.func6
    (ChangeSpec.witness6 (enc := enc) (C := Try.checked) false ⟨#[], #[.slice none 0 0, .slice none 0 0, .int .u8 0], []⟩ 8 (by kernel_rfl) (by kernel_rfl) (by kernel_rfl) (by kernel_rfl)) ?_
  intro W base args ds gs before hval0 hW hcnd _
  have hval : ∀ (j : Nat) t v, Try.f6.params[j]? = some t → args[j]? = some v → Value.okWide Try.prog W .any base t v := hval0
  have hW' := hW
  obtain ⟨p, q, hA0, hV, rfl, hfz, hnd⟩ := hW
  have hA : DataW.TrodAll enc Try.prog W 0 (fun _ => true) true Try.f6.params.toList args.toList ds p := hA0
  rw [Try.params6] at hA hval
  obtain ⟨v0, vs0, d0, ds0, p0, q0, hargs, rfl, rfl, h0, r0⟩ := trodAll_cons hA
  obtain ⟨v1, vs1, d1, ds1, p1, q1, rfl, rfl, rfl, h1, r1⟩ := trodAll_cons r0
  obtain ⟨v2, vs2, d2, ds2, p2, q2, rfl, rfl, rfl, h2, r2⟩ := trodAll_cons r1
  obtain ⟨rfl, rfl, rfl⟩ := trodAll_nil r2
  obtain rfl : args = #[v0, v1, v2] := by cases args; simp_all
  obtain ⟨rfl, rfl⟩ := trodVars_none hV
  obtain ⟨a0, len0, cap0, rfl⟩ := okWide_slice Try.underlying22 (hval 0 22 v0 rfl rfl)
  have k0 := h0
  have lt0 : ∀ x ∈ p0, x.block < W.heap.size := by obtain ⟨m, hm⟩ := k0; exact DataW.trod_lt m _ _ _ hm
  obtain ⟨z0, w0⟩ : ∃ zs, IsRow .i64 W a0 len0 cap0 zs := by
    obtain ⟨fuel, hf⟩ := h0
    rcases open_ints Try.underlying22 Try.underlying2 (by kernel_rfl) hf with ⟨hcs, _⟩ | ⟨x, l, c, zs, hcs, _, hl, hm, hz, _, hcell, hwz⟩
    · simp [Value.cells] at hcs
      obtain ⟨rfl, rfl, rfl⟩ := hcs
      exact ⟨[], .inl ⟨rfl, rfl, rfl, rfl⟩⟩
    · simp [Value.cells] at hcs
      obtain ⟨rfl, rfl, rfl⟩ := hcs
      exact ⟨zs, .inr ⟨_, rfl, hl, hm, by simpa using hz, hcell, hwz⟩⟩
  obtain ⟨a1, len1, cap1, rfl⟩ := okWide_slice Try.underlying22 (hval 1 22 v1 rfl rfl)
  have k1 := h1
  have lt1 : ∀ x ∈ p1, x.block < W.heap.size := by obtain ⟨m, hm⟩ := k1; exact DataW.trod_lt m _ _ _ hm
  obtain ⟨z1, w1⟩ : ∃ zs, IsRow .i64 W a1 len1 cap1 zs := by
    obtain ⟨fuel, hf⟩ := h1
    rcases open_ints Try.underlying22 Try.underlying2 (by kernel_rfl) hf with ⟨hcs, _⟩ | ⟨x, l, c, zs, hcs, _, hl, hm, hz, _, hcell, hwz⟩
    · simp [Value.cells] at hcs
      obtain ⟨rfl, rfl, rfl⟩ := hcs
      exact ⟨[], .inl ⟨rfl, rfl, rfl, rfl⟩⟩
    · simp [Value.cells] at hcs
      obtain ⟨rfl, rfl, rfl⟩ := hcs
      exact ⟨zs, .inr ⟨_, rfl, hl, hm, by simpa using hz, hcell, hwz⟩⟩
  obtain ⟨a2, rfl, rfl, rfl, w2⟩ := open_int Try.underlying5 (hval 2 5 v2 rfl rfl) h2
  clear hA0 hval0
  refine (walk a0 len0 cap0 z0 a1 len1 cap1 z1 a2 W w0 w1 w2).mono fun e W' ⟨he, bel⟩ => ?_
  subst he
  exact ⟨_, rfl, _, _, _, [], _, [], hW', trodAll_mk1 (shut_bool Try.underlying4 _), (trodAll_cons_mk (Below.trod laidOut (by kernel_rfl) (of_decide_eq_true (by kernel_rfl)) k0 bel lt0) (trodAll_cons_mk (Below.trod laidOut (by kernel_rfl) (of_decide_eq_true (by kernel_rfl)) k1 bel lt1) (trodAll_cons_mk (shut_int Try.underlying5 w2) trodAll_mk0))), rfl, bel.frame _, fun h => by cases h⟩

theorem over : Rows.histJoinsRow.holds Try.pinned (OpenSpec.ofChange Rows.histJoinsSpec) :=
  OpenClaim.holds_of_wide 6 Try.f6 rfl rfl rfl rfl rfl rfl rfl ⟨rfl, rfl, rfl, rfl, rfl⟩ rfl rfl rfl rfl rfl (by kernel_rfl) Try.func6 (by kernel_rfl)
    (of_decide_eq_true (by kernel_rfl)) (by unfold Func.isWrapper; first | (rw [if_pos (by decide +kernel)]; kernel_rfl) | (rw [if_neg (by decide +kernel)]; exact ⟨rfl, rfl⟩))
    (fun os started H enc _ => lifted os started H enc)

/-- ████ THE STATEMENT ████ -/
theorem proved : Rows.HistJoinsSaid := over
end Go.Proofs.Ytnnecccnoemkpaa.histJoins

namespace Go.Proofs.Ytnnecccnoemkpaa
theorem histJoins_holds : Rows.HistJoinsSaid := histJoins.proved
#print axioms histJoins_holds
end Go.Proofs.Ytnnecccnoemkpaa
