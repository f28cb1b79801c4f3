/-
  The parts of any numbers, the numbers of any parts, how often each class comes, any order, are the reference's: for all lists.
-/
import Derived.Test.YtnnecccnoemkpaaRows
import Derived.WalkKit
import Derived.ProofKit
import Derived.OpenShut
import Derived.ShutString
import Derived.ChangeOld
import Derived.Below
import Derived.Test.YtnnecccnoemkpaaRo
import Derived.Deep.RegionWith
import Derived.Deep.QuietTactic
import Derived.BigQuiet
import Derived.Deep.SlicePairs
namespace Go.Proofs.Ytnnecccnoemkpaa.histAll
open Go.ChangeShapes Go.WideShapes Go.ChangeAt Go.RowKit
open Go.ChangeMaps (open_string shut_string)
set_option linter.unusedVariables false

theorem own : ownKnob Try.prog.godebug = none := by kernel_rfl
theorem laidOut : laidOutB Try.prog = true := by kernel_rfl

/-- WHAT THE WALK IS TOLD OF A SLICE OF INTEGERS THAT CAME IN: it is nil; or it leads to a row of 'cap' cells, the numbers 'zs' (the first 'len' are its elements, the rest its spare room), each fitting its kind. -/
def IsRow (k : IntKind) (w : World) (a : Option Addr) (len cap : Nat) (zs : List Int) : Prop :=
  (a = none ∧ len = 0 ∧ cap = 0 ∧ zs = []) ∨
  ∃ x, a = some x ∧ len ≤ cap ∧ cap ≤ maxLen ∧ zs.length = cap ∧ (∀ i, i < zs.length → w.cell? (x.add i) = some (.int k (zs.getD i 0))) ∧ ∀ n ∈ zs, (Lit.int k n).wf = true

def IsParts (w : World) (a : Option Addr) (len cap : Nat) (ps : List (Int × Int)) : Prop :=
  (a = none ∧ len = 0 ∧ cap = 0 ∧ ps = []) ∨
  ∃ x, a = some x ∧ len ≤ cap ∧ cap ≤ maxLen ∧ ps.length = len ∧ (∀ i (h : i < ps.length), w.cell? (x.add (i * 2)) = some (.int .i64 ps[i].1) ∧ w.cell? (x.add (i * 2 + 1)) = some (.int .u64 ps[i].2)) ∧ FP ps

theorem row_ri {w : World} {a : Option Addr} {len cap : Nat} {zs : List Int} (h : IsRow .i64 w a len cap zs) : len ≤ maxLen ∧ RI w a len (zs.take len) ∧ FI (zs.take len) := by
  rcases h with ⟨rfl, rfl, rfl, rfl⟩ | ⟨x, rfl, h1, h2, h3, h4, h5⟩
  · exact ⟨Nat.zero_le _, ⟨rfl, fun h => absurd h (by omega)⟩, fun z hz => by simp at hz⟩
  · refine ⟨Nat.le_trans h1 h2, ⟨by rw [List.length_take]; omega, fun _ => ⟨x, rfl, fun i hi => ?_⟩⟩, fun z hz => bounds_i64 (h5 z (List.mem_of_mem_take hz))⟩
    rw [List.length_take] at hi
    rw [h4 i (by omega), List.getD_eq_getElem?_getD, List.getElem?_eq_getElem (by omega), List.getElem_take]; rfl
theorem row_rp {w : World} {a : Option Addr} {len cap : Nat} {ps : List (Int × Int)} (h : IsParts w a len cap ps) : len ≤ maxLen ∧ RP w a len ps ∧ FP ps := by
  rcases h with ⟨rfl, rfl, rfl, rfl⟩ | ⟨x, rfl, h1, h2, h3, h4, h5⟩
  · exact ⟨Nat.zero_le _, ⟨rfl, fun h => absurd h (by omega)⟩, fun z hz => by simp at hz⟩
  · exact ⟨Nat.le_trans h1 h2, ⟨h3, fun _ => ⟨x, rfl, h4⟩⟩, h5⟩
theorem big (a b c : Option Addr) (n cap m cap' o cap'' : Nat) (w : World) (h : 200 < n ∨ (n ≤ 200 ∧ 200 < m) ∨ (n ≤ 200 ∧ m ≤ 200 ∧ 200 < o)) (hm : n ≤ maxLen) (hm' : m ≤ maxLen) (hm'' : o ≤ maxLen) :
    Calls Try.prog 3 #[.slice a n cap, .slice b m cap', .slice c o cap''] w fun e w' => e = .returned (.bool true) ∧ Below w.heap.size w w' := by
  simp only [maxLen] at hm hm' hm''
  have AW := awake_any w
  rcases h with h | ⟨h, h'⟩ | ⟨h, h', h''⟩
  all_goals
    go_enter Try.func3, Try.ntmps3
    go_wp2_with fail
    with_reducible refine AW.mono ?_
    rintro e w1 ⟨rfl, hb⟩
    clear AW
    go_wp2_with fail
    go_ret
    exact ⟨rfl, hb⟩
set_option maxRecDepth 100000 in
set_option maxHeartbeats 4000000 in
theorem core (a b c : Option Addr) (n cap m cap' o cap'' : Nat) (zs : List Int) (ps : List (Int × Int)) (f : List Int) (w : World) (h : RI w a n zs) (hf : FI zs) (hn : n ≤ 200) (h' : RP w b m ps) (hf' : FP ps) (hm : m ≤ 200) (h'' : RI w c o f) (hf'' : FI f) (ho : o ≤ 200) :
    Calls Try.prog 3 #[.slice a n cap, .slice b m cap', .slice c o cap''] w fun e w' => e = .returned (.bool true) ∧ Below w.heap.size w w' := by
  have V1 := values_any b m cap' ps w h' hf' (by omega)
  have HF := Hid.intro hf
  have HF' := Hid.intro hf'
  have HF'' := Hid.intro hf''
  have HR := Hid.intro h
  have HR' := Hid.intro h'
  have HR'' := Hid.intro h''
  clear h h' h'' hf hf' hf''
  have HV : Hid ((vals ps).length ≤ 200) := by
    show _ ≤ _
    unfold vals
    split
    · rw [List.length_map, HR'.out.1]; exact hm
    · simp
  obtain ⟨bk, hbk⟩ : ∃ bk, ps.all jk = bk := ⟨_, rfl⟩
  have HBK := Hid.intro hbk
  rw [hbk] at V1
  clear hbk
  have tb : (bk == bk) = true := by simp
  go_enter Try.func3, Try.ntmps3
  go_wp2_with fail
  with_reducible refine V1.mono ?_
  rintro e w1 ⟨v1, rfl, k1, b1⟩
  obtain ⟨a1, cap1, rfl, _, _, r1⟩ := own_ri k1
  have V2 := rvalues_any b m cap' ps w1 (rp_below HR'.out b1) HF'.out (by omega)
  rw [HBK.out] at V2
  have hL := HV.out
  generalize (vals ps).length = L at *
  clear V1 k1 HV
  go_wp2_with fail
  with_reducible refine V2.mono ?_
  rintro e w2 ⟨v2, rfl, k2, b2⟩
  obtain ⟨a2, cap2, rfl, _, _, r2⟩ := own_ri k2
  have B2 : Below w.heap.size w w2 := b1.trans (b2.mono b1.size)
  have r1' := ri_below r1 b2
  have xb := blk_new w2 #[.slice a2 L cap2, .bool bk] 29
  have D3 : Below w2.heap.size w2 (w2.alloc (.cells #[.slice a2 L cap2, .bool bk] 29)) := (Below.refl _ _).alloc (Nat.le_refl _) _
  have B3 : Below w.heap.size w (w2.alloc (.cells #[.slice a2 L cap2, .bool bk] 29)) := B2.trans (D3.mono B2.size)
  have r1'' := ri_below r1' D3
  have r2'' := ri_below r2 D3
  have P1 := parts_any a n cap zs (w2.alloc (.cells #[.slice a2 L cap2, .bool bk] 29)) (ri_below HR.out B3) HF.out (by omega)
  clear V2 k2 b1 b2 r1 r2 r1' D3
  have hX := blk_lt xb
  go_wp2_with fail
  generalize w2.alloc (.cells #[.slice a2 L cap2, .bool bk] 29) = w3 at *
  generalize w2.heap.size = X at *
  with_reducible refine P1.mono ?_
  rintro e w4 ⟨v4, rfl, k4, b4⟩
  obtain ⟨a4, cap4, rfl, _, _, r4⟩ := own_rp k4
  have B4 : Below w.heap.size w w4 := B3.trans (b4.mono B3.size)
  have P2 := rparts_any a n cap zs w4 (ri_below HR.out B4) HF.out (by omega)
  clear P1 k4
  go_wp2_with fail
  with_reducible refine P2.mono ?_
  rintro e w5 ⟨v5, rfl, k5, b5⟩
  obtain ⟨a5, cap5, rfl, _, _, r5⟩ := own_rp k5
  have D5 : Below w3.heap.size w3 w5 := b4.trans (b5.mono b4.size)
  have SP := sameP_any a4 a5 n n cap4 cap5 _ _ w5 (rp_below r4 b5) r5 (by omega) (by omega)
  rw [decide_eq_true rfl] at SP
  clear P2 k5 r4 r5 b4 b5
  go_wp2_with fail
  with_reducible refine SP.mono ?_
  rintro e w6 ⟨rfl, b6⟩
  have D6 : Below w3.heap.size w3 w6 := D5.trans (b6.mono D5.size)
  have cL : w6.cell? ⟨X, 0, none⟩ = some (.slice a2 L cap2) := by rw [blk_cell (blk_below xb D6 hX)]; rfl
  have SN := sameN_any a1 a2 L L cap1 cap2 _ _ w6 (ri_below r1'' D6) (ri_below r2'' D6) (by omega) (by omega)
  rw [decide_eq_true rfl] at SN
  clear SP b6 D5 r1'' r2''
  go_wp2_with fail
  with_reducible refine SN.mono ?_
  rintro e w7 ⟨rfl, b7⟩
  have D7 : Below w3.heap.size w3 w7 := D6.trans (b7.mono D6.size)
  have B7 : Below w.heap.size w w7 := B3.trans (D7.mono B3.size)
  have cK : w7.cell? ⟨X, 1, none⟩ = some (.bool bk) := by rw [blk_cell (blk_below xb D7 hX)]; rfl
  have O1 := of_any b m cap' ps w7 (rp_below HR'.out B7) (by omega)
  clear SN b7 D6 D7 cL xb
  go_wp2_with fail
  with_reducible refine O1.mono ?_
  rintro e w8 ⟨v8, rfl, k8, b8⟩
  have B8 : Below w.heap.size w w8 := B7.trans (b8.mono B7.size)
  have O2 := rof_any b m cap' ps w8 (rp_below HR'.out B8) (by omega)
  obtain ⟨a8, cap8, rfl, _, _, r8⟩ := own_ri k8
  clear O1 k8 b8 B7 cK
  go_wp2_with fail
  with_reducible refine O2.mono ?_
  rintro e w9 ⟨v9, rfl, k9, b9⟩
  have B9 : Below w.heap.size w w9 := B8.trans (b9.mono B8.size)
  obtain ⟨a9, cap9, rfl, _, _, r9⟩ := own_ri k9
  have SI := sameI_any a8 a9 65 65 cap8 cap9 _ _ w9 (ri_below r8 b9) r9 (by omega) (by omega)
  rw [decide_eq_true rfl] at SI
  clear O2 k9 b9 B8 r8 r9
  go_wp2_with fail
  with_reducible refine SI.mono ?_
  rintro e w10 ⟨rfl, b10⟩
  have B10 : Below w.heap.size w w10 := B9.trans (b10.mono B9.size)
  have Q1 := order_any c o cap'' f w10 (ri_below HR''.out B10) HF''.out (by omega)
  clear SI b10 B9
  go_wp2_with fail
  with_reducible refine Q1.mono ?_
  rintro e w11 ⟨v11, o1, rfl, ho1, k11, b11⟩
  have B11 : Below w.heap.size w w11 := B10.trans (b11.mono B10.size)
  have Q2 := rorder_any c o cap'' f w11 (ri_below HR''.out B11) HF''.out (by omega)
  obtain ⟨a11, cap11, rfl, _, _, r11⟩ := own_ri k11
  have HO1 := Hid.intro ho1
  clear Q1 k11 b11 B10 ho1
  go_wp2_with fail
  with_reducible refine Q2.mono ?_
  rintro e w12 ⟨v12, o2, rfl, ho2, k12, b12⟩
  obtain rfl := ordered_one ho2 HO1.out
  have hol : o2.length ≤ 200 := by rw [ho2.1.length_eq]; exact Nat.le_trans (places_le f o) ho
  have B12 : Below w.heap.size w w12 := B11.trans (b12.mono B11.size)
  obtain ⟨a12, cap12, rfl, _, _, r12⟩ := own_ri k12
  have SJ := sameI_any a11 a12 o2.length o2.length cap11 cap12 _ _ w12 (ri_below r11 b12) r12 (by omega) (by omega)
  rw [decide_eq_true rfl] at SJ
  clear Q2 k12 b12 B11 r11 r12 ho2 HO1
  go_wp2_with fail
  with_reducible refine SJ.mono ?_
  rintro e w13 ⟨rfl, b13⟩
  have B13 : Below w.heap.size w w13 := B12.trans (b13.mono B12.size)
  have AW := awake_any w13
  clear SJ b13 B12
  go_wp2_with fail
  with_reducible refine AW.mono ?_
  rintro e w14 ⟨rfl, b14⟩
  clear AW
  go_wp2_with fail
  go_ret
  exact ⟨rfl, B13.trans (b14.mono B13.size)⟩
theorem walk (a0 : Option Addr) (len0 cap0 : Nat) (z0 : List Int) (a1 : Option Addr) (len1 cap1 : Nat) (z1 : List (Int × Int)) (a2 : Option Addr) (len2 cap2 : Nat) (z2 : List Int) (w : World) (w0 : IsRow .i64 w a0 len0 cap0 z0) (w1 : IsParts w a1 len1 cap1 z1) (w2 : IsRow .i64 w a2 len2 cap2 z2) :
    Calls Try.prog 3 #[.slice a0 len0 cap0, .slice a1 len1 cap1, .slice a2 len2 cap2] w fun e w' => e = .returned (.bool true) ∧ Below w.heap.size w w' := by
  obtain ⟨h1, h2, h3⟩ := row_ri w0
  obtain ⟨g1, g2, g3⟩ := row_rp w1
  obtain ⟨f1, f2, f3⟩ := row_ri w2
  by_cases hb : 200 < len0 ∨ (len0 ≤ 200 ∧ 200 < len1) ∨ (len0 ≤ 200 ∧ len1 ≤ 200 ∧ 200 < len2)
  · exact big a0 a1 a2 len0 cap0 len1 cap1 len2 cap2 w hb h1 g1 f1
  · exact core a0 a1 a2 len0 cap0 len1 cap1 len2 cap2 _ _ _ w h2 h3 (by omega) g2 g3 (by omega) f2 f3 (by omega)

/-! ### THE ROW's STEP: WRITTEN OUT: LEAVE IT -/
set_option maxRecDepth 100000 in
theorem lifted (os : Os) (started : os.Started) (H : Type) (enc : TypeId × Value → H) :
    ReturnsInHanded {} Try.checked os 3 .any (Rows.histAllSpec.pre6 enc Try.prog Try.f3 Rows.histAllRow.domain false) (Rows.histAllSpec.post enc Try.prog Try.f3 false true false false) := by
  refine returnsInHanded_of_change (C := Try.checked) own started (by kernel_rfl) Try.func3
    (ChangeSpec.witness6 (enc := enc) (C := Try.checked) false ⟨#[], #[.slice none 0 0, .slice none 0 0, .slice none 0 0], []⟩ 8 (by kernel_rfl) (by kernel_rfl) (by kernel_rfl) (by kernel_rfl)) ?_
  intro W base args ds gs before hval0 hW hcnd _
  have hval : ∀ (j : Nat) t v, Try.f3.params[j]? = some t → args[j]? = some v → Value.okWide Try.prog W .any base t v := hval0
  have hW' := hW
  obtain ⟨p, q, hA0, hV, rfl, hfz, hnd⟩ := hW
  have hA : DataW.TrodAll enc Try.prog W 0 (fun _ => true) true Try.f3.params.toList args.toList ds p := hA0
  rw [Try.params3] at hA hval
  obtain ⟨v0, vs0, d0, ds0, p0, q0, hargs, rfl, rfl, h0, r0⟩ := trodAll_cons hA
  obtain ⟨v1, vs1, d1, ds1, p1, q1, rfl, rfl, rfl, h1, r1⟩ := trodAll_cons r0
  obtain ⟨v2, vs2, d2, ds2, p2, q2, rfl, rfl, rfl, h2, r2⟩ := trodAll_cons r1
  obtain ⟨rfl, rfl, rfl⟩ := trodAll_nil r2
  obtain rfl : args = #[v0, v1, v2] := by cases args; simp_all
  obtain ⟨rfl, rfl⟩ := trodVars_none hV
  obtain ⟨a0, len0, cap0, rfl⟩ := okWide_slice Try.underlying22 (hval 0 22 v0 rfl rfl)
  have k0 := h0
  have lt0 : ∀ x ∈ p0, x.block < W.heap.size := by obtain ⟨m, hm⟩ := k0; exact DataW.trod_lt m _ _ _ hm
  obtain ⟨z0, w0⟩ : ∃ zs, IsRow .i64 W a0 len0 cap0 zs := by
    obtain ⟨fuel, hf⟩ := h0
    rcases open_ints Try.underlying22 Try.underlying2 (by kernel_rfl) hf with ⟨hcs, _⟩ | ⟨x, l, c, zs, hcs, _, hl, hm, hz, _, hcell, hwz⟩
    · simp [Value.cells] at hcs
      obtain ⟨rfl, rfl, rfl⟩ := hcs
      exact ⟨[], .inl ⟨rfl, rfl, rfl, rfl⟩⟩
    · simp [Value.cells] at hcs
      obtain ⟨rfl, rfl, rfl⟩ := hcs
      exact ⟨zs, .inr ⟨_, rfl, hl, hm, by simpa using hz, hcell, hwz⟩⟩
  obtain ⟨a1, len1, cap1, rfl⟩ := okWide_slice Try.underlying23 (hval 1 23 v1 rfl rfl)
  have k1 := h1
  have lt1 : ∀ x ∈ p1, x.block < W.heap.size := by obtain ⟨m, hm⟩ := k1; exact DataW.trod_lt m _ _ _ hm
  obtain ⟨z1, w1⟩ : ∃ ps, IsParts W a1 len1 cap1 ps := by
    obtain ⟨fuel, hf⟩ := h1
    rcases Go.Deep.open_slice_pairs Try.underlying23 Try.underlying43 (by kernel_rfl) rfl rfl (by kernel_rfl) (by kernel_rfl) hf with ⟨hcs, _⟩ | ⟨x, l, c, m, n, V0, V1, D0, D1, P0, P1, hcs, _, hl, hm, hmm, _, hel⟩
    · simp [Value.cells] at hcs
      obtain ⟨rfl, rfl, rfl⟩ := hcs
      exact ⟨[], .inl ⟨rfl, rfl, rfl, rfl⟩⟩
    · simp [Value.cells] at hcs
      obtain ⟨rfl, rfl, rfl⟩ := hcs
      have hle : len1 ≤ m := by rw [hmm]; split <;> omega
      have each : ∀ i, i < len1 → ∃ p : Int × Int, W.cell? (x.add (i * 2)) = some (.int .i64 p.1) ∧ W.cell? (x.add (i * 2 + 1)) = some (.int .u64 p.2) ∧ (-9223372036854775808 ≤ p.1 ∧ p.1 ≤ 9223372036854775807) ∧ 0 ≤ p.2 ∧ p.2 ≤ 18446744073709551615 := by
        intro i hi
        obtain ⟨c0, c1, t0, t1⟩ := hel i (by omega)
        obtain ⟨n0, e0, _, wf0⟩ := DataW.trod_int Try.underlying3 t0
        obtain ⟨n1, e1, _, wf1⟩ := DataW.trod_int Try.underlying41 t1
        simp only [List.cons.injEq, and_true] at e0 e1
        rw [e0] at c0
        rw [e1] at c1
        have b1 := bounds_u64 wf1
        exact ⟨(n0, n1), c0, c1, bounds_i64 wf0, b1.1, by have := b1.2; simp only; omega⟩
      obtain ⟨q, hq⟩ := Go.Deep.choose_lt each
      refine ⟨(List.range len1).map q, .inr ⟨x, rfl, hl, hm, by simp, fun i h => ?_, fun p hp => ?_⟩⟩
      · rw [List.length_map, List.length_range] at h
        rw [List.getElem_map, List.getElem_range]
        exact ⟨(hq i h).1, (hq i h).2.1⟩
      · obtain ⟨i, hi, rfl⟩ := List.mem_map.1 hp
        exact (hq i (List.mem_range.1 hi)).2.2
  obtain ⟨a2, len2, cap2, rfl⟩ := okWide_slice Try.underlying24 (hval 2 24 v2 rfl rfl)
  have k2 := h2
  have lt2 : ∀ x ∈ p2, x.block < W.heap.size := by obtain ⟨m, hm⟩ := k2; exact DataW.trod_lt m _ _ _ hm
  obtain ⟨z2, w2⟩ : ∃ zs, IsRow .i64 W a2 len2 cap2 zs := by
    obtain ⟨fuel, hf⟩ := h2
    rcases open_ints Try.underlying24 Try.underlying3 (by kernel_rfl) hf with ⟨hcs, _⟩ | ⟨x, l, c, zs, hcs, _, hl, hm, hz, _, hcell, hwz⟩
    · simp [Value.cells] at hcs
      obtain ⟨rfl, rfl, rfl⟩ := hcs
      exact ⟨[], .inl ⟨rfl, rfl, rfl, rfl⟩⟩
    · simp [Value.cells] at hcs
      obtain ⟨rfl, rfl, rfl⟩ := hcs
      exact ⟨zs, .inr ⟨_, rfl, hl, hm, by simpa using hz, hcell, hwz⟩⟩
  clear hA0 hval0
  refine (walk a0 len0 cap0 z0 a1 len1 cap1 z1 a2 len2 cap2 z2 W w0 w1 w2).mono fun e W' ⟨he, bel⟩ => ?_
  subst he
  exact ⟨_, rfl, _, _, _, [], _, [], hW', trodAll_mk1 (shut_bool Try.underlying4 _), (trodAll_cons_mk (Below.trod laidOut (by kernel_rfl) (of_decide_eq_true (by kernel_rfl)) k0 bel lt0) (trodAll_cons_mk (Below.trod laidOut (by kernel_rfl) (of_decide_eq_true (by kernel_rfl)) k1 bel lt1) (trodAll_cons_mk (Below.trod laidOut (by kernel_rfl) (of_decide_eq_true (by kernel_rfl)) k2 bel lt2) trodAll_mk0))), rfl, bel.frame _, fun h => by cases h⟩

theorem over : Rows.histAllRow.holds Try.pinned (OpenSpec.ofChange Rows.histAllSpec) :=
  OpenClaim.holds_of_wide 3 Try.f3 rfl rfl rfl rfl rfl rfl rfl ⟨rfl, rfl, rfl, rfl, rfl⟩ rfl rfl rfl rfl rfl (by kernel_rfl) Try.func3 (by kernel_rfl)
    (of_decide_eq_true (by kernel_rfl)) (by unfold Func.isWrapper; first | (rw [if_pos (by decide +kernel)]; kernel_rfl) | (rw [if_neg (by decide +kernel)]; exact ⟨rfl, rfl⟩))
    (fun os started H enc _ => lifted os started H enc)

/-- ████ THE STATEMENT ████ -/
theorem proved : Rows.HistAllSaid := over
end Go.Proofs.Ytnnecccnoemkpaa.histAll

namespace Go.Proofs.Ytnnecccnoemkpaa
theorem histAll_holds : Rows.HistAllSaid := histAll.proved
#print axioms histAll_holds
end Go.Proofs.Ytnnecccnoemkpaa
