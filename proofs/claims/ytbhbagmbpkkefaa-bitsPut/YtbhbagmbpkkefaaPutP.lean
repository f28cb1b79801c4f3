/-
  Whatever is put, in any lengths: how many bits there are, and the bytes, are the reference's.
-/
import Derived.Test.YtbhbagmbpkkefaaRows
import Derived.WalkKit
import Derived.ProofKit
import Derived.OpenShut
import Derived.ShutString
import Derived.ChangeOld
import Derived.Below
import Derived.Test.YtbhbagmbpkkefaaOwn
import Derived.Deep.RegionWith
import Derived.Deep.QuietTactic
import Derived.BigQuiet
import Derived.Test.YtbhbagmbpkkefaaRefB
namespace Go.Proofs.Ytbhbagmbpkkefaa.bitsPut
open Go.ChangeShapes Go.WideShapes Go.ChangeAt Go.RowKit
open Go.ChangeMaps (open_string shut_string)
set_option linter.unusedVariables false

theorem own : ownKnob Try.prog.godebug = none := by kernel_rfl
theorem laidOut : laidOutB Try.prog = true := by kernel_rfl

/-- WHAT THE WALK IS TOLD OF A SLICE OF INTEGERS THAT CAME IN: it is nil; or it leads to a row of 'cap' cells, the numbers 'zs' (the first 'len' are its elements, the rest its spare room), each fitting its kind. -/
def IsRow (k : IntKind) (w : World) (a : Option Addr) (len cap : Nat) (zs : List Int) : Prop :=
  (a = none ∧ len = 0 ∧ cap = 0 ∧ zs = []) ∨
  ∃ x, a = some x ∧ len ≤ cap ∧ cap ≤ maxLen ∧ zs.length = cap ∧ (∀ i, i < zs.length → w.cell? (x.add i) = some (.int k (zs.getD i 0))) ∧ ∀ n ∈ zs, (Lit.int k n).wf = true

/-- How many bits the first i numbers take; the number that they make in a row. -/
def szs (K : Nat → Nat) : Nat → Nat
  | 0 => 0
  | i + 1 => szs K i + K i
def num (X K : Nat → Nat) : Nat → Nat
  | 0 => 0
  | i + 1 => num X K i + X i % 2 ^ K i * 2 ^ szs K i
theorem szs_le (K : Nat → Nat) (hK : ∀ i, K i ≤ 64) (i : Nat) : szs K i ≤ 64 * i := by
  induction i with
  | zero => simp [szs]
  | succ i ih => have := hK i; rw [szs]; omega
theorem szs_mono (K : Nat → Nat) (i d : Nat) : szs K i ≤ szs K (i + d) := by
  induction d with
  | zero => exact Nat.le_refl _
  | succ d ih => rw [← Nat.add_assoc, szs]; omega
theorem num_lt (X K : Nat → Nat) (i : Nat) : num X K i < 2 ^ szs K i := by
  induction i with
  | zero => simp [num, szs]
  | succ i ih => rw [num, szs]; exact put_lt _ _ _ _ ih
theorem num_split (X K : Nat → Nat) (i d : Nat) : ∃ R, num X K (i + 1 + d) = num X K i + X i % 2 ^ K i * 2 ^ szs K i + R * 2 ^ (szs K i + K i) := by
  induction d with
  | zero => exact ⟨0, by rw [Nat.add_zero, num]; omega⟩
  | succ d ih =>
    obtain ⟨R, hR⟩ := ih
    have hm : szs K (i + 1) ≤ szs K (i + 1 + d) := szs_mono K (i + 1) d
    rw [szs] at hm
    refine ⟨R + X (i + 1 + d) % 2 ^ K (i + 1 + d) * 2 ^ (szs K (i + 1 + d) - (szs K i + K i)), ?_⟩
    rw [← Nat.add_assoc, num, hR, Nat.add_mul, ← Nat.add_assoc, Nat.mul_assoc (X (i + 1 + d) % _), ← Nat.pow_add, Nat.sub_add_cancel hm]
def PtRel (X K : Nat → Nat) (m : Nat) (w : World) (A B : Nat) (iv : Value) (wr : World) : Prop :=
  ∃ (i : Nat) (va vb : Value), i ≤ m ∧ iv = .int .i64 i ∧ Wr wr A va (szs K i) (num X K i) ∧ Up w.heap.size A va ∧ Ro wr B vb (szs K i) (num X K i) ∧ Up w.heap.size B vb ∧ Below w.heap.size w wr ∧ Apart A va B vb

theorem rput_own {w W : World} (A : Nat) (v : Value) (sz N x : Nat) (n : Int) (h : Ro W A v sz N) (hu : Up w.heap.size A v) (hb : Below w.heap.size w W) (hsz : sz ≤ 99000) (hx : x < 18446744073709551616)
    (sz' N' : Nat) (e1 : sz + cl n = sz') (e2 : N + x % 2 ^ cl n * 2 ^ sz = N') :
    Calls Try.prog 12 #[ptr A, .int .u64 x, .int .i64 n] W fun e W' => e = .returned (.tuple #[]) ∧ ∃ v', Ro W' A v' sz' N' ∧ Up w.heap.size A v' ∧ Below w.heap.size w W' ∧ Chg (foot A v) W W' ∧ Moved W v v' := by
  subst e1 e2
  refine (rput_any A v sz N x n W h (by omega) hx).mono ?_
  rintro e W' ⟨rfl, v', k1, k2, k3⟩
  exact ⟨rfl, v', k1, up_moved hu k3 hb.size, below_foot hb k2 hu, k2, k3⟩

set_option maxRecDepth 100000 in
set_option maxHeartbeats 4000000 in
theorem core (a b : Option Addr) (n0 cap0 n1 cap1 m : Nat) (X : Nat → Nat) (L : Nat → Int) (w : World) (h0 : n0 ≤ 100) (hm0 : m ≤ n0) (hm1 : m ≤ n1) (hmm : m = n0 ∨ (m = n1 ∧ m < n0)) (hn1 : n1 ≤ 9223372036854775807)
    (hx : 0 < n0 → ∃ x, a = some x ∧ ∀ i, i < n0 → w.cell? (x.add i) = some (.int .u64 (X i)) ∧ X i < 18446744073709551616)
    (hy : 0 < n1 → ∃ y, b = some y ∧ ∀ i, i < n1 → w.cell? (y.add i) = some (.int .i64 (L i)) ∧ -9223372036854775808 ≤ L i ∧ L i ≤ 9223372036854775807)
    (K : Nat → Nat) (hK : ∀ i, K i = cl (L i)) (hK64 : ∀ i, K i ≤ 64) :
    Calls Try.prog 3 #[.slice a n0 cap0, .slice b n1 cap1] w fun e w' => e = .returned (.bool true) ∧ Below w.heap.size w w' := by
  have HK : Hid (∀ i, K i = cl (L i)) := hK
  have HK64 : Hid (∀ i, K i ≤ 64) := hK64
  have HX : Hid (0 < n0 → ∃ x, a = some x ∧ ∀ i, i < n0 → w.cell? (x.add i) = some (.int .u64 (X i)) ∧ X i < 18446744073709551616) := hx
  have HY : Hid (0 < n1 → ∃ y, b = some y ∧ ∀ i, i < n1 → w.cell? (y.add i) = some (.int .i64 (L i)) ∧ -9223372036854775808 ≤ L i ∧ L i ≤ 9223372036854775807) := hy
  clear hK hK64 hx hy
  go_enter Try.func3, Try.ntmps3
  go_wp2_with fail
  refine (new_own (Below.refl _ w)).mono ?_
  rintro e w1 ⟨A, rfl, s1, a1, a2, a3, _⟩
  clear s1
  have b1 : Ro (w1.alloc (.cells #[.slice none 0 0] 30)) w1.heap.size (.slice none 0 0) 0 0 := ⟨blk_new _ _ _, World.ownsRow_nil _ _ _ _, by simp [Value.ownBlock], by decide⟩
  have a1' : Wr (w1.alloc (.cells #[.slice none 0 0] 30)) A (.slice none 0 0) 0 0 := wr_kept (S := fun _ => False) a1 (chg_alloc (chg_refl _ _) _) (fun _ _ h => h)
  have a3' : Below w.heap.size w (w1.alloc (.cells #[.slice none 0 0] 30)) := a3.alloc a3.size _
  have ap := apart_new (B := w1.heap.size) (wr_lt a1) (Nat.le_refl _)
  have ub := up_nil w.heap.size w1.heap.size a3.size
  clear a1 a3
  unfold ptr
  go_wp2_with fail
  generalize w1.alloc (.cells #[.slice none 0 0] 30) = w2 at *
  generalize w1.heap.size = B at *
  go_loopw [7] (fun iv wr => PtRel X K m w A B iv wr) (fun iv _ => m - (intOf iv).toNat)
  case atStart => exact ⟨0, _, _, by omega, rfl, a1', a2, b1, ub, a3', ap⟩
  case round =>
    clear a1' a2 b1 ub a3' ap
    obtain ⟨i, va, vb, hi, rfl, d1, d2, d3, d4, d5, d6⟩ := hrel
    have hsz := szs_le K HK64.out i
    by_cases hlt : i < m
    · obtain ⟨x, rfl, hx⟩ := HX.out (by omega)
      obtain ⟨y, rfl, hy⟩ := HY.out (by omega)
      obtain ⟨cx, bx⟩ := hx i (by omega)
      obtain ⟨cy, by1, by2⟩ := hy i (by omega)
      have cx' : wr.cell? (x.add i) = some (.int .u64 (X i)) := by rw [d5.cell (World.block_lt_of_cell? _ _ cx)]; exact cx
      have cy' : wr.cell? (y.add i) = some (.int .i64 (L i)) := by rw [d5.cell (World.block_lt_of_cell? _ _ cy)]; exact cy
      have CX : Hid (∀ W, Below w.heap.size w W → W.cell? (x.add i) = some (.int .u64 (X i))) := fun W hb => by rw [hb.cell (World.block_lt_of_cell? _ _ cx)]; exact cx
      have CY : Hid (∀ W, Below w.heap.size w W → W.cell? (y.add i) = some (.int .i64 (L i))) := fun W hb => by rw [hb.cell (World.block_lt_of_cell? _ _ cy)]; exact cy
      have hk : K i = cl (L i) := HK.out i
      have l0 : i < n0 := by omega
      have l1 : i < n1 := by omega
      have P := put_own (W := wr.drew) A va (szs K i) (num X K i) (X i) (L i) d1 d2 (Below.drew d5) (by omega) bx by1 by2 (szs K (i + 1)) (num X K (i + 1)) (by rw [← hk, szs]) (by rw [← hk, num])
      have P2 := fun (W : World) (h : Ro W B vb (szs K i) (num X K i)) (hb : Below w.heap.size w W) => rput_own B vb (szs K i) (num X K i) (X i) (L i) h d4 hb (by omega) bx (szs K (i + 1)) (num X K (i + 1)) (by rw [← hk, szs]) (by rw [← hk, num])
      clear hx hy cx cy hk
      unfold ptr at P P2
      go_wp2_with fail
      go_region_with (go_at_call 11; refine P.mono ?_; intro e w4 hp; obtain ⟨he, hp'⟩ := hp; subst he; have HP := Hid.intro hp'; clear hp')
      all_goals
        obtain ⟨va', e1, e2, e3, e4, e5⟩ := HP.out
        clear HP P
        have d3' : Ro w4.drew B vb (szs K i) (num X K i) := ro_kept (show Ro wr.drew B vb _ _ from d3) e4 (apart_symm d6)
        have d6' := apart_moved d6 e5 (ro_lt d3)
        have P3 := P2 w4.drew d3' (Below.drew e3)
        have cx4 := CX.out w4 e3
        have cy4 := CY.out w4 e3
        clear P2 cx' cy' d3 d1 d5 e4 e5 d6 d2
        go_wp2_with fail
        go_region_with (go_at_call 12; refine P3.mono ?_; intro e w5 hp; obtain ⟨he, hp'⟩ := hp; subst he; have HP := Hid.intro hp'; clear hp')
        all_goals
          obtain ⟨vb', f1, f2, f3, f4, f5⟩ := HP.out
          clear HP P3
          have g1 : Wr w5 A va' (szs K (i + 1)) (num X K (i + 1)) := wr_kept (show Wr w4.drew A va' _ _ from e1) f4 d6'
          have g2 := apart_symm (apart_moved (apart_symm d6') f5 (wr_lt e1))
          obtain ⟨ab, capb, rfl⟩ := ro_val f1
          have cb : w5.cell? ⟨B, 0, none⟩ = some (.slice ab (szs K (i + 1)) capb) := by rw [blk_cell f1.1]; rfl
          have LL := len_any A va' _ _ w5.drew (show Wr w5.drew A va' _ _ from g1)
          have hz1 := szs_le K HK64.out (i + 1)
          unfold ptr at LL
          clear cx4 cy4 d3' f4 f5 d6' e1
          generalize hZ : szs K (i + 1) = Z at *
          have HZ : Hid (szs K (i + 1) = Z) := hZ
          clear hZ
          go_wp2_with fail
          go_region_with (go_at_call 13; refine LL.mono ?_; rintro e w6 ⟨rfl, rfl⟩)
          all_goals
            clear LL cb
            go_wp2
            go_roundw
            case rel => exact ⟨i + 1, va', _, by omega, by go_num, by rw [HZ.out]; exact g1, e2, by rw [HZ.out]; exact f1, f2, Below.drew f3, g2⟩
            case measure => simp [intOf]; omega
    · obtain rfl : i = m := by omega
      have B1 := bytes_any A va _ _ wr d1
      have B2 := rbytes_any B vb _ _ wr d3 (by omega)
      generalize bs (byt (num X K i) (byc (szs K i))) = S at *
      unfold ptr at B1 B2
      rcases hmm with rfl | ⟨rfl, hlt2⟩
      all_goals
        go_wp2_with (go_at_call 14; refine B1.mono ?_; rintro e w1 ⟨rfl, rfl⟩)
        refine B2.mono ?_
        rintro e w5 ⟨rfl, k1⟩
        have k2 := below_no d5 k1
        go_wp2_with (go_at_call 10; refine (awake_own k2).mono ?_; rintro e w9 ⟨rfl, hb9⟩)
        go_ret
        exact ⟨rfl, by assumption⟩

set_option maxRecDepth 100000 in
theorem big (a b : Option Addr) (n0 cap0 n1 cap1 : Nat) (w : World) (h : 100 < n0) (hl : n0 ≤ 9223372036854775807) :
    Calls Try.prog 3 #[.slice a n0 cap0, .slice b n1 cap1] w fun e w' => e = .returned (.bool true) ∧ Below w.heap.size w w' := by
  go_enter Try.func3, Try.ntmps3
  go_wp2_with fail
  refine (new_own (Below.refl _ w)).mono ?_
  rintro e w1 ⟨A, rfl, s1, a1, a2, a3, _⟩
  unfold ptr
  go_wp2_with (go_at_call 10; refine (awake_own a3).mono ?_; rintro e w9 ⟨rfl, hb9⟩)
  go_ret
  exact ⟨rfl, by assumption⟩

theorem row_nat {k : IntKind} {w : World} {a : Option Addr} {len cap : Nat} {zs : List Int} (h : IsRow k w a len cap zs) (B : Nat) (hB : ∀ n, (Lit.int k n).wf = true → 0 ≤ n ∧ n < B) :
    len ≤ maxLen ∧ (0 < len → ∃ x, a = some x ∧ ∀ i, i < len → w.cell? (x.add i) = some (.int k ((zs.getD i 0).toNat : Nat)) ∧ (zs.getD i 0).toNat < B) := by
  rcases h with ⟨rfl, rfl, rfl, rfl⟩ | ⟨x, rfl, h1, h2, h3, h4, h5⟩
  · exact ⟨Nat.zero_le _, fun h => absurd h (by omega)⟩
  · refine ⟨Nat.le_trans h1 h2, fun _ => ⟨x, rfl, fun i hi => ?_⟩⟩
    have hg : zs.getD i 0 = zs[i] := by rw [List.getD_eq_getElem?_getD, List.getElem?_eq_getElem (by omega)]; rfl
    have hb := hB zs[i] (h5 _ (List.getElem_mem (by omega)))
    rw [h4 i (by omega), hg, Int.toNat_of_nonneg hb.1]
    exact ⟨rfl, by omega⟩

theorem row_int {w : World} {a : Option Addr} {len cap : Nat} {zs : List Int} (h : IsRow .i64 w a len cap zs) :
    len ≤ maxLen ∧ (0 < len → ∃ x, a = some x ∧ ∀ i, i < len → w.cell? (x.add i) = some (.int .i64 (zs.getD i 0)) ∧ -9223372036854775808 ≤ zs.getD i 0 ∧ zs.getD i 0 ≤ 9223372036854775807) := by
  rcases h with ⟨rfl, rfl, rfl, rfl⟩ | ⟨x, rfl, h1, h2, h3, h4, h5⟩
  · exact ⟨Nat.zero_le _, fun h => absurd h (by omega)⟩
  · refine ⟨Nat.le_trans h1 h2, fun _ => ⟨x, rfl, fun i hi => ?_⟩⟩
    have hg : zs.getD i 0 = zs[i] := by rw [List.getD_eq_getElem?_getD, List.getElem?_eq_getElem (by omega)]; rfl
    have hb := bounds_i64 (h5 _ (List.getElem_mem (show i < zs.length by omega)))
    rw [h4 i (by omega), hg]
    exact ⟨rfl, by omega, by omega⟩

theorem walk (a0 : Option Addr) (len0 cap0 : Nat) (z0 : List Int) (a1 : Option Addr) (len1 cap1 : Nat) (z1 : List Int) (w : World) (w0 : IsRow .u64 w a0 len0 cap0 z0) (w1 : IsRow .i64 w a1 len1 cap1 z1) :
    Calls Try.prog 3 #[.slice a0 len0 cap0, .slice a1 len1 cap1] w fun e w' => e = .returned (.bool true) ∧ Below w.heap.size w w' := by
  obtain ⟨b0, r0⟩ := row_nat w0 18446744073709551616 (fun n h => by have := bounds_u64 h; omega)
  obtain ⟨b1, r1⟩ := row_int w1
  unfold maxLen at b0 b1
  by_cases h : 100 < len0
  · exact big _ _ _ _ _ _ w h (by omega)
  · exact core a0 a1 len0 cap0 len1 cap1 (min len0 len1) (fun i => (z0.getD i 0).toNat) (fun i => z1.getD i 0) w (by omega) (by omega) (by omega) (by omega) (by omega) r0 r1
      (fun i => cl (z1.getD i 0)) (fun _ => rfl) (fun i => cl_le _)

/-! ### THE ROW's STEP: WRITTEN OUT: LEAVE IT -/
set_option maxRecDepth 100000 in
theorem lifted (os : Os) (started : os.Started) (H : Type) (enc : TypeId × Value → H) :
    ReturnsInHanded {} Try.checked os 3 .any (Rows.bitsPutSpec.pre6 enc Try.prog Try.f3 Rows.bitsPutRow.domain false) (Rows.bitsPutSpec.post enc Try.prog Try.f3 false true false false) := by
  refine returnsInHanded_of_change (C := Try.checked) own started (by kernel_rfl) Try.func3
    (ChangeSpec.witness6 (enc := enc) (C := Try.checked) false ⟨#[], #[.slice none 0 0, .slice none 0 0], []⟩ 8 (by kernel_rfl) (by kernel_rfl) (by kernel_rfl) (by kernel_rfl)) ?_
  intro W base args ds gs before hval0 hW hcnd _
  have hval : ∀ (j : Nat) t v, Try.f3.params[j]? = some t → args[j]? = some v → Value.okWide Try.prog W .any base t v := hval0
  have hW' := hW
  obtain ⟨p, q, hA0, hV, rfl, hfz, hnd⟩ := hW
  have hA : DataW.TrodAll enc Try.prog W 0 (fun _ => true) true Try.f3.params.toList args.toList ds p := hA0
  rw [Try.params3] at hA hval
  obtain ⟨v0, vs0, d0, ds0, p0, q0, hargs, rfl, rfl, h0, r0⟩ := trodAll_cons hA
  obtain ⟨v1, vs1, d1, ds1, p1, q1, rfl, rfl, rfl, h1, r1⟩ := trodAll_cons r0
  obtain ⟨rfl, rfl, rfl⟩ := trodAll_nil r1
  obtain rfl : args = #[v0, v1] := by cases args; simp_all
  obtain ⟨rfl, rfl⟩ := trodVars_none hV
  obtain ⟨a0, len0, cap0, rfl⟩ := okWide_slice Try.underlying22 (hval 0 22 v0 rfl rfl)
  have k0 := h0
  have lt0 : ∀ x ∈ p0, x.block < W.heap.size := by obtain ⟨m, hm⟩ := k0; exact DataW.trod_lt m _ _ _ hm
  obtain ⟨z0, w0⟩ : ∃ zs, IsRow .u64 W a0 len0 cap0 zs := by
    obtain ⟨fuel, hf⟩ := h0
    rcases open_ints Try.underlying22 Try.underlying32 (by kernel_rfl) hf with ⟨hcs, _⟩ | ⟨x, l, c, zs, hcs, _, hl, hm, hz, _, hcell, hwz⟩
    · simp [Value.cells] at hcs
      obtain ⟨rfl, rfl, rfl⟩ := hcs
      exact ⟨[], .inl ⟨rfl, rfl, rfl, rfl⟩⟩
    · simp [Value.cells] at hcs
      obtain ⟨rfl, rfl, rfl⟩ := hcs
      exact ⟨zs, .inr ⟨_, rfl, hl, hm, by simpa using hz, hcell, hwz⟩⟩
  obtain ⟨a1, len1, cap1, rfl⟩ := okWide_slice Try.underlying23 (hval 1 23 v1 rfl rfl)
  have k1 := h1
  have lt1 : ∀ x ∈ p1, x.block < W.heap.size := by obtain ⟨m, hm⟩ := k1; exact DataW.trod_lt m _ _ _ hm
  obtain ⟨z1, w1⟩ : ∃ zs, IsRow .i64 W a1 len1 cap1 zs := by
    obtain ⟨fuel, hf⟩ := h1
    rcases open_ints Try.underlying23 Try.underlying3 (by kernel_rfl) hf with ⟨hcs, _⟩ | ⟨x, l, c, zs, hcs, _, hl, hm, hz, _, hcell, hwz⟩
    · simp [Value.cells] at hcs
      obtain ⟨rfl, rfl, rfl⟩ := hcs
      exact ⟨[], .inl ⟨rfl, rfl, rfl, rfl⟩⟩
    · simp [Value.cells] at hcs
      obtain ⟨rfl, rfl, rfl⟩ := hcs
      exact ⟨zs, .inr ⟨_, rfl, hl, hm, by simpa using hz, hcell, hwz⟩⟩
  clear hA0 hval0
  refine (walk a0 len0 cap0 z0 a1 len1 cap1 z1 W w0 w1).mono fun e W' ⟨he, bel⟩ => ?_
  subst he
  exact ⟨_, rfl, _, _, _, [], _, [], hW', trodAll_mk1 (shut_bool Try.underlying4 _), (trodAll_cons_mk (Below.trod laidOut (by kernel_rfl) (of_decide_eq_true (by kernel_rfl)) k0 bel lt0) (trodAll_cons_mk (Below.trod laidOut (by kernel_rfl) (of_decide_eq_true (by kernel_rfl)) k1 bel lt1) trodAll_mk0)), rfl, bel.frame _, fun h => by cases h⟩

theorem over : Rows.bitsPutRow.holds Try.pinned (OpenSpec.ofChange Rows.bitsPutSpec) :=
  OpenClaim.holds_of_wide 3 Try.f3 rfl rfl rfl rfl rfl rfl rfl ⟨rfl, rfl, rfl, rfl, rfl⟩ rfl rfl rfl rfl rfl (by kernel_rfl) Try.func3 (by kernel_rfl)
    (of_decide_eq_true (by kernel_rfl)) (by unfold Func.isWrapper; first | (rw [if_pos (by decide +kernel)]; kernel_rfl) | (rw [if_neg (by decide +kernel)]; exact ⟨rfl, rfl⟩))
    (fun os started H enc _ => lifted os started H enc)

/-- ████ THE STATEMENT ████ -/
theorem proved : Rows.BitsPutSaid := over
end Go.Proofs.Ytbhbagmbpkkefaa.bitsPut

namespace Go.Proofs.Ytbhbagmbpkkefaa
theorem bitsPut_holds : Rows.BitsPutSaid := bitsPut.proved
#print axioms bitsPut_holds
end Go.Proofs.Ytbhbagmbpkkefaa
