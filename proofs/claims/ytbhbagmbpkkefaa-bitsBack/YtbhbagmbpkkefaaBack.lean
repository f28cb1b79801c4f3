/-
  What was put is got, by the same lengths, whatever was put.
-/
import Derived.Test.YtbhbagmbpkkefaaRows
import Derived.WalkKit
import Derived.ProofKit
import Derived.OpenShut
import Derived.ShutString
import Derived.ChangeOld
import Derived.Below
import Derived.Test.YtbhbagmbpkkefaaOwn
import Derived.Deep.RegionWith
import Derived.Deep.QuietTactic
import Derived.BigQuiet
namespace Go.Proofs.Ytbhbagmbpkkefaa.bitsBack
open Go.ChangeShapes Go.WideShapes Go.ChangeAt Go.RowKit
open Go.ChangeMaps (open_string shut_string)
set_option linter.unusedVariables false

theorem own : ownKnob Try.prog.godebug = none := by kernel_rfl
theorem laidOut : laidOutB Try.prog = true := by kernel_rfl

/-- WHAT THE WALK IS TOLD OF A SLICE OF INTEGERS THAT CAME IN: it is nil; or it leads to a row of 'cap' cells, the numbers 'zs' (the first 'len' are its elements, the rest its spare room), each fitting its kind. -/
def IsRow (k : IntKind) (w : World) (a : Option Addr) (len cap : Nat) (zs : List Int) : Prop :=
  (a = none ∧ len = 0 ∧ cap = 0 ∧ zs = []) ∨
  ∃ x, a = some x ∧ len ≤ cap ∧ cap ≤ maxLen ∧ zs.length = cap ∧ (∀ i, i < zs.length → w.cell? (x.add i) = some (.int k (zs.getD i 0))) ∧ ∀ n ∈ zs, (Lit.int k n).wf = true

theorem Hid.intro {p : Prop} (h : p) : Hid p := h
/-- How many bits the first i numbers take; the number that they make in a row. -/
def szs (K : Nat → Nat) : Nat → Nat
  | 0 => 0
  | i + 1 => szs K i + K i
def num (X K : Nat → Nat) : Nat → Nat
  | 0 => 0
  | i + 1 => num X K i + X i % 2 ^ K i * 2 ^ szs K i
theorem szs_le (K : Nat → Nat) (hK : ∀ i, K i ≤ 64) (i : Nat) : szs K i ≤ 64 * i := by
  induction i with
  | zero => simp [szs]
  | succ i ih => have := hK i; rw [szs]; omega
theorem szs_mono (K : Nat → Nat) (i d : Nat) : szs K i ≤ szs K (i + d) := by
  induction d with
  | zero => exact Nat.le_refl _
  | succ d ih => rw [← Nat.add_assoc, szs]; omega
theorem num_lt (X K : Nat → Nat) (i : Nat) : num X K i < 2 ^ szs K i := by
  induction i with
  | zero => simp [num, szs]
  | succ i ih => rw [num, szs]; exact put_lt _ _ _ _ ih
theorem num_split (X K : Nat → Nat) (i d : Nat) : ∃ R, num X K (i + 1 + d) = num X K i + X i % 2 ^ K i * 2 ^ szs K i + R * 2 ^ (szs K i + K i) := by
  induction d with
  | zero => exact ⟨0, by rw [Nat.add_zero, num]; omega⟩
  | succ d ih =>
    obtain ⟨R, hR⟩ := ih
    have hm : szs K (i + 1) ≤ szs K (i + 1 + d) := szs_mono K (i + 1) d
    rw [szs] at hm
    refine ⟨R + X (i + 1 + d) % 2 ^ K (i + 1 + d) * 2 ^ (szs K (i + 1 + d) - (szs K i + K i)), ?_⟩
    rw [← Nat.add_assoc, num, hR, Nat.add_mul, ← Nat.add_assoc, Nat.mul_assoc (X (i + 1 + d) % _), ← Nat.pow_add, Nat.sub_add_cancel hm]
theorem got_num (X K : Nat → Nat) (m i : Nat) (h : i < m) : got (num X K m) (szs K i) (K i) = X i % 2 ^ K i := by
  obtain ⟨d, rfl⟩ : ∃ d, m = i + 1 + d := ⟨m - i - 1, by omega⟩
  obtain ⟨R, hR⟩ := num_split X K i d
  rw [hR]
  exact got_put _ _ _ _ _ (num_lt X K i)

theorem low64 (x k : Nat) (hx : x < 18446744073709551616) (hk : k < 64) : bits .and .u64 (x : Int) (IntKind.u64.wrap (IntKind.u64.wrap ((2 : Int) ^ k) - 1)) = ((x % 2 ^ k : Nat) : Int) := by
  have h1 : 2 ^ k ≤ 2 ^ 63 := pow_le_of (by omega)
  have h2 : (2 : Nat) ^ 63 = 9223372036854775808 := rfl
  have h3 : 0 < 2 ^ k := Nat.pow_pos (by decide)
  have e : IntKind.u64.wrap (IntKind.u64.wrap ((2 : Int) ^ k) - 1) = ((2 ^ k - 1 : Nat) : Int) := by
    rw [IntKind.wrap_u64, IntKind.wrap_u64, show ((2 : Int) ^ k) = ((2 ^ k : Nat) : Int) from by simp]; omega
  rw [e, u64_and_nat _ _ hx (by omega), Nat.and_two_pow_sub_one_eq_mod]

def BkRel (X K : Nat → Nat) (m : Nat) (w : World) (A : Nat) (nv iv : Value) (wr : World) : Prop :=
  ∃ (i : Nat) (v : Value), i ≤ m ∧ iv = .int .i64 i ∧ nv = .int .i64 (szs K i : Nat) ∧ Wr wr A v (szs K i) (num X K i) ∧ Up w.heap.size A v ∧ Below w.heap.size w wr

def BkRel2 (K : Nat → Nat) (S : ByteArray) (m : Nat) (w : World) (R : Nat) (iv : Value) (wr : World) : Prop :=
  ∃ (i : Nat), i ≤ m ∧ iv = .int .i64 i ∧ Rd wr R S (szs K i) ∧ Below w.heap.size w wr

theorem got_over (N a n : Nat) (h : N < 2 ^ a) : got N a n = 0 := by
  unfold got; rw [Nat.div_eq_of_lt h, Nat.zero_mod]
theorem le_bytes (N sz : Nat) (h : N < 2 ^ sz) : le (byt N (byc sz)) = N := by rw [le_byt, Nat.mod_eq_of_lt (lt_byc N sz h)]
theorem err_z (e : Int) (w : World) (h1 : 0 ≤ e) (h2 : e ≤ 100) : Calls Try.prog 20 #[.int .i64 e] w fun x w' => x = .returned (.int .i64 e) ∧ w = w' := by
  go_enter Try.func20, Try.ntmps20
  go_wp2
  go_ret
  exact ⟨rfl, rfl⟩
theorem get_ok {w W : World} (A : Nat) (s : ByteArray) (a n : Nat) (h : Rd W A s a) (hu : w.heap.size ≤ A) (hb : Below w.heap.size w W) (hs : s.size ≤ 100000) (ha : a + n ≤ 8 * s.size) (hn : n ≤ 64) (y : Nat) (hy : got (le s.data.toList) a n = y) :
    Calls Try.prog 18 #[ptr A, .int .i64 n] W fun e W' => e = .returned (.tuple #[.int .u64 y, .int .i64 0]) ∧ Rd W' A s (a + n) ∧ Below w.heap.size w W' ∧ Chg (· = A) W W' := by
  subst hy
  refine (get_nat A s hs n a W h ha hn).mono ?_
  rintro e W' ⟨rfl, k1, k2⟩
  exact ⟨rfl, k1, below_one hb k2 hu, k2⟩

set_option maxRecDepth 100000 in
set_option maxHeartbeats 2000000 in
theorem core (a b : Option Addr) (n0 cap0 n1 cap1 m : Nat) (X L : Nat → Nat) (w : World) (h0 : n0 ≤ 100) (hm0 : m ≤ n0) (hm1 : m ≤ n1) (hmm : m = n0 ∨ (m = n1 ∧ m < n0)) (hn1 : n1 ≤ 9223372036854775807)
    (hx : 0 < n0 → ∃ x, a = some x ∧ ∀ i, i < n0 → w.cell? (x.add i) = some (.int .u64 (X i)) ∧ X i < 18446744073709551616)
    (hy : 0 < n1 → ∃ y, b = some y ∧ ∀ i, i < n1 → w.cell? (y.add i) = some (.int .u8 (L i)) ∧ L i < 256)
    (K : Nat → Nat) (hK : ∀ i, K i = L i % 65) (hK64 : ∀ i, K i ≤ 64) :
    Calls Try.prog 5 #[.slice a n0 cap0, .slice b n1 cap1] w fun e w' => e = .returned (.bool true) ∧ Below w.heap.size w w' := by
  have HK : Hid (∀ i, K i = L i % 65) := hK
  have HK64 : Hid (∀ i, K i ≤ 64) := hK64
  have HX : Hid (0 < n0 → ∃ x, a = some x ∧ ∀ i, i < n0 → w.cell? (x.add i) = some (.int .u64 (X i)) ∧ X i < 18446744073709551616) := hx
  have HY : Hid (0 < n1 → ∃ y, b = some y ∧ ∀ i, i < n1 → w.cell? (y.add i) = some (.int .u8 (L i)) ∧ L i < 256) := hy
  clear hK hK64 hx hy
  go_enter Try.func5, Try.ntmps5
  go_wp2_with fail
  refine (new_own (Below.refl _ w)).mono ?_
  rintro e w1 ⟨A, rfl, s1, a1, a2, a3, _⟩
  clear s1
  unfold ptr
  go_wp2_with fail
  go_loopw [6, 7] (fun nv iv wr => BkRel X K m w A nv iv wr) (fun _ iv _ => m - (intOf iv).toNat)
  case atStart => exact ⟨0, _, by omega, rfl, rfl, a1, a2, a3⟩
  case round =>
    clear a1 a2 a3
    obtain ⟨i, v, hi, rfl, rfl, d1, d2, d3⟩ := hrel
    have hsz := szs_le K HK64.out i
    by_cases hlt : i < m
    · obtain ⟨x, rfl, hx⟩ := HX.out (by omega)
      obtain ⟨y, rfl, hy⟩ := HY.out (by omega)
      obtain ⟨cx, bx⟩ := hx i (by omega)
      obtain ⟨cy, by'⟩ := hy i (by omega)
      have cx' : wr.cell? (x.add i) = some (.int .u64 (X i)) := by rw [d3.cell (World.block_lt_of_cell? _ _ cx)]; exact cx
      have cy' : wr.cell? (y.add i) = some (.int .u8 (L i)) := by rw [d3.cell (World.block_lt_of_cell? _ _ cy)]; exact cy
      have hk65 : (L i : Int) % 65 = (K i : Int) := by have := HK.out i; omega
      have hk64 := HK64.out i
      have l0 : i < n0 := by omega
      have l1 : i < n1 := by omega
      have P := put_own (W := wr.drew) A v (szs K i) (num X K i) (X i) (K i) d1 d2 (Below.drew d3) (by omega) bx (by omega) (by omega) (szs K (i + 1)) (num X K (i + 1)) (by rw [cl_nat _ hk64, szs]) (by rw [cl_nat _ hk64, num])
      have hsS : szs K (i + 1) = szs K i + K i := rfl
      have CY : Hid (w.cell? (y.add i) = some (.int .u8 (L i))) := cy
      clear hx hy cx cy
      have HS : Hid (szs K (i + 1) = szs K i + K i) := hsS
      clear hsS
      have hw1 : IntKind.i64.wrap (L i : Int) = (L i : Int) := by rw [IntKind.wrap_i64]; omega
      have hw2 : (L i : Int).tmod 65 = (K i : Int) := by rw [Int.tmod_eq_emod_of_nonneg (by omega)]; exact hk65
      unfold ptr at P
      go_wp2
      go_region_with (go_at_call 11; refine P.mono ?_; intro e w4 hp; obtain ⟨he, hp'⟩ := hp; subst he; have HP := Hid.intro hp')
      all_goals
        clear hp' P
        obtain ⟨v4, e1, e2, e3, e4, e5⟩ := HP.out
        have cy4 : w4.cell? (y.add i) = some (.int .u8 (L i)) := by rw [e3.cell (World.block_lt_of_cell? _ _ CY.out)]; exact CY.out
        clear e4 e5 d1 d2 HP
        go_wp2
        go_roundw
        case rel => exact ⟨i + 1, v4, by omega, by go_num, by rw [HS.out]; go_num, e1, e2, e3⟩
        case measure => simp [intOf]; omega
    · obtain rfl : i = m := by omega
      have hS1 : ((bs (byt (num X K i) (byc (szs K i)))).size : Int) = ((szs K i : Int) + 7) / 8 := by rw [size_bs, byt_len]; unfold byc; omega
      have hS2 : Hid (le (bs (byt (num X K i) (byc (szs K i)))).data.toList = num X K i) := by
        show _ = _
        rw [bs_data, le_bytes _ _ d1.2.2.2]
      have L1 := fun W h => len_any A v (szs K i) (num X K i) W h
      have B1 := bytes_any A v _ _ wr d1
      have hS3 : 8 * (bs (byt (num X K i) (byc (szs K i)))).size < szs K i + 8 ∧ szs K i ≤ 8 * (bs (byt (num X K i) (byc (szs K i)))).size := by omega
      generalize bs (byt (num X K i) (byc (szs K i))) = S at *
      have hS4 : S.size ≤ 1000 := by omega
      generalize hZ : szs K i = Z at *
      have HZ : Hid (szs K i = Z) := hZ
      clear hZ
      unfold ptr at B1
      have hmono : Hid (∀ j, j ≤ i → szs K j ≤ Z) := fun j hj => by
        have := szs_mono K j (i - j)
        rw [show j + (i - j) = i from by omega, HZ.out] at this
        exact this
      rcases hmm with rfl | ⟨rfl, hlt2⟩
      all_goals
        go_wp2_with (go_at_call 14; refine B1.mono ?_; rintro e w1 ⟨rfl, rfl⟩)
        refine (from_own S d3).mono ?_
        rintro e w4 ⟨R, rfl, r1, r2, r3, r4, r5⟩
        have L2 := L1 w4 (wr_kept d1 r5 (fun _ _ h => h))
        clear d1 r1 r5 d3 L1
        unfold ptr at L2 ⊢
        go_wp2_with (go_at_call 13; refine L2.mono ?_; rintro e w1 ⟨rfl, rfl⟩)
        clear L2 B1
        try simp only [hS1]
        clear hS1
        go_loopw [10] (fun iv wr => BkRel2 K S i w R iv wr) (fun iv _ => i - (intOf iv).toNat)
        case atStart => exact ⟨0, by omega, rfl, r2, r4⟩
        case round =>
          clear r2 r4
          obtain ⟨j, hj, rfl, d1, d3⟩ := hrel
          by_cases hlt : j < i
          · obtain ⟨x, hxx, hx⟩ := HX.out (by omega)
            obtain ⟨y, hyy, hy⟩ := HY.out (by omega)
            subst hxx hyy
            obtain ⟨cx, bx⟩ := hx j (by omega)
            obtain ⟨cy, by'⟩ := hy j (by omega)
            have cx' : wr.cell? (x.add j) = some (.int .u64 (X j)) := by rw [d3.cell (World.block_lt_of_cell? _ _ cx)]; exact cx
            have cy' : wr.cell? (y.add j) = some (.int .u8 (L j)) := by rw [d3.cell (World.block_lt_of_cell? _ _ cy)]; exact cy
            have CX : Hid (w.cell? (x.add j) = some (.int .u64 (X j))) := cx
            have hk65 : (L j : Int) % 65 = (K j : Int) := by have := HK.out j; omega
            have hk64 := HK64.out j
            have hmj : szs K j + K j ≤ Z := hmono.out (j + 1) (by omega)
            have hG : Hid (got (le S.data.toList) (szs K j) (K j) = X j % 2 ^ K j) := by
              show _ = _
              rw [hS2.out, got_num X K i j hlt]
            have hm : szs K (j + 1) = szs K j + K j := rfl
            have HM : Hid (szs K (j + 1) = szs K j + K j) := hm
            clear hx hy cx cy hm
            go_wp2_with fail
            refine (get_ok R S (szs K j) (K j) d1 r3 d3 (by omega) (by omega) (by omega) _ rfl).mono ?_
            rintro e w5 ⟨rfl, e1, e2, e3⟩
            have cx5 : w5.cell? (x.add j) = some (.int .u64 (X j)) := by rw [e2.cell (World.block_lt_of_cell? _ _ CX.out)]; exact CX.out
            rw [hG.out]
            clear hG e3 d3 d1 cx' cy'
            by_cases hk : K j < 64
            · have hand := low64 (X j) (K j) bx hk
              generalize X j % 2 ^ K j = z at *
              go_wp2_with (go_at_call 20; refine (err_z _ _ (by omega) (by omega)).mono ?_; rintro e w1 ⟨rfl, rfl⟩)
              go_roundw
              case rel => exact ⟨j + 1, by omega, by go_num, e1, e2⟩
              case measure => simp [intOf]; omega
            · have hz : X j % 2 ^ K j = X j := by rw [show K j = 64 from by omega]; exact Nat.mod_eq_of_lt bx
              rw [hz]
              clear hz
              go_wp2_with (go_at_call 20; refine (err_z _ _ (by omega) (by omega)).mono ?_; rintro e w1 ⟨rfl, rfl⟩)
              go_roundw
              case rel => exact ⟨j + 1, by omega, by go_num, e1, e2⟩
              case measure => simp [intOf]; omega
          · obtain rfl : j = i := by omega
            rw [HZ.out] at d1
            go_wp2_with fail
            refine (get_more R S Z 8 wr d1 (by omega) (by omega) (by omega) (by omega)).mono ?_
            rintro e w5 ⟨rfl, rfl⟩
            go_wp2_with fail
            refine (rest_own R S Z (rd_drew d1) (Below.drew d3) (by omega) (by omega) true (by
              rw [rs, decide_eq_true hS3.1, Bool.true_and, hS2.out, got_over _ _ _ (HZ.out ▸ num_lt X K j)]; rfl)).mono ?_
            rintro e w6 ⟨rfl, f1, f2, f3⟩
            go_wp2_with (first | (go_at_call 20; refine (err_z _ _ (by omega) (by omega)).mono ?_; rintro e w1 ⟨rfl, rfl⟩) | (go_at_call 10; refine (awake_own f2).mono ?_; rintro e w9 ⟨rfl, hb9⟩))
            go_ret
            exact ⟨rfl, by assumption⟩

set_option maxRecDepth 100000 in
theorem big (a b : Option Addr) (n0 cap0 n1 cap1 : Nat) (w : World) (h : 100 < n0) (hl : n0 ≤ 9223372036854775807) :
    Calls Try.prog 5 #[.slice a n0 cap0, .slice b n1 cap1] w fun e w' => e = .returned (.bool true) ∧ Below w.heap.size w w' := by
  go_enter Try.func5, Try.ntmps5
  go_wp2_with fail
  refine (new_own (Below.refl _ w)).mono ?_
  rintro e w1 ⟨A, rfl, s1, a1, a2, a3, _⟩
  unfold ptr
  go_wp2_with (go_at_call 10; refine (awake_own a3).mono ?_; rintro e w9 ⟨rfl, hb9⟩)
  go_ret
  exact ⟨rfl, by assumption⟩

theorem row_nat {k : IntKind} {w : World} {a : Option Addr} {len cap : Nat} {zs : List Int} (h : IsRow k w a len cap zs) (B : Nat) (hB : ∀ n, (Lit.int k n).wf = true → 0 ≤ n ∧ n < B) :
    len ≤ maxLen ∧ (0 < len → ∃ x, a = some x ∧ ∀ i, i < len → w.cell? (x.add i) = some (.int k ((zs.getD i 0).toNat : Nat)) ∧ (zs.getD i 0).toNat < B) := by
  rcases h with ⟨rfl, rfl, rfl, rfl⟩ | ⟨x, rfl, h1, h2, h3, h4, h5⟩
  · exact ⟨Nat.zero_le _, fun h => absurd h (by omega)⟩
  · refine ⟨Nat.le_trans h1 h2, fun _ => ⟨x, rfl, fun i hi => ?_⟩⟩
    have hg : zs.getD i 0 = zs[i] := by rw [List.getD_eq_getElem?_getD, List.getElem?_eq_getElem (by omega)]; rfl
    have hb := hB zs[i] (h5 _ (List.getElem_mem (by omega)))
    rw [h4 i (by omega), hg, Int.toNat_of_nonneg hb.1]
    exact ⟨rfl, by omega⟩

theorem walk (a0 : Option Addr) (len0 cap0 : Nat) (z0 : List Int) (a1 : Option Addr) (len1 cap1 : Nat) (z1 : List Int) (w : World) (w0 : IsRow .u64 w a0 len0 cap0 z0) (w1 : IsRow .u8 w a1 len1 cap1 z1) :
    Calls Try.prog 5 #[.slice a0 len0 cap0, .slice a1 len1 cap1] w fun e w' => e = .returned (.bool true) ∧ Below w.heap.size w w' := by
  obtain ⟨b0, r0⟩ := row_nat w0 18446744073709551616 (fun n h => by have := bounds_u64 h; omega)
  obtain ⟨b1, r1⟩ := row_nat w1 256 (fun n h => by have := bounds_u8 h; omega)
  unfold maxLen at b0 b1
  by_cases h : 100 < len0
  · exact big _ _ _ _ _ _ w h (by omega)
  · exact core a0 a1 len0 cap0 len1 cap1 (min len0 len1) (fun i => (z0.getD i 0).toNat) (fun i => (z1.getD i 0).toNat) w (by omega) (by omega) (by omega) (by omega) (by omega) r0 r1
      (fun i => (z1.getD i 0).toNat % 65) (fun _ => rfl) (fun i => by have := Nat.mod_lt (z1.getD i 0).toNat (show 65 > 0 by decide); omega)

/-! ### THE ROW's STEP: WRITTEN OUT: LEAVE IT -/
set_option maxRecDepth 100000 in
theorem lifted (os : Os) (started : os.Started) (H : Type) (enc : TypeId × Value → H) :
    ReturnsInHanded {} Try.checked os 5 .any (Rows.bitsBackSpec.pre6 enc Try.prog Try.f5 Rows.bitsBackRow.domain false) (Rows.bitsBackSpec.post enc Try.prog Try.f5 false true false false) := by
  refine returnsInHanded_of_change (C := Try.checked) own started (by kernel_rfl) Try.func5
    (ChangeSpec.witness6 (enc := enc) (C := Try.checked) false ⟨#[], #[.slice none 0 0, .slice none 0 0], []⟩ 8 (by kernel_rfl) (by kernel_rfl) (by kernel_rfl) (by kernel_rfl)) ?_
  intro W base args ds gs before hval0 hW hcnd _
  have hval : ∀ (j : Nat) t v, Try.f5.params[j]? = some t → args[j]? = some v → Value.okWide Try.prog W .any base t v := hval0
  have hW' := hW
  obtain ⟨p, q, hA0, hV, rfl, hfz, hnd⟩ := hW
  have hA : DataW.TrodAll enc Try.prog W 0 (fun _ => true) true Try.f5.params.toList args.toList ds p := hA0
  rw [Try.params5] at hA hval
  obtain ⟨v0, vs0, d0, ds0, p0, q0, hargs, rfl, rfl, h0, r0⟩ := trodAll_cons hA
  obtain ⟨v1, vs1, d1, ds1, p1, q1, rfl, rfl, rfl, h1, r1⟩ := trodAll_cons r0
  obtain ⟨rfl, rfl, rfl⟩ := trodAll_nil r1
  obtain rfl : args = #[v0, v1] := by cases args; simp_all
  obtain ⟨rfl, rfl⟩ := trodVars_none hV
  obtain ⟨a0, len0, cap0, rfl⟩ := okWide_slice Try.underlying22 (hval 0 22 v0 rfl rfl)
  have k0 := h0
  have lt0 : ∀ x ∈ p0, x.block < W.heap.size := by obtain ⟨m, hm⟩ := k0; exact DataW.trod_lt m _ _ _ hm
  obtain ⟨z0, w0⟩ : ∃ zs, IsRow .u64 W a0 len0 cap0 zs := by
    obtain ⟨fuel, hf⟩ := h0
    rcases open_ints Try.underlying22 Try.underlying32 (by kernel_rfl) hf with ⟨hcs, _⟩ | ⟨x, l, c, zs, hcs, _, hl, hm, hz, _, hcell, hwz⟩
    · simp [Value.cells] at hcs
      obtain ⟨rfl, rfl, rfl⟩ := hcs
      exact ⟨[], .inl ⟨rfl, rfl, rfl, rfl⟩⟩
    · simp [Value.cells] at hcs
      obtain ⟨rfl, rfl, rfl⟩ := hcs
      exact ⟨zs, .inr ⟨_, rfl, hl, hm, by simpa using hz, hcell, hwz⟩⟩
  obtain ⟨a1, len1, cap1, rfl⟩ := okWide_slice Try.underlying28 (hval 1 28 v1 rfl rfl)
  have k1 := h1
  have lt1 : ∀ x ∈ p1, x.block < W.heap.size := by obtain ⟨m, hm⟩ := k1; exact DataW.trod_lt m _ _ _ hm
  obtain ⟨z1, w1⟩ : ∃ zs, IsRow .u8 W a1 len1 cap1 zs := by
    obtain ⟨fuel, hf⟩ := h1
    rcases open_ints Try.underlying28 Try.underlying5 (by kernel_rfl) hf with ⟨hcs, _⟩ | ⟨x, l, c, zs, hcs, _, hl, hm, hz, _, hcell, hwz⟩
    · simp [Value.cells] at hcs
      obtain ⟨rfl, rfl, rfl⟩ := hcs
      exact ⟨[], .inl ⟨rfl, rfl, rfl, rfl⟩⟩
    · simp [Value.cells] at hcs
      obtain ⟨rfl, rfl, rfl⟩ := hcs
      exact ⟨zs, .inr ⟨_, rfl, hl, hm, by simpa using hz, hcell, hwz⟩⟩
  clear hA0 hval0
  refine (walk a0 len0 cap0 z0 a1 len1 cap1 z1 W w0 w1).mono fun e W' ⟨he, bel⟩ => ?_
  subst he
  exact ⟨_, rfl, _, _, _, [], _, [], hW', trodAll_mk1 (shut_bool Try.underlying4 _), (trodAll_cons_mk (Below.trod laidOut (by kernel_rfl) (of_decide_eq_true (by kernel_rfl)) k0 bel lt0) (trodAll_cons_mk (Below.trod laidOut (by kernel_rfl) (of_decide_eq_true (by kernel_rfl)) k1 bel lt1) trodAll_mk0)), rfl, bel.frame _, fun h => by cases h⟩

theorem over : Rows.bitsBackRow.holds Try.pinned (OpenSpec.ofChange Rows.bitsBackSpec) :=
  OpenClaim.holds_of_wide 5 Try.f5 rfl rfl rfl rfl rfl rfl rfl ⟨rfl, rfl, rfl, rfl, rfl⟩ rfl rfl rfl rfl rfl (by kernel_rfl) Try.func5 (by kernel_rfl)
    (of_decide_eq_true (by kernel_rfl)) (by unfold Func.isWrapper; first | (rw [if_pos (by decide +kernel)]; kernel_rfl) | (rw [if_neg (by decide +kernel)]; exact ⟨rfl, rfl⟩))
    (fun os started H enc _ => lifted os started H enc)

/-- ████ THE STATEMENT ████ -/
theorem proved : Rows.BitsBackSaid := over
end Go.Proofs.Ytbhbagmbpkkefaa.bitsBack

namespace Go.Proofs.Ytbhbagmbpkkefaa
theorem bitsBack_holds : Rows.BitsBackSaid := bitsBack.proved
#print axioms bitsBack_holds
end Go.Proofs.Ytbhbagmbpkkefaa
