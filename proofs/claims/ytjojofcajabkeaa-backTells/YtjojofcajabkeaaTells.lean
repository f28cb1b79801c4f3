/-
  What was sealed is got, the last one first, and behind the first one nothing is left, whatever was sealed.
-/
import Derived.Test.YtjojofcajabkeaaRows
import Derived.WalkKit
import Derived.ProofKit
import Derived.OpenShut
import Derived.ShutString
import Derived.ChangeOld
import Derived.Below
import Derived.Test.YtjojofcajabkeaaGets
import Derived.Deep.RegionWith
import Derived.Deep.QuietTactic
import Derived.BigQuiet
import Derived.OwnWalk
namespace Go.Proofs.Ytjojofcajabkeaa.backTells
open Go.ChangeShapes Go.WideShapes Go.ChangeAt Go.RowKit
open Go.ChangeMaps (open_string shut_string)
set_option linter.unusedVariables false

theorem own : ownKnob Try.prog.godebug = none := by kernel_rfl
theorem laidOut : laidOutB Try.prog = true := by kernel_rfl

/-- WHAT THE WALK IS TOLD OF A SLICE OF INTEGERS THAT CAME IN: it is nil; or it leads to a row of 'cap' cells, the numbers 'zs' (the first 'len' are its elements, the rest its spare room), each fitting its kind. -/
def IsRow (k : IntKind) (w : World) (a : Option Addr) (len cap : Nat) (zs : List Int) : Prop :=
  (a = none ∧ len = 0 ∧ cap = 0 ∧ zs = []) ∨
  ∃ x, a = some x ∧ len ≤ cap ∧ cap ≤ maxLen ∧ zs.length = cap ∧ (∀ i, i < zs.length → w.cell? (x.add i) = some (.int k (zs.getD i 0))) ∧ ∀ n ∈ zs, (Lit.int k n).wf = true

theorem row_nat {k : IntKind} {w : World} {a : Option Addr} {len cap : Nat} {zs : List Int} (h : IsRow k w a len cap zs) (B : Nat) (hB : ∀ n, (Lit.int k n).wf = true → 0 ≤ n ∧ n < B) :
    len ≤ maxLen ∧ len ≤ cap ∧ cap ≤ maxLen ∧ (0 < len → ∃ x, a = some x ∧ ∀ i, i < len → w.cell? (x.add i) = some (.int k ((zs.getD i 0).toNat : Nat)) ∧ (zs.getD i 0).toNat < B) := by
  rcases h with ⟨rfl, rfl, rfl, rfl⟩ | ⟨x, rfl, h1, h2, h3, h4, h5⟩
  · exact ⟨Nat.zero_le _, Nat.le_refl _, Nat.zero_le _, fun h => absurd h (by omega)⟩
  · refine ⟨Nat.le_trans h1 h2, h1, h2, fun _ => ⟨x, rfl, fun i hi => ?_⟩⟩
    have hg : zs.getD i 0 = zs[i] := by rw [List.getD_eq_getElem?_getD, List.getElem?_eq_getElem (by omega)]; rfl
    have hb := hB zs[i] (h5 _ (List.getElem_mem (by omega)))
    rw [h4 i (by omega), hg, Int.toNat_of_nonneg hb.1]
    exact ⟨rfl, by omega⟩

theorem info3 : (Try.prog.info? 3).map (fun i => (i.zero, i.size, i.bytes)) = some (some (.int .i64 0), 1, 8) := by kernel_rfl
theorem err_z (e : Int) (w : World) (_h1 : 0 ≤ e) (_h2 : e ≤ 100) : Calls Try.prog 12 #[.int .i64 e] w fun x w' => x = .returned (.int .i64 e) ∧ w = w' := by
  go_enter Try.func12, Try.ntmps12
  go_wp2
  go_ret
  exact ⟨rfl, rfl⟩
theorem low64 (x k : Nat) (hx : x < 18446744073709551616) (hk : k < 64) : bits .and .u64 (x : Int) (IntKind.u64.wrap (IntKind.u64.wrap ((2 : Int) ^ k) - 1)) = ((x % 2 ^ k : Nat) : Int) := by
  have h1 : 2 ^ k ≤ 2 ^ 63 := pow_le_of (by omega)
  have h2 : (2 : Nat) ^ 63 = 9223372036854775808 := rfl
  have h3 : 0 < 2 ^ k := Nat.pow_pos (by decide)
  have e : IntKind.u64.wrap (IntKind.u64.wrap ((2 : Int) ^ k) - 1) = ((2 ^ k - 1 : Nat) : Int) := by
    rw [IntKind.wrap_u64, IntKind.wrap_u64, show ((2 : Int) ^ k) = ((2 ^ k : Nat) : Int) from by simp]; omega
  rw [e, u64_and_nat _ _ hx (by omega), Nat.and_two_pow_sub_one_eq_mod]
theorem last_zero_end (S : ByteArray) : last (S ++ ⟨#[0]⟩) = 0 := by
  have e : (S ++ ⟨#[0]⟩ : ByteArray).data.toList = S.data.toList ++ [0] := by simp [ByteArray.data_append]
  rw [last, e, le_snoc, ByteArray.size_append, show (⟨#[0]⟩ : ByteArray).size = 1 from rfl, Nat.add_sub_cancel]
  have := le_lt S.data.toList
  rw [len_data] at this
  simp [Nat.div_eq_of_lt this]

/-- The lengths as a row. -/
def rowK (K : Nat → Nat) (i : Nat) : List Value := (List.range i).map fun j => .int .i64 (K j : Nat)
theorem rowK_snoc (K : Nat → Nat) (i : Nat) : rowK K (i + 1) = rowK K i ++ [.int .i64 (K i : Nat)] := by simp [rowK, List.range_succ]
theorem rowK_get (K : Nat → Nat) (m j : Nat) (h : j < m) : (rowK K m)[j]? = some (.int .i64 (K j : Nat)) := by simp [rowK, h]

def L1 (K : Nat → Nat) (m : Nat) (w : World) (lv av iv : Value) (wr : World) : Prop :=
  ∃ i : Nat, i ≤ m ∧ iv = .int .i64 i ∧ av = .int .i64 (szs K i : Nat) ∧ wr.ownsRow w.heap.size 3 1 lv i (rowK K i) ∧ Below w.heap.size w wr

/-- A slice of lengths, apart from block R. -/
def Lc (W : World) (av : Option Addr) (m : Nat) (K : Nat → Nat) (R : Nat) : Prop := ∀ j, j < m → ∃ ad : Addr, av = some ad ∧ (ad.add j).block ≠ R ∧ W.cell? (ad.add j) = some (.int .i64 (K j : Nat))
theorem lc_kept {W W' : World} {av : Option Addr} {m : Nat} {K : Nat → Nat} {R : Nat} (h : Lc W av m K R) (c : Chg (· = R) W W') : Lc W' av m K R := by
  intro j hj
  obtain ⟨ad, e, hb, hc⟩ := h j hj
  exact ⟨ad, e, hb, by rw [World.cell?_of_block (c.2.2.2.2 _ (World.block_lt_of_cell? _ _ hc) hb)]; exact hc⟩
theorem own_lens {W : World} {B : Nat} {v : Value} {m : Nat} {K : Nat → Nat} (h : W.ownsRow B 3 1 v m (rowK K m)) :
    ∃ av cap, v = .slice av m cap ∧ m ≤ cap ∧ cap ≤ 9223372036854775807 ∧ ∀ j, j < m → ∃ ad : Addr, av = some ad ∧ W.cell? (ad.add j) = some (.int .i64 (K j : Nat)) := by
  rcases h.2 with ⟨hv, h0⟩ | ⟨g, cap, cur, hv, _, hg, hc, hm, hs, ht⟩
  · exact ⟨none, 0, by rw [hv, h0], by omega, by omega, fun j hj => by omega⟩
  · unfold maxLen at hm
    refine ⟨_, cap, hv, hc, by omega, fun j hj => ⟨_, rfl, ?_⟩⟩
    exact h.cells (g := g) (by rw [hv]; rfl) j _ (rowK_get K m j hj)

def L2 (K : Nat → Nat) (S : ByteArray) (m : Nat) (w : World) (R : Nat) (av : Option Addr) (iv : Value) (wr : World) : Prop :=
  ∃ j : Nat, j ≤ m ∧ iv = .int .i64 ((j : Int) - 1) ∧ Rd wr R S (szs K j) ∧ Lc wr av m K R ∧ Below w.heap.size w wr

set_option maxRecDepth 100000 in
theorem big (a b : Option Addr) (n0 cap0 n1 cap1 : Nat) (w : World) (h : 60 < n0) (hl : n0 ≤ 9223372036854775807) :
    Calls Try.prog 4 #[.slice a n0 cap0, .slice b n1 cap1] w fun e w' => e = .returned (.bool true) ∧ Below w.heap.size w w' := by
  go_enter Try.func4, Try.ntmps4
  go_wp2_with (go_at_call 7; refine (awake_own (Below.refl _ w)).mono ?_; rintro e w9 ⟨rfl, hb9⟩)
  go_ret
  exact ⟨rfl, by assumption⟩

set_option maxRecDepth 100000 in
set_option maxHeartbeats 4000000 in
theorem core (a b : Option Addr) (n0 cap0 n1 cap1 m : Nat) (X L : Nat → Nat) (w : World) (h0 : n0 ≤ 60) (hm0 : m ≤ n0) (hm1 : m ≤ n1) (hmm : m = min n0 n1) (hc0 : n0 ≤ cap0) (hcm : cap0 ≤ 9223372036854775807) (hn1 : n1 ≤ 9223372036854775807)
    (hx : 0 < n0 → ∃ x, a = some x ∧ ∀ i, i < n0 → w.cell? (x.add i) = some (.int .u64 (X i : Nat)) ∧ X i < 18446744073709551616)
    (hy : 0 < n1 → ∃ y, b = some y ∧ ∀ i, i < n1 → w.cell? (y.add i) = some (.int .u8 (L i : Nat)) ∧ L i < 256)
    (K : Nat → Nat) (hK : ∀ i, K i = L i % 65) (hK64 : ∀ i, K i ≤ 64) :
    Calls Try.prog 4 #[.slice a n0 cap0, .slice b n1 cap1] w fun e w' => e = .returned (.bool true) ∧ Below w.heap.size w w' := by
  obtain ⟨i3, hi3, hz0, hz1, hz2⟩ := info_parts info3
  have HK := Hid.intro hK
  have HK64 := Hid.intro hK64
  have HX := Hid.intro hx
  have HY := Hid.intro hy
  have hmin : min (n0 : Int) (n1 : Int) = (m : Int) := by omega
  have hif1 : (if (n1 : Int) < n0 then (n1 : Int) else n0) = (m : Int) := by split <;> omega
  have hif2 : (if (n0 : Int) < n1 then (n0 : Int) else n1) = (m : Int) := by split <;> omega
  clear hK hK64 hx hy hmm
  go_enter Try.func4, Try.ntmps4
  go_wp2_with fail
  try simp only [hmin, hif1, hif2]
  clear hmin hif1 hif2
  go_loopw [6, 7, 8] (fun lv av iv wr => L1 K m w lv av iv wr) (fun _ _ iv _ => m - (intOf iv).toNat)
  case atStart => exact ⟨0, by omega, rfl, rfl, World.ownsRow_nil _ _ _ _, Below.refl _ _⟩
  case round =>
    obtain ⟨i, hi, rfl, rfl, d1, d2⟩ := hrel
    have hsz := szs_le K HK64.out i
    by_cases hlt : i < m
    · obtain ⟨y, rfl, hy⟩ := HY.out (by omega)
      obtain ⟨cy, by'⟩ := hy i (by omega)
      have cy' : wr.cell? (y.add i) = some (.int .u8 (L i : Nat)) := by rw [d2.cell (World.block_lt_of_cell? _ _ cy)]; exact cy
      have hk65 : (L i : Int) % 65 = (K i : Int) := by have := HK.out i; omega
      have hk64 := HK64.out i
      have l1 : i < n1 := by omega
      have hs1 : szs K (i + 1) = szs K i + K i := rfl
      have HS1 := Hid.intro hs1
      have r3 : w.heap.size ≤ wr.heap.size := d2.size
      have hblk : ∀ k, u6.ownBlock = some k → w.heap.size ≤ k := fun k hk => (d1.lt k hk).1
      have HBK := Hid.intro hblk
      clear hy cy hs1 hblk
      go_wp2_with (first | (at_builtin; (refine wpList_append_own _ rfl (.tmp 37) (.tmp 44) 23 rfl w.heap.size 3 i3 (.int .i64 0) 1 8 Try.underlying23 hi3 hz0 hz1 hz2 rfl (by decide) _ _ _ rfl (d1.alloc _) ⟨wr.heap.size, 0, none⟩ 1 1 [.int .i64 (K i : Nat)] rfl rfl (by intro j u hj; match j, hj with | 0, hj => simp at hj; subst hj; simp [Addr.add]) (by intro u hu; simp at hu; subst hu; rfl) (by unfold maxLen; omega) (by omega) (by simp; omega) ?_)) | go_in)
      intro v1 w1 o1 g1 _
      have b1 : Below w.heap.size w w1 := (d2.alloc r3 _).grown g1 (by simp; omega) HBK.out
      rw [← rowK_snoc] at o1
      obtain ⟨av, cap, rfl, hcap, _, hcell⟩ := own_lens o1
      obtain ⟨ad, rfl, hci⟩ := hcell i (by omega)
      have hz := szs_le K HK64.out (i + 1)
      rw [HS1.out] at hz
      clear hcell g1 d1 d2 HBK cy'
      go_wp2
      go_roundw
      case rel => exact ⟨i + 1, by omega, by go_num, by rw [HS1.out]; go_num, o1, b1⟩
      case measure => simp [intOf]; omega
    · obtain rfl : i = m := by omega
      clear hlt hi hi3 hz0 hz1 hz2 HY
      obtain ⟨av, cap, rfl, hcap, hcap2, hcell⟩ := own_lens d1
      have US : Us wr a i X := by
        intro h
        obtain ⟨x, rfl, hx⟩ := HX.out (by omega)
        refine ⟨x, rfl, fun j hj => ?_⟩
        have hj2 := hx j (by omega)
        exact ⟨by rw [d2.cell (World.block_lt_of_cell? _ _ hj2.1)]; exact hj2.1, hj2.2⟩
      have LS : Ls wr av i (fun j => (K j : Int)) := by
        intro h
        obtain ⟨ad, rfl, _⟩ := hcell 0 h
        refine ⟨ad, rfl, fun j hj => ?_⟩
        obtain ⟨ad', e, hc⟩ := hcell j hj
        injection e with e
        subst e
        have := HK64.out j
        exact ⟨hc, show (-9223372036854775808 : Int) ≤ (K j : Int) by omega, show (K j : Int) ≤ 9223372036854775807 by omega⟩
      have P := seal_own (w := w) a av i cap0 i cap i X (fun j => (K j : Int)) d2 (by omega) (by omega) (by omega) (by omega) US LS K (fun j => (cl_nat (K j) (HK64.out j)).symm) (sealed (num X K i) (szs K i)) rfl
      have hN := num_lt X K i
      have hle := sealed_le _ _ hN
      have hsz2 := sealed_size (num X K i) (szs K i)
      have hla := last_sealed _ _ hN
      have hlog := log_mark _ _ hN
      rw [← hle] at hlog
      have HC := Hid.intro hcell
      clear US LS d1 hN hcell
      have HGG : Hid (∀ S : ByteArray, le S.data.toList = num X K i + 2 ^ szs K i → ∀ j, j < i → got (le S.data.toList) (szs K j) (K j) = X j % 2 ^ K j) := fun S hS j hj => by
        rw [hS]; exact got_mk X K i j hj
      generalize sealed (num X K i) (szs K i) = S at *
      have HG := Hid.intro (HGG.out S hle)
      have hmono : Hid (∀ j, j ≤ i → szs K j ≤ szs K i) := fun j hj => by
        have := szs_mono K j (i - j)
        rw [show j + (i - j) = i from by omega] at this
        exact this
      clear HGG hle
      generalize hZ : szs K i = Z at *
      have HZ := Hid.intro hZ
      clear hZ
      have hS1 : S.size ≤ 1000 := by omega
      have hS2 : Z ≤ 8 * S.size := by omega
      have hS3 : (Z : Int) / 8 + 1 = (S.size : Int) := by omega
      clear hsz2
      go_wp2_with fail
      refine P.mono ?_
      rintro e w2 ⟨rfl, b1, b2⟩
      clear P
      go_wp2_with fail
      refine (from_own (w := w) S b1 hla (by omega) Z hlog).mono ?_
      rintro e w3 ⟨R, rfl, q1, c1, c2, c3, c4⟩
      have LC : Lc w3 av i K R := by
        intro j hj
        obtain ⟨ad, e, hc⟩ := HC.out j hj
        have hb := World.block_lt_of_cell? _ _ hc
        have e2 := b2.2.2.2.2 _ hb (fun h => h)
        have e3 := c4.2.2.2.2 _ (Nat.lt_of_lt_of_le hb (chg_size b2)) (fun h => h)
        have := chg_size b2
        exact ⟨ad, e, by omega, by rw [World.cell?_of_block (e3.trans e2)]; exact hc⟩
      clear b1 b2 hla hlog c4 q1 HC
      have L1 := left_any R S Z w3 c1
      unfold ptr at L1 ⊢
      go_wp2_with (first | (go_at_call 12; refine (err_z _ _ (by omega) (by omega)).mono ?_; rintro e w5 ⟨rfl, rfl⟩) | (go_at_call 15; refine L1.mono ?_; rintro e w5 ⟨rfl, rfl⟩))
      try simp only [hS3]
      clear L1 hS3
      go_loopw [12] (fun iv wr => L2 K S i w R av iv wr) (fun iv _ => (intOf iv + 1).toNat)
      case atStart => exact ⟨i, Nat.le_refl _, by go_num, by rw [HZ.out]; exact c1, LC, c3⟩
      case round =>
        clear c1 c3 LC
        obtain ⟨j, hj, rfl, j1, j2, j3⟩ := hrel
        by_cases hj0 : j = 0
        · subst hj0
          have G1 := get_over (w := w) R S 0 1 j1 c2 j3 (by omega) (by omega) (by omega) (by omega)
          clear j1 j3 j2
          unfold ptr at G1
          go_wp2_with fail
          refine G1.mono ?_
          rintro e w4 ⟨rfl, f1, f2, _⟩
          clear G1
          have hadd := fun W : World => run_string_add_sum (P := Try.prog) W S ⟨#[0]⟩ (by rw [show (⟨#[0]⟩ : ByteArray).size = 1 from rfl]; omega)
          have F := from_bad (S ++ ⟨#[0]⟩) w4 (last_zero_end S) (by rw [ByteArray.size_append, show (⟨#[0]⟩ : ByteArray).size = 1 from rfl]; omega)
          have N1 := get_nil 1 w4
          have N2 := left_nil w4
          have L1 := left_any R S 0 w4 f1
          unfold ptr at L1
          go_wp2_with (first | (go_at_call 10; refine F.mono ?_; rintro e w5 ⟨rfl, rfl⟩) | (go_at_call 13; refine N1.mono ?_; rintro e w5 ⟨rfl, rfl⟩) | (go_at_call 12; refine (err_z _ _ (by omega) (by omega)).mono ?_; rintro e w5 ⟨rfl, rfl⟩) | (go_at_call 15; refine L1.mono ?_; rintro e w5 ⟨rfl, rfl⟩) | (go_at_call 15; refine N2.mono ?_; rintro e w5 ⟨rfl, rfl⟩) | (go_at_call 7; refine (awake_own f2).mono ?_; rintro e w9 ⟨rfl, hb9⟩) | go_in)
          go_ret
          exact ⟨rfl, by assumption⟩
        · obtain ⟨p, rfl⟩ : ∃ p, j = p + 1 := ⟨j - 1, by omega⟩
          obtain ⟨x, rfl, hx⟩ := HX.out (by omega)
          obtain ⟨cx, bx⟩ := hx p (by omega)
          obtain ⟨ad, rfl, _, cl⟩ := j2 p (by omega)
          clear hx
          have hy := HG.out p (by omega)
          have hk64 := HK64.out p
          have hmj : szs K (p + 1) ≤ Z := hmono.out (p + 1) (by omega)
          have G1 := get_fit (w := w) R S (szs K (p + 1)) (K p) (szs K p) _ j1 c2 j3 (by omega) (by omega) (by omega) rfl hy
          clear hy
          have hlm : p < n0 := by omega
          have hlm2 : p < i := by omega
          unfold ptr at G1
          go_wp2_with fail
          refine G1.mono ?_
          rintro e w4 ⟨rfl, f1, f2, f3⟩
          have j4 := lc_kept j2 f3
          clear G1 j1 j3 cl
          have cx4 : w4.cell? (x.add p) = some (.int .u64 (X p : Nat)) := by rw [f2.cell (World.block_lt_of_cell? _ _ cx)]; exact cx
          have cl4 : w4.cell? (ad.add p) = some (.int .i64 (K p : Nat)) := by
            obtain ⟨ad', e, _, h⟩ := j4 p (by omega)
            injection e with e
            subst e
            exact h
          clear cx j2 f3
          by_cases hk : K p < 64
          · have hand := low64 (X p) (K p) bx hk
            generalize X p % 2 ^ K p = z at *
            go_wp2_with (go_at_call 12; refine (err_z _ _ (by omega) (by omega)).mono ?_; rintro e w5 ⟨rfl, rfl⟩)
            go_roundw
            case rel => exact ⟨p, by omega, by go_num, f1, j4, f2⟩
            case measure => simp [intOf]
          · have hz : X p % 2 ^ K p = X p := by rw [show K p = 64 from by omega]; exact Nat.mod_eq_of_lt bx
            rw [hz]
            go_wp2_with (go_at_call 12; refine (err_z _ _ (by omega) (by omega)).mono ?_; rintro e w5 ⟨rfl, rfl⟩)
            go_roundw
            case rel => exact ⟨p, by omega, by go_num, f1, j4, f2⟩
            case measure => simp [intOf]

theorem walk (a0 : Option Addr) (len0 cap0 : Nat) (z0 : List Int) (a1 : Option Addr) (len1 cap1 : Nat) (z1 : List Int) (w : World) (w0 : IsRow .u64 w a0 len0 cap0 z0) (w1 : IsRow .u8 w a1 len1 cap1 z1) :
    Calls Try.prog 4 #[.slice a0 len0 cap0, .slice a1 len1 cap1] w fun e w' => e = .returned (.bool true) ∧ Below w.heap.size w w' := by
  obtain ⟨b0, b1, b2, r0⟩ := row_nat w0 18446744073709551616 (fun n h => by have := bounds_u64 h; omega)
  obtain ⟨c0, c1, c2, r1⟩ := row_nat w1 256 (fun n h => by have := bounds_u8 h; omega)
  unfold maxLen at b0 b2 c0
  by_cases h : 60 < len0
  · exact big _ _ _ _ _ _ w h (by omega)
  · exact core a0 a1 len0 cap0 len1 cap1 (min len0 len1) (fun i => (z0.getD i 0).toNat) (fun i => (z1.getD i 0).toNat) w (by omega) (by omega) (by omega) rfl b1 (by omega) (by omega) r0 r1
      (fun i => (z1.getD i 0).toNat % 65) (fun _ => rfl) (fun i => by omega)

/-! ### THE ROW's STEP: WRITTEN OUT: LEAVE IT -/
set_option maxRecDepth 100000 in
theorem lifted (os : Os) (started : os.Started) (H : Type) (enc : TypeId × Value → H) :
    ReturnsInHanded {} Try.checked os 4 .any (Rows.backTellsSpec.pre6 enc Try.prog Try.f4 Rows.backTellsRow.domain false) (Rows.backTellsSpec.post enc Try.prog Try.f4 false true false false) := by
  refine returnsInHanded_of_change (C := Try.checked) own started (by kernel_rfl) Try.func4
    (ChangeSpec.witness6 (enc := enc) (C := Try.checked) false ⟨#[], #[.slice none 0 0, .slice none 0 0], []⟩ 8 (by kernel_rfl) (by kernel_rfl) (by kernel_rfl) (by kernel_rfl)) ?_
  intro W base args ds gs before hval0 hW hcnd _
  have hval : ∀ (j : Nat) t v, Try.f4.params[j]? = some t → args[j]? = some v → Value.okWide Try.prog W .any base t v := hval0
  have hW' := hW
  obtain ⟨p, q, hA0, hV, rfl, hfz, hnd⟩ := hW
  have hA : DataW.TrodAll enc Try.prog W 0 (fun _ => true) true Try.f4.params.toList args.toList ds p := hA0
  rw [Try.params4] at hA hval
  obtain ⟨v0, vs0, d0, ds0, p0, q0, hargs, rfl, rfl, h0, r0⟩ := trodAll_cons hA
  obtain ⟨v1, vs1, d1, ds1, p1, q1, rfl, rfl, rfl, h1, r1⟩ := trodAll_cons r0
  obtain ⟨rfl, rfl, rfl⟩ := trodAll_nil r1
  obtain rfl : args = #[v0, v1] := by cases args; simp_all
  obtain ⟨rfl, rfl⟩ := trodVars_none hV
  obtain ⟨a0, len0, cap0, rfl⟩ := okWide_slice Try.underlying22 (hval 0 22 v0 rfl rfl)
  have k0 := h0
  have lt0 : ∀ x ∈ p0, x.block < W.heap.size := by obtain ⟨m, hm⟩ := k0; exact DataW.trod_lt m _ _ _ hm
  obtain ⟨z0, w0⟩ : ∃ zs, IsRow .u64 W a0 len0 cap0 zs := by
    obtain ⟨fuel, hf⟩ := h0
    rcases open_ints Try.underlying22 Try.underlying33 (by kernel_rfl) hf with ⟨hcs, _⟩ | ⟨x, l, c, zs, hcs, _, hl, hm, hz, _, hcell, hwz⟩
    · simp [Value.cells] at hcs
      obtain ⟨rfl, rfl, rfl⟩ := hcs
      exact ⟨[], .inl ⟨rfl, rfl, rfl, rfl⟩⟩
    · simp [Value.cells] at hcs
      obtain ⟨rfl, rfl, rfl⟩ := hcs
      exact ⟨zs, .inr ⟨_, rfl, hl, hm, by simpa using hz, hcell, hwz⟩⟩
  obtain ⟨a1, len1, cap1, rfl⟩ := okWide_slice Try.underlying40 (hval 1 40 v1 rfl rfl)
  have k1 := h1
  have lt1 : ∀ x ∈ p1, x.block < W.heap.size := by obtain ⟨m, hm⟩ := k1; exact DataW.trod_lt m _ _ _ hm
  obtain ⟨z1, w1⟩ : ∃ zs, IsRow .u8 W a1 len1 cap1 zs := by
    obtain ⟨fuel, hf⟩ := h1
    rcases open_ints Try.underlying40 Try.underlying5 (by kernel_rfl) hf with ⟨hcs, _⟩ | ⟨x, l, c, zs, hcs, _, hl, hm, hz, _, hcell, hwz⟩
    · simp [Value.cells] at hcs
      obtain ⟨rfl, rfl, rfl⟩ := hcs
      exact ⟨[], .inl ⟨rfl, rfl, rfl, rfl⟩⟩
    · simp [Value.cells] at hcs
      obtain ⟨rfl, rfl, rfl⟩ := hcs
      exact ⟨zs, .inr ⟨_, rfl, hl, hm, by simpa using hz, hcell, hwz⟩⟩
  clear hA0 hval0
  refine (walk a0 len0 cap0 z0 a1 len1 cap1 z1 W w0 w1).mono fun e W' ⟨he, bel⟩ => ?_
  subst he
  exact ⟨_, rfl, _, _, _, [], _, [], hW', trodAll_mk1 (shut_bool Try.underlying4 _), (trodAll_cons_mk (Below.trod laidOut (by kernel_rfl) (of_decide_eq_true (by kernel_rfl)) k0 bel lt0) (trodAll_cons_mk (Below.trod laidOut (by kernel_rfl) (of_decide_eq_true (by kernel_rfl)) k1 bel lt1) trodAll_mk0)), rfl, bel.frame _, fun h => by cases h⟩

theorem over : Rows.backTellsRow.holds Try.pinned (OpenSpec.ofChange Rows.backTellsSpec) :=
  OpenClaim.holds_of_wide 4 Try.f4 rfl rfl rfl rfl rfl rfl rfl ⟨rfl, rfl, rfl, rfl, rfl⟩ rfl rfl rfl rfl rfl (by kernel_rfl) Try.func4 (by kernel_rfl)
    (of_decide_eq_true (by kernel_rfl)) (by unfold Func.isWrapper; first | (rw [if_pos (by decide +kernel)]; kernel_rfl) | (rw [if_neg (by decide +kernel)]; exact ⟨rfl, rfl⟩))
    (fun os started H enc _ => lifted os started H enc)

/-- ████ THE STATEMENT ████ -/
theorem proved : Rows.BackTellsSaid := over
end Go.Proofs.Ytjojofcajabkeaa.backTells

namespace Go.Proofs.Ytjojofcajabkeaa
theorem backTells_holds : Rows.BackTellsSaid := backTells.proved
#print axioms backTells_holds
end Go.Proofs.Ytjojofcajabkeaa
