/-
  Whatever is got of any bytes, in any lengths, each error, and what is left, are the reference's.
-/
import Derived.Test.YtbhbagmbpkkefaaRows
import Derived.WalkKit
import Derived.ProofKit
import Derived.OpenShut
import Derived.ShutString
import Derived.ChangeOld
import Derived.Below
import Derived.Test.YtbhbagmbpkkefaaOwn
import Derived.Deep.RegionWith
import Derived.Deep.QuietTactic
import Derived.BigQuiet
import Derived.Test.YtbhbagmbpkkefaaRefH
namespace Go.Proofs.Ytbhbagmbpkkefaa.bitsGet
open Go.ChangeShapes Go.WideShapes Go.ChangeAt Go.RowKit
open Go.ChangeMaps (open_string shut_string)
set_option linter.unusedVariables false

theorem own : ownKnob Try.prog.godebug = none := by kernel_rfl
theorem laidOut : laidOutB Try.prog = true := by kernel_rfl

/-- WHAT THE WALK IS TOLD OF A SLICE OF INTEGERS THAT CAME IN: it is nil; or it leads to a row of 'cap' cells, the numbers 'zs' (the first 'len' are its elements, the rest its spare room), each fitting its kind. -/
def IsRow (k : IntKind) (w : World) (a : Option Addr) (len cap : Nat) (zs : List Int) : Prop :=
  (a = none ∧ len = 0 ∧ cap = 0 ∧ zs = []) ∨
  ∃ x, a = some x ∧ len ≤ cap ∧ cap ≤ maxLen ∧ zs.length = cap ∧ (∀ i, i < zs.length → w.cell? (x.add i) = some (.int k (zs.getD i 0))) ∧ ∀ n ∈ zs, (Lit.int k n).wf = true

/-- Reader and reference's reader, both at the place a. -/
def St (s : ByteArray) (w : World) (A B : Nat) (v : Value) (a : Nat) (W : World) : Prop :=
  a ≤ 8 * s.size ∧ Rd W A s a ∧ Wk W B v (le s.data.toList) (8 * s.size) a ∧ Below w.heap.size w W

/-- Where they lie. -/
def Lie (w : World) (A B : Nat) (v : Value) : Prop := w.heap.size ≤ A ∧ (∀ k, foot B v k → w.heap.size ≤ k ∧ ¬ k = A)

def GtRel (s : ByteArray) (n : Nat) (w : World) (A B : Nat) (v : Value) (iv : Value) (wr : World) : Prop :=
  ∃ (i a : Nat), i ≤ n ∧ iv = .int .i64 i ∧ St s w A B v a wr

theorem wk_kept {W W' : World} {S : Nat → Prop} {A : Nat} {v : Value} {X L a : Nat} (h : Wk W A v X L a) (g : Chg S W W') (hS : ∀ k, foot A v k → ¬ S k) : Wk W' A v X L a :=
  ⟨blk_kept h.1 g (hS A (.inl rfl)), own_kept h.2.1 g (fun k hk => hS k (.inr hk)), h.2.2⟩

theorem st_no {s : ByteArray} {w W W' : World} {A B : Nat} {v : Value} {a : Nat} (h : St s w A B v a W) (g : Chg (fun _ => False) W W') : St s w A B v a W' :=
  ⟨h.1, blk_kept h.2.1 g (fun h => h), wk_kept h.2.2.1 g (fun _ _ h => h), below_no h.2.2.2 g⟩

theorem st_rest {s : ByteArray} {w : World} {A B : Nat} {v : Value} {a : Nat} (hs : s.size ≤ 10000) (W : World) (h : St s w A B v a W) (b : Bool) (hb : rs s a = b) :
    Calls Try.prog 21 #[ptr A] W fun e W' => e = .returned (.bool b) ∧ St s w A B v a W' := by
  subst hb
  refine (rest_any A s a W h.2.1 (by omega) h.1).mono ?_
  rintro e W' ⟨rfl, k⟩
  exact ⟨rfl, st_no h k⟩
theorem st_rrest {s : ByteArray} {w : World} {A B : Nat} {v : Value} {a : Nat} (hs : s.size ≤ 10000) (W : World) (h : St s w A B v a W) (b : Bool) (hb : rs s a = b) :
    Calls Try.prog 22 #[ptr B] W fun e W' => e = .returned (.bool b) ∧ St s w A B v a W' := by
  subst hb
  refine (rrest_any B v s a W h.2.2.1 hs h.1).mono ?_
  rintro e W' ⟨rfl, k⟩
  exact ⟨rfl, st_no h k⟩

/-- Both Gets. -/
theorem st_get {s : ByteArray} {w : World} {A B : Nat} {v : Value} {a : Nat} (hs : s.size ≤ 10000) (hl : Lie w A B v) (W : World) (h : St s w A B v a W) (n : Int) (y er : Nat) (hy : got (le s.data.toList) a (gk (8 * s.size) a n) = y) (he : ge (8 * s.size) a n = er) :
    Calls Try.prog 18 #[ptr A, .int .i64 n] W fun e W' => e = .returned (.tuple #[.int .u64 y, .int .i64 er]) ∧ Below w.heap.size w W' ∧
      Calls Try.prog 19 #[ptr B, .int .i64 n] W' fun e W'' => e = .returned (agg3 y er) ∧ St s w A B v (a + gk (8 * s.size) a n) W'' := by
  subst hy he
  refine (get_any A s a n W h.2.1 (by omega) h.1).mono ?_
  rintro e W' ⟨rfl, k1, k2⟩
  have hW := wk_kept h.2.2.1 k2 (fun k hk => (hl.2 k hk).2)
  refine ⟨rfl, below_one h.2.2.2 k2 hl.1, ?_⟩
  refine (rget_any B v _ _ a n W' hW h.1 (by omega)).mono ?_
  rintro e W'' ⟨rfl, j1, j2⟩
  refine ⟨rfl, gk_le _ _ _ h.1, blk_kept k1 j2 (fun e => (hl.2 B (.inl rfl)).2 e.symm), j1, below_one (below_one h.2.2.2 k2 hl.1) j2 (hl.2 B (.inl rfl)).1⟩

set_option maxRecDepth 100000 in
set_option maxHeartbeats 4000000 in
theorem core (s : ByteArray) (b : Option Addr) (n1 cap1 : Nat) (L : Nat → Int) (w : World) (hs : s.size ≤ 300) (h1 : n1 ≤ 100)
    (hy : 0 < n1 → ∃ y, b = some y ∧ ∀ i, i < n1 → w.cell? (y.add i) = some (.int .i64 (L i)) ∧ -9223372036854775808 ≤ L i ∧ L i ≤ 9223372036854775807) :
    Calls Try.prog 4 #[.string s, .slice b n1 cap1] w fun e w' => e = .returned (.bool true) ∧ Below w.heap.size w w' := by
  have HY := Hid.intro hy
  clear hy
  go_enter Try.func4, Try.ntmps4
  go_wp2_with fail
  refine (from_own s (Below.refl _ w)).mono ?_
  rintro e w1 ⟨A, rfl, s1, a1, a2, a3, _⟩
  unfold ptr
  go_wp2_with fail
  refine (rfrom_any s w1 (by omega)).mono ?_
  rintro e w2 ⟨B, v, rfl, b1, b2, b3, b4⟩
  have st : St s w A B v 0 w2 := ⟨Nat.zero_le _, blk_kept a1 b4 (fun h => h), b1, below_no a3 b4⟩
  have lie : Hid (Lie w A B v) := by
    have hA := blk_lt a1
    have hw := a3.size
    refine ⟨a2, fun k hk => ?_⟩
    rcases hk with e | e
    · subst e; exact ⟨by omega, by omega⟩
    · have := b3 k e; exact ⟨by omega, by omega⟩
  clear s1 a1 a2 a3 b1 b2 b3 b4
  unfold ptr
  go_wp2_with fail
  go_loopw [7] (fun iv wr => GtRel s n1 w A B v iv wr) (fun iv _ => n1 - (intOf iv).toNat)
  case atStart => exact ⟨0, 0, by omega, rfl, st⟩
  case round =>
    clear st
    obtain ⟨i, a, hi, rfl, st⟩ := hrel
    by_cases hlt : i < n1
    · obtain ⟨y, rfl, hy⟩ := HY.out (by omega)
      obtain ⟨cy, by1, by2⟩ := hy i hlt
      have cy' : wr.cell? (y.add i) = some (.int .i64 (L i)) := by rw [st.2.2.2.cell (World.block_lt_of_cell? _ _ cy)]; exact cy
      have CY : Hid (∀ W, Below w.heap.size w W → W.cell? (y.add i) = some (.int .i64 (L i))) := fun W hb => by rw [hb.cell (World.block_lt_of_cell? _ _ cy)]; exact cy
      have her := ge_le (8 * s.size) a (L i)
      have G := st_get (by omega) lie.out wr st (L i) _ _ rfl rfl
      generalize got (le s.data.toList) a (gk (8 * s.size) a (L i)) = z at *
      generalize ge (8 * s.size) a (L i) = er at *
      generalize a + gk (8 * s.size) a (L i) = a' at *
      obtain ⟨q, hq⟩ : ∃ q, rs s a' = q := ⟨_, rfl⟩
      have R1 := fun W h => st_rest (w := w) (A := A) (B := B) (v := v) (show s.size ≤ 10000 by omega) W h q hq
      have R2 := fun W h => st_rrest (w := w) (A := A) (B := B) (v := v) (show s.size ≤ 10000 by omega) W h q hq
      clear hy cy hq
      unfold ptr at *
      go_wp2_with fail
      refine G.mono ?_
      rintro e w3 ⟨rfl, hb3, G2⟩
      have cy3 := CY.out w3 hb3
      clear G st cy'
      go_wp2_with fail
      refine G2.mono ?_
      rintro e w4 ⟨rfl, st4⟩
      clear G2 cy3
      unfold agg3
      go_wp2_with fail
      have st6 : St s w A B v a' (w4.alloc (.cells #[.int .u64 (z : Int), .int .i64 0, .int .i64 (er : Int)] 44)).drew := st_no st4 (chg_drew (chg_alloc (chg_refl _ _) _))
      have x0 : (w4.alloc (.cells #[.int .u64 (z : Int), .int .i64 0, .int .i64 (er : Int)] 44)).cell? ⟨w4.heap.size, 0, none⟩ = some (.int .u64 z) := by rw [blk_cell (blk_new w4 _ _)]; rfl
      have x2 : (w4.alloc (.cells #[.int .u64 (z : Int), .int .i64 0, .int .i64 (er : Int)] 44)).cell? ⟨w4.heap.size, 2, none⟩ = some (.int .i64 er) := by rw [blk_cell (blk_new w4 _ _)]; rfl
      clear st4 hb3
      generalize w4.alloc (.cells #[.int .u64 (z : Int), .int .i64 0, .int .i64 (er : Int)] 44) = w5 at *
      generalize w4.heap.size = xb at *
      have E := fun W => err_any er W (by omega)
      clear HY CY
      go_region_with (first | (go_at_call 20; refine (E _).mono ?_; rintro e w6 ⟨rfl, rfl⟩) | (go_at_call 21; refine (R1 _ (by assumption)).mono ?_; rintro e w6 ⟨rfl, hst⟩) | (go_at_call 22; refine (R2 _ (by assumption)).mono ?_; rintro e w7 ⟨rfl, hst2⟩))
      all_goals
        clear R1 R2 E x0 x2
        go_wp2
        go_roundw
        case rel => exact ⟨i + 1, a', by omega, by go_num, by assumption⟩
        case measure => simp [intOf]; omega
    · obtain rfl : i = n1 := by omega
      obtain ⟨q, hq⟩ : ∃ q, rs s a = q := ⟨_, rfl⟩
      have HQ := Hid.intro hq
      clear hq HY
      go_wp2_with fail
      refine (st_rest (by omega) wr st q HQ.out).mono ?_
      rintro e w3 ⟨rfl, st3⟩
      go_wp2_with fail
      refine (st_rrest (by omega) w3 st3 q HQ.out).mono ?_
      rintro e w4 ⟨rfl, st4⟩
      have hb4 := st4.2.2.2
      clear st st3 st4
      go_wp2_with (go_at_call 10; refine (awake_own hb4).mono ?_; rintro e w9 ⟨rfl, hb9⟩)
      go_ret
      exact ⟨rfl, by assumption⟩

set_option maxRecDepth 100000 in
theorem big (s : ByteArray) (b : Option Addr) (n1 cap1 : Nat) (w : World) (h : 300 < s.size ∨ (¬ 300 < s.size ∧ 100 < n1)) (hl : s.size ≤ 9223372036854775807) (hn : n1 ≤ 9223372036854775807) :
    Calls Try.prog 4 #[.string s, .slice b n1 cap1] w fun e w' => e = .returned (.bool true) ∧ Below w.heap.size w w' := by
  rcases h with h | ⟨h, g⟩
  all_goals
    go_enter Try.func4, Try.ntmps4
    go_wp2_with fail
    refine (from_own s (Below.refl _ w)).mono ?_
    rintro e w1 ⟨A, rfl, s1, a1, a2, a3, _⟩
    unfold ptr
    go_wp2_with (go_at_call 10; refine (awake_own a3).mono ?_; rintro e w9 ⟨rfl, hb9⟩)
    go_ret
    exact ⟨rfl, by assumption⟩

theorem row_int {w : World} {a : Option Addr} {len cap : Nat} {zs : List Int} (h : IsRow .i64 w a len cap zs) :
    len ≤ maxLen ∧ (0 < len → ∃ x, a = some x ∧ ∀ i, i < len → w.cell? (x.add i) = some (.int .i64 (zs.getD i 0)) ∧ -9223372036854775808 ≤ zs.getD i 0 ∧ zs.getD i 0 ≤ 9223372036854775807) := by
  rcases h with ⟨rfl, rfl, rfl, rfl⟩ | ⟨x, rfl, h1, h2, h3, h4, h5⟩
  · exact ⟨Nat.zero_le _, fun h => absurd h (by omega)⟩
  · refine ⟨Nat.le_trans h1 h2, fun _ => ⟨x, rfl, fun i hi => ?_⟩⟩
    have hg : zs.getD i 0 = zs[i] := by rw [List.getD_eq_getElem?_getD, List.getElem?_eq_getElem (by omega)]; rfl
    have hb := bounds_i64 (h5 _ (List.getElem_mem (show i < zs.length by omega)))
    rw [h4 i (by omega), hg]
    exact ⟨rfl, by omega, by omega⟩

theorem walk (a0 : ByteArray) (a1 : Option Addr) (len1 cap1 : Nat) (z1 : List Int) (w : World) (w0 : a0.size ≤ maxLen) (w1 : IsRow .i64 w a1 len1 cap1 z1) :
    Calls Try.prog 4 #[.string a0, .slice a1 len1 cap1] w fun e w' => e = .returned (.bool true) ∧ Below w.heap.size w w' := by
  obtain ⟨b1, r1⟩ := row_int w1
  unfold maxLen at b1 w0
  by_cases h : 300 < a0.size ∨ (¬ 300 < a0.size ∧ 100 < len1)
  · exact big a0 a1 len1 cap1 w h (by omega) (by omega)
  · exact core a0 a1 len1 cap1 (fun i => z1.getD i 0) w (by omega) (by omega) r1

/-! ### THE ROW's STEP: WRITTEN OUT: LEAVE IT -/
set_option maxRecDepth 100000 in
theorem lifted (os : Os) (started : os.Started) (H : Type) (enc : TypeId × Value → H) :
    ReturnsInHanded {} Try.checked os 4 .any (Rows.bitsGetSpec.pre6 enc Try.prog Try.f4 Rows.bitsGetRow.domain false) (Rows.bitsGetSpec.post enc Try.prog Try.f4 false true false false) := by
  refine returnsInHanded_of_change (C := Try.checked) own started (by kernel_rfl) Try.func4
    (ChangeSpec.witness6 (enc := enc) (C := Try.checked) false ⟨#[], #[.string ByteArray.empty, .slice none 0 0], []⟩ 8 (by kernel_rfl) (by kernel_rfl) (by kernel_rfl) (by kernel_rfl)) ?_
  intro W base args ds gs before hval0 hW hcnd _
  have hval : ∀ (j : Nat) t v, Try.f4.params[j]? = some t → args[j]? = some v → Value.okWide Try.prog W .any base t v := hval0
  have hW' := hW
  obtain ⟨p, q, hA0, hV, rfl, hfz, hnd⟩ := hW
  have hA : DataW.TrodAll enc Try.prog W 0 (fun _ => true) true Try.f4.params.toList args.toList ds p := hA0
  rw [Try.params4] at hA hval
  obtain ⟨v0, vs0, d0, ds0, p0, q0, hargs, rfl, rfl, h0, r0⟩ := trodAll_cons hA
  obtain ⟨v1, vs1, d1, ds1, p1, q1, rfl, rfl, rfl, h1, r1⟩ := trodAll_cons r0
  obtain ⟨rfl, rfl, rfl⟩ := trodAll_nil r1
  obtain rfl : args = #[v0, v1] := by cases args; simp_all
  obtain ⟨rfl, rfl⟩ := trodVars_none hV
  obtain ⟨a0, rfl, rfl, rfl, w0⟩ := open_string Try.underlying9 (hval 0 9 v0 rfl rfl) h0
  obtain ⟨a1, len1, cap1, rfl⟩ := okWide_slice Try.underlying23 (hval 1 23 v1 rfl rfl)
  have k1 := h1
  have lt1 : ∀ x ∈ p1, x.block < W.heap.size := by obtain ⟨m, hm⟩ := k1; exact DataW.trod_lt m _ _ _ hm
  obtain ⟨z1, w1⟩ : ∃ zs, IsRow .i64 W a1 len1 cap1 zs := by
    obtain ⟨fuel, hf⟩ := h1
    rcases open_ints Try.underlying23 Try.underlying3 (by kernel_rfl) hf with ⟨hcs, _⟩ | ⟨x, l, c, zs, hcs, _, hl, hm, hz, _, hcell, hwz⟩
    · simp [Value.cells] at hcs
      obtain ⟨rfl, rfl, rfl⟩ := hcs
      exact ⟨[], .inl ⟨rfl, rfl, rfl, rfl⟩⟩
    · simp [Value.cells] at hcs
      obtain ⟨rfl, rfl, rfl⟩ := hcs
      exact ⟨zs, .inr ⟨_, rfl, hl, hm, by simpa using hz, hcell, hwz⟩⟩
  clear hA0 hval0
  refine (walk a0 a1 len1 cap1 z1 W w0 w1).mono fun e W' ⟨he, bel⟩ => ?_
  subst he
  exact ⟨_, rfl, _, _, _, [], _, [], hW', trodAll_mk1 (shut_bool Try.underlying4 _), (trodAll_cons_mk (shut_string Try.underlying9 w0) (trodAll_cons_mk (Below.trod laidOut (by kernel_rfl) (of_decide_eq_true (by kernel_rfl)) k1 bel lt1) trodAll_mk0)), rfl, bel.frame _, fun h => by cases h⟩

theorem over : Rows.bitsGetRow.holds Try.pinned (OpenSpec.ofChange Rows.bitsGetSpec) :=
  OpenClaim.holds_of_wide 4 Try.f4 rfl rfl rfl rfl rfl rfl rfl ⟨rfl, rfl, rfl, rfl, rfl⟩ rfl rfl rfl rfl rfl (by kernel_rfl) Try.func4 (by kernel_rfl)
    (of_decide_eq_true (by kernel_rfl)) (by unfold Func.isWrapper; first | (rw [if_pos (by decide +kernel)]; kernel_rfl) | (rw [if_neg (by decide +kernel)]; exact ⟨rfl, rfl⟩))
    (fun os started H enc _ => lifted os started H enc)

/-- ████ THE STATEMENT ████ -/
theorem proved : Rows.BitsGetSaid := over
end Go.Proofs.Ytbhbagmbpkkefaa.bitsGet

namespace Go.Proofs.Ytbhbagmbpkkefaa
theorem bitsGet_holds : Rows.BitsGetSaid := bitsGet.proved
#print axioms bitsGet_holds
end Go.Proofs.Ytbhbagmbpkkefaa
