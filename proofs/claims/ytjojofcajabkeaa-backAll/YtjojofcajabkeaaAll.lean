/-
  Whatever is sealed, and got of any bytes from their end, each error, how many bits are left, are the reference's.
-/
import Derived.Test.YtjojofcajabkeaaRows
import Derived.WalkKit
import Derived.ProofKit
import Derived.OpenShut
import Derived.ShutString
import Derived.ChangeOld
import Derived.Below
import Derived.Test.YtjojofcajabkeaaRefT
import Derived.Deep.RegionWith
import Derived.Deep.QuietTactic
import Derived.BigQuiet
namespace Go.Proofs.Ytjojofcajabkeaa.backAll
open Go.ChangeShapes Go.WideShapes Go.ChangeAt Go.RowKit
open Go.ChangeMaps (open_string shut_string)
set_option linter.unusedVariables false

theorem own : ownKnob Try.prog.godebug = none := by kernel_rfl
theorem laidOut : laidOutB Try.prog = true := by kernel_rfl

/-- WHAT THE WALK IS TOLD OF A SLICE OF INTEGERS THAT CAME IN: it is nil; or it leads to a row of 'cap' cells, the numbers 'zs' (the first 'len' are its elements, the rest its spare room), each fitting its kind. -/
def IsRow (k : IntKind) (w : World) (a : Option Addr) (len cap : Nat) (zs : List Int) : Prop :=
  (a = none ∧ len = 0 ∧ cap = 0 ∧ zs = []) ∨
  ∃ x, a = some x ∧ len ≤ cap ∧ cap ≤ maxLen ∧ zs.length = cap ∧ (∀ i, i < zs.length → w.cell? (x.add i) = some (.int k (zs.getD i 0))) ∧ ∀ n ∈ zs, (Lit.int k n).wf = true

theorem row_nat {k : IntKind} {w : World} {a : Option Addr} {len cap : Nat} {zs : List Int} (h : IsRow k w a len cap zs) (B : Nat) (hB : ∀ n, (Lit.int k n).wf = true → 0 ≤ n ∧ n < B) :
    len ≤ maxLen ∧ (0 < len → ∃ x, a = some x ∧ ∀ i, i < len → w.cell? (x.add i) = some (.int k ((zs.getD i 0).toNat : Nat)) ∧ (zs.getD i 0).toNat < B) := by
  rcases h with ⟨rfl, rfl, rfl, rfl⟩ | ⟨x, rfl, h1, h2, h3, h4, h5⟩
  · exact ⟨Nat.zero_le _, fun h => absurd h (by omega)⟩
  · refine ⟨Nat.le_trans h1 h2, fun _ => ⟨x, rfl, fun i hi => ?_⟩⟩
    have hg : zs.getD i 0 = zs[i] := by rw [List.getD_eq_getElem?_getD, List.getElem?_eq_getElem (by omega)]; rfl
    have hb := hB zs[i] (h5 _ (List.getElem_mem (by omega)))
    rw [h4 i (by omega), hg, Int.toNat_of_nonneg hb.1]
    exact ⟨rfl, by omega⟩
theorem row_int {w : World} {a : Option Addr} {len cap : Nat} {zs : List Int} (h : IsRow .i64 w a len cap zs) :
    len ≤ maxLen ∧ (0 < len → ∃ x, a = some x ∧ ∀ i, i < len → w.cell? (x.add i) = some (.int .i64 (zs.getD i 0)) ∧ -9223372036854775808 ≤ zs.getD i 0 ∧ zs.getD i 0 ≤ 9223372036854775807) := by
  rcases h with ⟨rfl, rfl, rfl, rfl⟩ | ⟨x, rfl, h1, h2, h3, h4, h5⟩
  · exact ⟨Nat.zero_le _, fun h => absurd h (by omega)⟩
  · refine ⟨Nat.le_trans h1 h2, fun _ => ⟨x, rfl, fun i hi => ?_⟩⟩
    have hg : zs.getD i 0 = zs[i] := by rw [List.getD_eq_getElem?_getD, List.getElem?_eq_getElem (by omega)]; rfl
    have hb := bounds_i64 (h5 _ (List.getElem_mem (show i < zs.length by omega)))
    rw [h4 i (by omega), hg]
    exact ⟨rfl, by omega, by omega⟩
theorem us_kept {w W : World} {a : Option Addr} {n : Nat} {X : Nat → Nat} (h : Us w a n X) (hb : Below w.heap.size w W) : Us W a n X := by
  intro h0
  obtain ⟨x, e, hx⟩ := h h0
  exact ⟨x, e, fun i hi => ⟨by rw [hb.cell (World.block_lt_of_cell? _ _ (hx i hi).1)]; exact (hx i hi).1, (hx i hi).2⟩⟩
theorem ls_kept {w W : World} {a : Option Addr} {n : Nat} {L : Nat → Int} (h : Ls w a n L) (hb : Below w.heap.size w W) : Ls W a n L := by
  intro h0
  obtain ⟨x, e, hx⟩ := h h0
  exact ⟨x, e, fun i hi => ⟨by rw [hb.cell (World.block_lt_of_cell? _ _ (hx i hi).1)]; exact (hx i hi).1, (hx i hi).2⟩⟩

theorem chg_drewN (W : World) (k : Nat) : Chg (fun _ => False) W (W.drewN k) := ⟨rfl, rfl, rfl, Nat.le_refl _, fun _ _ _ => rfl⟩
/-- Both readers, with a bits left. -/
def St (s : ByteArray) (w : World) (A B g cap a : Nat) (W : World) : Prop :=
  a ≤ 8 * s.size ∧ Rd W A s a ∧ Tl W B g cap (le s.data.toList) a ∧ A ≠ B ∧ A ≠ g ∧ w.heap.size ≤ A ∧ w.heap.size ≤ B ∧ Below w.heap.size w W
theorem st_no {s : ByteArray} {w W W' : World} {A B g cap a : Nat} (h : St s w A B g cap a W) (c : Chg (fun _ => False) W W') : St s w A B g cap a W' :=
  ⟨h.1, blk_kept h.2.1 c (fun h => h), tl_kept h.2.2.1 c (fun h => h) (fun h => h), h.2.2.2.1, h.2.2.2.2.1, h.2.2.2.2.2.1, h.2.2.2.2.2.2.1, below_no h.2.2.2.2.2.2.2 c⟩
theorem st_get {s : ByteArray} {w : World} {A B g cap a : Nat} (hs : s.size ≤ 10000) (W : World) (h : St s w A B g cap a W) (n : Int) (z er a' : Nat) (hz : got (le s.data.toList) (a - gk a n) (gk a n) = z) (he : ge a n = er) (ha : a - gk a n = a') :
    Calls Try.prog 13 #[ptr A, .int .i64 n] W fun e W' => e = .returned (.tuple #[.int .u64 z, .int .i64 er]) ∧ Below w.heap.size w W' ∧
      Calls Try.prog 14 #[ptr B, .int .i64 n] W' fun e W'' => e = .returned (agg3 z er) ∧ St s w A B g cap a' W'' := by
  subst hz he ha
  obtain ⟨h1, h2, h3, h4, h5, h6, h7, h8⟩ := h
  refine (get_any A s a n W h2 (by omega) h1).mono ?_
  rintro e W' ⟨rfl, k1, k2⟩
  have b1 := below_one h8 k2 h6
  have t1 := tl_kept h3 k2 (fun e => h4 e.symm) (fun e => h5 e.symm)
  refine ⟨rfl, b1, (tget_any B g cap _ a n W' t1 (by omega)).mono ?_⟩
  rintro e W'' ⟨rfl, j1, j2⟩
  exact ⟨rfl, by omega, blk_kept k1 j2 (fun e => h4 e), j1, h4, h5, h6, h7, below_one b1 j2 h7⟩

def AlRel (s : ByteArray) (w : World) (A B g cap n3 : Nat) (iv : Value) (wr : World) : Prop :=
  ∃ i a : Nat, i ≤ n3 ∧ iv = .int .i64 i ∧ St s w A B g cap a wr

set_option maxRecDepth 100000 in
set_option maxHeartbeats 4000000 in
theorem core (a b c : Option Addr) (s : ByteArray) (n0 cap0 n1 cap1 n3 cap3 : Nat) (X : Nat → Nat) (L G : Nat → Int) (w : World) (h0 : n0 ≤ 60) (h2 : s.size ≤ 300) (h3 : n3 ≤ 60) (hn1 : n1 ≤ 9223372036854775807)
    (hx : Us w a n0 X) (hy : Ls w b n1 L) (hg : Ls w c n3 G) :
    Calls Try.prog 3 #[.slice a n0 cap0, .slice b n1 cap1, .string s, .slice c n3 cap3] w fun e w' => e = .returned (.bool true) ∧ Below w.heap.size w w' := by
  have P1 := seal_own (w := w) (W := w) a b n0 cap0 n1 cap1 (min n0 n1) X L (Below.refl _ w) (by omega) rfl (by omega) hn1 hx hy (fun i => cl (L i)) (fun _ => rfl) _ rfl
  have P2 := fun (W : World) (hb : Below w.heap.size w W) => rseal_core a b n0 cap0 n1 cap1 (min n0 n1) X L W (by omega) (by omega) (by omega) (by omega) (by omega) hn1 (us_kept hx hb) (ls_kept hy hb) (fun i => cl (L i)) (fun _ => rfl) (fun _ => cl_le _)
  have HG := Hid.intro hg
  clear hx hy hg
  generalize sealed (num X (fun i => cl (L i)) (min n0 n1)) (szs (fun i => cl (L i)) (min n0 n1)) = S at *
  go_enter Try.func3, Try.ntmps3
  go_wp2_with fail
  refine P1.mono ?_
  rintro e w1 ⟨rfl, b1, _⟩
  go_wp2_with fail
  refine (P2 w1 b1).mono ?_
  rintro e w2 ⟨rfl, c2⟩
  have b2 : Below w.heap.size w w2 := below_no b1 (chg_of c2)
  clear P1 P2 b1 c2
  by_cases hl : last s = 0
  · go_wp2_with fail
    refine (from_bad s w2 hl (by omega)).mono ?_
    rintro e w3 ⟨rfl, rfl⟩
    go_wp2_with fail
    refine (fromEnd_bad s w2 hl (by omega)).mono ?_
    rintro e w3 ⟨rfl, rfl⟩
    go_wp2_with (first | (go_at_call 12; refine (err_any 3 _ (by omega)).mono ?_; rintro e w5 ⟨rfl, rfl⟩) | (go_at_call 7; refine (awake_own b2).mono ?_; rintro e w9 ⟨rfl, hb9⟩))
    go_ret
    exact ⟨rfl, by assumption⟩
  · have hlog := (log_lt s hl).2
    go_wp2_with fail
    refine (from_own s b2 hl (by omega) _ rfl).mono ?_
    rintro e w3 ⟨A, rfl, q1, q2, q3, q4, q5⟩
    unfold ptr
    go_wp2_with fail
    refine (fromEnd_ok s w3 hl (by omega)).mono ?_
    rintro e w4 ⟨B, g, cap, rfl, r1, r2, r3, r4⟩
    have hAw : A < w3.heap.size := blk_lt q2
    have st : St s w A B g cap (Nat.log2 (le s.data.toList)) w4 := ⟨by omega, blk_kept q2 r4 (fun h => h), r3, by omega, by omega, q3, by have := q4.size; omega, below_no q4 r4⟩
    clear b2 q1 q2 q3 q4 q5 r1 r2 r3 r4 hAw hlog
    generalize Nat.log2 (le s.data.toList) = a0 at *
    unfold ptr
    go_wp2_with (go_at_call 12; refine (err_any 0 _ (by omega)).mono ?_; rintro e w5 ⟨rfl, rfl⟩)
    go_loopw [12] (fun iv wr => AlRel s w A B g cap n3 iv wr) (fun iv _ => n3 - (intOf iv).toNat)
    case atStart => exact ⟨0, a0, by omega, rfl, st⟩
    case round =>
      clear st
      obtain ⟨i, a1, hi, rfl, st⟩ := hrel
      by_cases hlt : i < n3
      · obtain ⟨y, rfl, hy⟩ := HG.out (by omega)
        obtain ⟨cy, by1, by2⟩ := hy i hlt
        have hbw := st.2.2.2.2.2.2.2
        have cy' : wr.cell? (y.add i) = some (.int .i64 (G i)) := by rw [hbw.cell (World.block_lt_of_cell? _ _ cy)]; exact cy
        have CY : Hid (∀ W, Below w.heap.size w W → W.cell? (y.add i) = some (.int .i64 (G i))) := fun W hb => by rw [hb.cell (World.block_lt_of_cell? _ _ cy)]; exact cy
        have her := ge_le a1 (G i)
        have P := st_get (by omega) wr st (G i) _ _ _ rfl rfl rfl
        generalize got (le s.data.toList) (a1 - gk a1 (G i)) (gk a1 (G i)) = z at *
        generalize ge a1 (G i) = er at *
        generalize a1 - gk a1 (G i) = a' at *
        clear hy cy hbw HG
        unfold ptr at *
        go_wp2_with fail
        refine P.mono ?_
        rintro e w5 ⟨rfl, hb5, P2⟩
        have cy5 := CY.out w5 hb5
        clear P st cy'
        go_wp2_with fail
        refine P2.mono ?_
        rintro e w6 ⟨rfl, st6⟩
        clear P2 cy5 CY hb5
        unfold agg3
        go_wp2_with fail
        have st7 : St s w A B g cap a' (w6.alloc (.cells #[.int .u64 (z : Int), .int .i64 0, .int .i64 (er : Int)] 37)) := st_no st6 (chg_alloc (chg_refl _ _) _)
        have x0 : (w6.alloc (.cells #[.int .u64 (z : Int), .int .i64 0, .int .i64 (er : Int)] 37)).cell? ⟨w6.heap.size, 0, none⟩ = some (.int .u64 z) := by rw [blk_cell (blk_new w6 _ _)]; rfl
        have x2 : (w6.alloc (.cells #[.int .u64 (z : Int), .int .i64 0, .int .i64 (er : Int)] 37)).cell? ⟨w6.heap.size, 2, none⟩ = some (.int .i64 er) := by rw [blk_cell (blk_new w6 _ _)]; rfl
        clear st6
        generalize w6.alloc (.cells #[.int .u64 (z : Int), .int .i64 0, .int .i64 (er : Int)] 37) = w7 at *
        generalize w6.heap.size = xb at *
        have ha := st7.1
        have cB : w7.cell? ⟨B, 0, none⟩ = some (.slice (some ⟨g, 0, none⟩) a' cap) := by rw [blk_cell st7.2.2.1.1]; rfl
        have E := fun W => err_any er W (by omega)
        have L1 := fun (k : Nat) => left_any A s a' (w7.drewN k) st7.2.1
        have ST := Hid.intro st7
        clear st7
        unfold ptr at L1
        go_quiet ((first | (go_at_call 12; refine quietS (E _)) | (go_at_call 15; refine quietS (L1 _))))
        clear E L1 x0 x2 cB
        go_wp2
        go_roundw
        case rel => exact ⟨i + 1, a', by omega, by go_num, st_no ST.out (chg_drewN _ _)⟩
        case measure => simp [intOf]; omega
      · obtain rfl : i = n3 := by omega
        have hbw := st.2.2.2.2.2.2.2
        have ha := st.1
        have cB : wr.cell? ⟨B, 0, none⟩ = some (.slice (some ⟨g, 0, none⟩) a1 cap) := by rw [blk_cell st.2.2.1.1]; rfl
        have L1 := left_any A s a1 wr.drew st.2.1
        unfold ptr at L1
        clear st HG
        go_wp2_with fail
        go_region_with (first | (go_at_call 15; refine L1.mono ?_; rintro e w5 ⟨rfl, rfl⟩) | (go_at_call 7; refine (awake_own (Below.drew hbw)).mono ?_; rintro e w9 ⟨rfl, hb9⟩))
        all_goals
          go_wp2
          go_ret
          exact ⟨rfl, by assumption⟩

set_option maxRecDepth 100000 in
theorem big (a b c : Option Addr) (s : ByteArray) (n0 cap0 n1 cap1 n3 cap3 : Nat) (w : World) (h : 60 < n0 ∨ (¬ 60 < n0 ∧ 300 < s.size) ∨ (¬ 60 < n0 ∧ ¬ 300 < s.size ∧ 60 < n3)) (h1 : n0 ≤ 9223372036854775807) (h2 : s.size ≤ 9223372036854775807) (h3 : n3 ≤ 9223372036854775807) :
    Calls Try.prog 3 #[.slice a n0 cap0, .slice b n1 cap1, .string s, .slice c n3 cap3] w fun e w' => e = .returned (.bool true) ∧ Below w.heap.size w w' := by
  rcases h with h | ⟨h, g⟩ | ⟨h, g, k⟩
  all_goals
    go_enter Try.func3, Try.ntmps3
    go_wp2_with (go_at_call 7; refine (awake_own (Below.refl _ w)).mono ?_; rintro e w9 ⟨rfl, hb9⟩)
    go_ret
    exact ⟨rfl, by assumption⟩

theorem walk (a0 : Option Addr) (len0 cap0 : Nat) (z0 : List Int) (a1 : Option Addr) (len1 cap1 : Nat) (z1 : List Int) (a2 : ByteArray) (a3 : Option Addr) (len3 cap3 : Nat) (z3 : List Int) (w : World) (w0 : IsRow .u64 w a0 len0 cap0 z0) (w1 : IsRow .i64 w a1 len1 cap1 z1) (w2 : a2.size ≤ maxLen) (w3 : IsRow .i64 w a3 len3 cap3 z3) :
    Calls Try.prog 3 #[.slice a0 len0 cap0, .slice a1 len1 cap1, .string a2, .slice a3 len3 cap3] w fun e w' => e = .returned (.bool true) ∧ Below w.heap.size w w' := by
  obtain ⟨b0, r0⟩ := row_nat w0 18446744073709551616 (fun n h => by have := bounds_u64 h; omega)
  obtain ⟨b1, r1⟩ := row_int w1
  obtain ⟨b3, r3⟩ := row_int w3
  unfold maxLen at b0 b1 b3 w2
  by_cases h : 60 < len0 ∨ (¬ 60 < len0 ∧ 300 < a2.size) ∨ (¬ 60 < len0 ∧ ¬ 300 < a2.size ∧ 60 < len3)
  · exact big _ _ _ _ _ _ _ _ _ _ w h (by omega) (by omega) (by omega)
  · exact core a0 a1 a3 a2 len0 cap0 len1 cap1 len3 cap3 (fun i => (z0.getD i 0).toNat) (fun i => z1.getD i 0) (fun i => z3.getD i 0) w (by omega) (by omega) (by omega) (by omega) r0 r1 r3

/-! ### THE ROW's STEP: WRITTEN OUT: LEAVE IT -/
set_option maxRecDepth 100000 in
theorem lifted (os : Os) (started : os.Started) (H : Type) (enc : TypeId × Value → H) :
    ReturnsInHanded {} Try.checked os 3 .any (Rows.backAllSpec.pre6 enc Try.prog Try.f3 Rows.backAllRow.domain false) (Rows.backAllSpec.post enc Try.prog Try.f3 false true false false) := by
  refine returnsInHanded_of_change (C := Try.checked) own started (by kernel_rfl) Try.func3
    (ChangeSpec.witness6 (enc := enc) (C := Try.checked) false ⟨#[], #[.slice none 0 0, .slice none 0 0, .string ByteArray.empty, .slice none 0 0], []⟩ 8 (by kernel_rfl) (by kernel_rfl) (by kernel_rfl) (by kernel_rfl)) ?_
  intro W base args ds gs before hval0 hW hcnd _
  have hval : ∀ (j : Nat) t v, Try.f3.params[j]? = some t → args[j]? = some v → Value.okWide Try.prog W .any base t v := hval0
  have hW' := hW
  obtain ⟨p, q, hA0, hV, rfl, hfz, hnd⟩ := hW
  have hA : DataW.TrodAll enc Try.prog W 0 (fun _ => true) true Try.f3.params.toList args.toList ds p := hA0
  rw [Try.params3] at hA hval
  obtain ⟨v0, vs0, d0, ds0, p0, q0, hargs, rfl, rfl, h0, r0⟩ := trodAll_cons hA
  obtain ⟨v1, vs1, d1, ds1, p1, q1, rfl, rfl, rfl, h1, r1⟩ := trodAll_cons r0
  obtain ⟨v2, vs2, d2, ds2, p2, q2, rfl, rfl, rfl, h2, r2⟩ := trodAll_cons r1
  obtain ⟨v3, vs3, d3, ds3, p3, q3, rfl, rfl, rfl, h3, r3⟩ := trodAll_cons r2
  obtain ⟨rfl, rfl, rfl⟩ := trodAll_nil r3
  obtain rfl : args = #[v0, v1, v2, v3] := by cases args; simp_all
  obtain ⟨rfl, rfl⟩ := trodVars_none hV
  obtain ⟨a0, len0, cap0, rfl⟩ := okWide_slice Try.underlying22 (hval 0 22 v0 rfl rfl)
  have k0 := h0
  have lt0 : ∀ x ∈ p0, x.block < W.heap.size := by obtain ⟨m, hm⟩ := k0; exact DataW.trod_lt m _ _ _ hm
  obtain ⟨z0, w0⟩ : ∃ zs, IsRow .u64 W a0 len0 cap0 zs := by
    obtain ⟨fuel, hf⟩ := h0
    rcases open_ints Try.underlying22 Try.underlying33 (by kernel_rfl) hf with ⟨hcs, _⟩ | ⟨x, l, c, zs, hcs, _, hl, hm, hz, _, hcell, hwz⟩
    · simp [Value.cells] at hcs
      obtain ⟨rfl, rfl, rfl⟩ := hcs
      exact ⟨[], .inl ⟨rfl, rfl, rfl, rfl⟩⟩
    · simp [Value.cells] at hcs
      obtain ⟨rfl, rfl, rfl⟩ := hcs
      exact ⟨zs, .inr ⟨_, rfl, hl, hm, by simpa using hz, hcell, hwz⟩⟩
  obtain ⟨a1, len1, cap1, rfl⟩ := okWide_slice Try.underlying23 (hval 1 23 v1 rfl rfl)
  have k1 := h1
  have lt1 : ∀ x ∈ p1, x.block < W.heap.size := by obtain ⟨m, hm⟩ := k1; exact DataW.trod_lt m _ _ _ hm
  obtain ⟨z1, w1⟩ : ∃ zs, IsRow .i64 W a1 len1 cap1 zs := by
    obtain ⟨fuel, hf⟩ := h1
    rcases open_ints Try.underlying23 Try.underlying3 (by kernel_rfl) hf with ⟨hcs, _⟩ | ⟨x, l, c, zs, hcs, _, hl, hm, hz, _, hcell, hwz⟩
    · simp [Value.cells] at hcs
      obtain ⟨rfl, rfl, rfl⟩ := hcs
      exact ⟨[], .inl ⟨rfl, rfl, rfl, rfl⟩⟩
    · simp [Value.cells] at hcs
      obtain ⟨rfl, rfl, rfl⟩ := hcs
      exact ⟨zs, .inr ⟨_, rfl, hl, hm, by simpa using hz, hcell, hwz⟩⟩
  obtain ⟨a2, rfl, rfl, rfl, w2⟩ := open_string Try.underlying9 (hval 2 9 v2 rfl rfl) h2
  obtain ⟨a3, len3, cap3, rfl⟩ := okWide_slice Try.underlying23 (hval 3 23 v3 rfl rfl)
  have k3 := h3
  have lt3 : ∀ x ∈ p3, x.block < W.heap.size := by obtain ⟨m, hm⟩ := k3; exact DataW.trod_lt m _ _ _ hm
  obtain ⟨z3, w3⟩ : ∃ zs, IsRow .i64 W a3 len3 cap3 zs := by
    obtain ⟨fuel, hf⟩ := h3
    rcases open_ints Try.underlying23 Try.underlying3 (by kernel_rfl) hf with ⟨hcs, _⟩ | ⟨x, l, c, zs, hcs, _, hl, hm, hz, _, hcell, hwz⟩
    · simp [Value.cells] at hcs
      obtain ⟨rfl, rfl, rfl⟩ := hcs
      exact ⟨[], .inl ⟨rfl, rfl, rfl, rfl⟩⟩
    · simp [Value.cells] at hcs
      obtain ⟨rfl, rfl, rfl⟩ := hcs
      exact ⟨zs, .inr ⟨_, rfl, hl, hm, by simpa using hz, hcell, hwz⟩⟩
  clear hA0 hval0
  refine (walk a0 len0 cap0 z0 a1 len1 cap1 z1 a2 a3 len3 cap3 z3 W w0 w1 w2 w3).mono fun e W' ⟨he, bel⟩ => ?_
  subst he
  exact ⟨_, rfl, _, _, _, [], _, [], hW', trodAll_mk1 (shut_bool Try.underlying4 _), (trodAll_cons_mk (Below.trod laidOut (by kernel_rfl) (of_decide_eq_true (by kernel_rfl)) k0 bel lt0) (trodAll_cons_mk (Below.trod laidOut (by kernel_rfl) (of_decide_eq_true (by kernel_rfl)) k1 bel lt1) (trodAll_cons_mk (shut_string Try.underlying9 w2) (trodAll_cons_mk (Below.trod laidOut (by kernel_rfl) (of_decide_eq_true (by kernel_rfl)) k3 bel lt3) trodAll_mk0)))), rfl, bel.frame _, fun h => by cases h⟩

theorem over : Rows.backAllRow.holds Try.pinned (OpenSpec.ofChange Rows.backAllSpec) :=
  OpenClaim.holds_of_wide 3 Try.f3 rfl rfl rfl rfl rfl rfl rfl ⟨rfl, rfl, rfl, rfl, rfl⟩ rfl rfl rfl rfl rfl (by kernel_rfl) Try.func3 (by kernel_rfl)
    (of_decide_eq_true (by kernel_rfl)) (by unfold Func.isWrapper; first | (rw [if_pos (by decide +kernel)]; kernel_rfl) | (rw [if_neg (by decide +kernel)]; exact ⟨rfl, rfl⟩))
    (fun os started H enc _ => lifted os started H enc)

/-- ████ THE STATEMENT ████ -/
theorem proved : Rows.BackAllSaid := over
end Go.Proofs.Ytjojofcajabkeaa.backAll

namespace Go.Proofs.Ytjojofcajabkeaa
theorem backAll_holds : Rows.BackAllSaid := backAll.proved
#print axioms backAll_holds
end Go.Proofs.Ytjojofcajabkeaa
