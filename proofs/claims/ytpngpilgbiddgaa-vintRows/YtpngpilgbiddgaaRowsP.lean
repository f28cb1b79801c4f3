/-
  VintRows returns true for every input, and what it was handed reads as before; no condition.
-/
import Derived.Test.YtpngpilgbiddgaaRows
import Derived.WalkKit
import Derived.ProofKit
import Derived.OpenShut
import Derived.ShutString
import Derived.ChangeOld
import Derived.Below
import Derived.Test.YtpngpilgbiddgaaCat
import Derived.Deep.RegionHeld3
namespace Go.Proofs.Ytpngpilgbiddgaa.vintRows
open Go.ChangeShapes Go.WideShapes Go.ChangeAt Go.RowKit
open Go.ChangeMaps (open_string shut_string)
set_option linter.unusedVariables false

theorem own : ownKnob Try.prog.godebug = none := by kernel_rfl
theorem laidOut : laidOutB Try.prog = true := by kernel_rfl

/-- WHAT THE WALK IS TOLD OF A SLICE OF INTEGERS THAT CAME IN: it is nil; or it leads to a row of 'cap' cells, the numbers 'zs' (the first 'len' are its elements, the rest its spare room), each fitting its kind. -/
def IsRow (k : IntKind) (w : World) (a : Option Addr) (len cap : Nat) (zs : List Int) : Prop :=
  (a = none ∧ len = 0 ∧ cap = 0 ∧ zs = []) ∨
  ∃ x, a = some x ∧ len ≤ cap ∧ cap ≤ maxLen ∧ zs.length = cap ∧ (∀ i, i < zs.length → w.cell? (x.add i) = some (.int k (zs.getD i 0))) ∧ ∀ n ∈ zs, (Lit.int k n).wf = true

theorem bt {w a b : World} (h : Below w.heap.size w a) (k : Below a.heap.size a b) : Below w.heap.size w b := h.trans (k.mono h.size)
theorem bt0 {B : Nat} {w a b : World} (h : Below B w a) (hB : B ≤ w.heap.size) (k : Below a.heap.size a b) : Below B w b := h.trans (k.mono (Nat.le_trans hB h.size))

/-- Numbers in a row, each in both forms. -/
def rows : List Nat → List UInt8
  | [] => []
  | z :: l => vb z ++ wd z ++ rows l
theorem rows_snoc (l : List Nat) (z : Nat) : rows (l ++ [z]) = rows l ++ vb z ++ wd z := by
  induction l with
  | nil => simp [rows]
  | cons y l ih => simp [rows, ih, List.append_assoc]
theorem rows_append (l m : List Nat) : rows (l ++ m) = rows l ++ rows m := by
  induction l with
  | nil => simp [rows]
  | cons y l ih => simp [rows, ih, List.append_assoc]
theorem rows_len (l : List Nat) : (rows l).length ≤ 18 * l.length := by
  induction l with
  | nil => simp [rows]
  | cons y l ih =>
    have h1 := vb_len y
    have h2 := wd_len y
    simp only [rows, List.length_append, List.length_cons]; omega
theorem rows_split (ns : List Nat) (k : Nat) (hk : k < ns.length) : rows ns = rows (ns.take k) ++ (vb ns[k] ++ (wd ns[k] ++ rows (ns.drop (k + 1)))) := by
  have e : ns = ns.take k ++ (ns[k] :: ns.drop (k + 1)) := by
    rw [← List.drop_eq_getElem_cons hk, List.take_append_drop]
  have e2 : rows ns = rows (ns.take k ++ (ns[k] :: ns.drop (k + 1))) := by rw [← e]
  rw [e2, rows_append, rows, List.append_assoc]
theorem take_rows (ns : List Nat) (k : Nat) (hk : k < ns.length) : rows (ns.take (k + 1)) = rows (ns.take k) ++ vb ns[k] ++ wd ns[k] := by
  rw [List.take_succ_eq_append_getElem hk, rows_snoc]

theorem bs_app (a b : List UInt8) : bs a ++ bs b = bs (a ++ b) := by
  apply Go.WideShapes.bytes_inj
  rw [app_list]; rfl

theorem get_row (ns : List Nat) (k : Nat) (hk : k < ns.length) (hl : ns.length ≤ 40) (hn : ns[k] < 18446744073709551616) (w : World) :
    Calls Try.prog 10 #[.string (bs (rows ns)), .int .i64 (rows (ns.take k)).length] w fun e w' => e = .returned (.tuple #[.int .u64 ns[k], .int .i64 (((rows (ns.take k)).length + (vb ns[k]).length : Nat) : Int), .int .i64 0]) ∧ w' = w := by
  have hr := rows_len ns
  have hs := rows_split ns k hk
  have hz : (bs (rows ns)).size = (rows ns).length := size_bs _
  have hz2 : (rows (ns.take k)).length ≤ (rows ns).length := by rw [hs, List.length_append]; omega
  refine get_any _ _ w (by omega) _ ((rows (ns.take k)).length + (vb ns[k]).length) 0 ?_
  refine getAt_ok numb _ _ (by omega) (by omega) _ _ ?_
  rw [bs_data, hs, Int.toNat_natCast, List.drop_left]
  exact numb_vb _ _ hn
theorem getw_row (ns : List Nat) (k : Nat) (hk : k < ns.length) (hl : ns.length ≤ 40) (hn : ns[k] < 18446744073709551616) (w : World) :
    Calls Try.prog 11 #[.string (bs (rows ns)), .int .i64 (((rows (ns.take k)).length + (vb ns[k]).length : Nat) : Int)] w fun e w' => e = .returned (.tuple #[.int .u64 ns[k], .int .i64 (((rows (ns.take (k + 1))).length : Nat) : Int), .int .i64 0]) ∧ w' = w := by
  have hr := rows_len ns
  have hs := rows_split ns k hk
  have hz : (bs (rows ns)).size = (rows ns).length := size_bs _
  have hz2 : (rows (ns.take k)).length + (vb ns[k]).length ≤ (rows ns).length := by rw [hs, List.length_append, List.length_append]; omega
  have ht : (rows (ns.take (k + 1))).length = (rows (ns.take k)).length + (vb ns[k]).length + 8 := by rw [take_rows ns k hk, List.length_append, List.length_append, wd_len]
  rw [ht]
  refine getword_any _ _ w (by omega) _ ((rows (ns.take k)).length + (vb ns[k]).length + 8) 0 ?_
  refine getAt_ok getw _ _ (by omega) (by omega) _ _ ?_
  rw [bs_data, hs, Int.toNat_natCast, ← List.append_assoc, ← List.length_append, List.drop_left]
  exact getw_wd _ _ hn
theorem get_end (ns : List Nat) (hl : ns.length ≤ 40) (w : World) :
    Calls Try.prog 10 #[.string (bs (rows ns)), .int .i64 (rows ns).length] w fun e w' => e = .returned (.tuple #[.int .u64 0, .int .i64 0, .int .i64 2]) ∧ w' = w := by
  have hr := rows_len ns
  have hz : (bs (rows ns)).size = (rows ns).length := size_bs _
  refine get_any _ _ w (by omega) 0 0 2 ?_
  refine getAt_no numb _ _ (by omega) (by omega) 0 0 2 ?_ (by decide)
  rw [bs_data, Int.toNat_natCast, List.drop_of_length_le (Nat.le_refl _)]
  rfl

theorem keepS {w a b : World} {p : Addr} {v : Value} (hp : p.block < w.heap.size) (h : Below w.heap.size w a ∧ a.cell? p = some v) (k : Below a.heap.size a b) : Below w.heap.size w b ∧ b.cell? p = some v :=
  ⟨bt h.1 k, by rw [k.cell (Nat.lt_of_lt_of_le hp h.1.size)]; exact h.2⟩
theorem keepD {w a : World} {p : Addr} {v : Value} (h : Below w.heap.size w a ∧ a.cell? p = some v) : Below w.heap.size w a.drew ∧ a.drew.cell? p = some v := ⟨h.1.drew, h.2⟩
theorem block_lt {w : World} {p : Addr} {v : Value} (h : w.cell? p = some v) : p.block < w.heap.size := by
  by_cases e : p.block < w.heap.size
  · exact e
  · have hn : w.heap[p.block]? = none := Array.getElem?_eq_none (by omega)
    unfold World.cell? at h
    rw [hn] at h
    cases p.spot <;> simp at h

def R1 (ns : List Nat) (w : World) (sv iv : Value) (wr : World) : Prop := ∃ k : Nat, k ≤ ns.length ∧ iv = .int .i64 k ∧ sv = .string (bs (rows (ns.take k))) ∧ Below w.heap.size w wr
def R2 (ns : List Nat) (w : World) (av iv : Value) (wr : World) : Prop := ∃ k : Nat, k ≤ ns.length ∧ iv = .int .i64 k ∧ av = .int .i64 ((rows (ns.take k)).length : Nat) ∧ Below w.heap.size w wr

set_option maxRecDepth 100000 in
set_option maxHeartbeats 4000000 in
theorem core (a : Option Addr) (ns : List Nat) (cap : Nat) (w : World) (hl : ns.length ≤ 40) (hn : ∀ n ∈ ns, n < 18446744073709551616)
    (hx : 0 < ns.length → ∃ x, a = some x ∧ ∀ i (h : i < ns.length), w.cell? (x.add i) = some (.int .u64 ns[i])) :
    Calls Try.prog 7 #[.slice a ns.length cap] w fun e w' => e = .returned (.bool true) ∧ Below w.heap.size w w' := by
  go_enter Try.func7, Try.ntmps7
  go_wp2
  go_loopw [3, 4] (fun sv iv wr => R1 ns w sv iv wr) (fun _ iv _ => ns.length - (intOf iv).toNat)
  case atStart => exact ⟨0, by omega, rfl, by simp [rows, bs], Below.refl _ _⟩
  case round =>
    obtain ⟨k, hk, rfl, rfl, hb0⟩ := hrel
    by_cases hlt : k < ns.length
    · obtain ⟨x, rfl, hcell⟩ := hx (by omega)
      have hnk := hn ns[k] (List.getElem_mem hlt)
      have hck := hcell k hlt
      have hpb := block_lt hck
      have hput := fun w => put_any ns[k] hnk w
      have hword := fun w => word_any ns[k] hnk w
      have hS : Below w.heap.size w wr ∧ wr.cell? (x.add k) = some (.int .u64 ns[k]) := ⟨hb0, by rw [hb0.cell hpb]; exact hck⟩
      have T : Hid (rows (ns.take (k + 1)) = rows (ns.take k) ++ vb ns[k] ++ wd ns[k]) := take_rows ns k hlt
      have r1 := rows_len (ns.take k)
      rw [List.length_take] at r1
      have r2 := vb_len ns[k]
      have z1 : (bs (rows (ns.take k))).size ≤ 1000 := by rw [size_bs]; omega
      have z2 : (bs (vb ns[k])).size ≤ 10 := by rw [size_bs]; omega
      have z3 : (bs (wd ns[k])).size = 8 := by rw [size_bs, wd_len]
      clear hcell hck hn r1 r2
      have N1 : (ns[k] : Int) ≤ 18446744073709551615 := by omega
      clear hnk
      generalize ns[k] = v at *
      have hadd1 := fun W : World => run_string_add_sum (P := Try.prog) W (bs (rows (ns.take k))) (bs (vb v)) (by omega)
      have hadd2 := fun W : World => run_string_add_sum (P := Try.prog) W (bs (rows (ns.take k)) ++ bs (vb v)) (bs (wd v)) (by rw [ByteArray.size_append]; omega)
      go_wp2
      go_region_held3 (fun W => Below w.heap.size w W ∧ W.cell? (x.add k) = some (.int .u64 v)) (first | assumption | exact keepS hpb (by assumption) (by assumption) | exact keepD (by assumption) | go_keep) (first | (go_at_call 14; refine (hput _).mono ?_; rintro e w4 ⟨rfl, hb4⟩) | (go_at_call 16; refine (hword _).mono ?_; rintro e w4 ⟨rfl, hb4⟩))
      all_goals
        have hbx : Below w.heap.size w _ := And.left (by assumption)
        go_wp2
        go_roundw
        case rel => exact ⟨k + 1, by omega, by go_num, by rw [T.out, bs_app, bs_app], hbx⟩
        case measure => simp [intOf]; omega
    · obtain rfl : k = ns.length := by omega
      rw [List.take_length]
      have hz : (bs (rows ns)).size = (rows ns).length := size_bs _
      have hrl := rows_len ns
      go_wp2
      go_loopw [5, 6] (fun av iv wr => R2 ns w av iv wr) (fun _ iv _ => ns.length - (intOf iv).toNat)
      case atStart => exact ⟨0, by omega, rfl, by simp [rows], by assumption⟩
      case round =>
        obtain ⟨k, hk, rfl, rfl, hb1⟩ := hrel
        by_cases hlt : k < ns.length
        · obtain ⟨x, rfl, hcell⟩ := hx (by omega)
          have hnk := hn ns[k] (List.getElem_mem hlt)
          have hck := hcell k hlt
          have hcw : wr.cell? (x.add k) = some (.int .u64 ns[k]) := by rw [hb1.cell (block_lt hck)]; exact hck
          have g1 := fun w => get_row ns k hlt hl hnk w
          have g2 := fun w => getw_row ns k hlt hl hnk w
          have e1 : (rows (ns.take (k + 1))).length = (rows (ns.take k)).length + (vb ns[k]).length + 8 := by rw [take_rows ns k hlt, List.length_append, List.length_append, wd_len]
          have e2 := vb_len ns[k]
          have N1 : (ns[k] : Int) ≤ 18446744073709551615 := by omega
          have e4 : (rows (ns.take k)).length ≤ 1000 := by have := rows_len (ns.take k); rw [List.length_take] at this; omega
          clear hcell hck hn hnk hz hrl
          generalize hM : (rows (ns.take k)).length + (vb ns[k]).length = M at *
          generalize hE : (rows (ns.take (k + 1))).length = E at *
          generalize hA : (rows (ns.take k)).length = A at *
          have m1 : A < M := by omega
          have m2 : M < E := by omega
          have m3 : E ≤ 2000 := by omega
          have HE : Hid ((rows (ns.take (k + 1))).length = E) := hE
          clear hM hE hA e1 e2
          generalize ns[k] = v at *
          generalize bs (rows ns) = S at *
          go_wp2_with (first | (go_at_call 10; refine (g1 _).mono ?_; rintro e w' ⟨rfl, rfl⟩) | (go_at_call 11; refine (g2 _).mono ?_; rintro e w' ⟨rfl, rfl⟩) | (go_at_call 18; refine (err_z _ _ (by omega) (by omega)).mono ?_; rintro e w' ⟨rfl, rfl⟩) | go_in)
          go_roundw
          case rel => exact ⟨k + 1, by omega, by go_num, by rw [HE.out], hb1⟩
          case measure => simp [intOf]; omega
        · obtain rfl : k = ns.length := by omega
          rw [List.take_length]
          have g1 := fun w => get_end ns hl w
          generalize (rows ns).length = Z at *
          generalize bs (rows ns) = S at *
          clear hx hn
          go_wp2_with (first | (go_at_call 10; refine (g1 _).mono ?_; rintro e w' ⟨rfl, rfl⟩) | (go_at_call 18; refine (err_z _ _ (by omega) (by omega)).mono ?_; rintro e w' ⟨rfl, rfl⟩) | (go_at_call 9; refine (awake_any _).mono ?_; rintro e w' ⟨rfl, hb⟩) | go_in)
          go_ret
          exact ⟨rfl, by repeat (first | assumption | refine bt ?_ (by assumption))⟩
set_option maxRecDepth 100000 in
theorem big (a : Option Addr) (len cap : Nat) (w : World) (h : 40 < len) (hl : len ≤ 9223372036854775807) :
    Calls Try.prog 7 #[.slice a len cap] w fun e w' => e = .returned (.bool true) ∧ Below w.heap.size w w' := by
  go_enter Try.func7, Try.ntmps7
  go_wp2_with (first | (go_at_call 9; refine (awake_any _).mono ?_; rintro e w' ⟨rfl, hb⟩) | go_in)
  go_ret
  exact ⟨rfl, by assumption⟩
theorem walk (a0 : Option Addr) (len0 cap0 : Nat) (z0 : List Int) (w : World) (w0 : IsRow .u64 w a0 len0 cap0 z0) :
    Calls Try.prog 7 #[.slice a0 len0 cap0] w fun e w' => e = .returned (.bool true) ∧ Below w.heap.size w w' := by
  rcases w0 with ⟨rfl, rfl, rfl, rfl⟩ | ⟨x, rfl, h1, h2, h3, h4, h5⟩
  · exact core none [] 0 w (by simp) (by simp) (by simp)
  · unfold maxLen at h2
    by_cases h : 40 < len0
    · exact big _ _ _ w h (by omega)
    · have hlen : ((z0.take len0).map Int.toNat).length = len0 := by rw [List.length_map, List.length_take]; omega
      have hb : ∀ z ∈ z0, 0 ≤ z ∧ z ≤ 18446744073709551615 := fun z hz => bounds_u64 (h5 z hz)
      have := core (some x) ((z0.take len0).map Int.toNat) cap0 w (by omega) (by
        intro n hn
        obtain ⟨z, hz, rfl⟩ := List.mem_map.1 hn
        have := hb z (List.mem_of_mem_take hz)
        omega) (fun _ => ⟨x, rfl, fun i hi => by
        rw [hlen] at hi
        rw [h4 i (by omega)]
        have hg : z0.getD i 0 = z0[i] := by rw [List.getD_eq_getElem?_getD, List.getElem?_eq_getElem (by omega)]; rfl
        have := hb z0[i] (List.getElem_mem (by omega))
        rw [hg, List.getElem_map, List.getElem_take, Int.toNat_of_nonneg this.1]⟩)
      rw [hlen] at this
      exact this

/-! ### THE ROW's STEP: WRITTEN OUT: LEAVE IT -/
set_option maxRecDepth 100000 in
theorem lifted (os : Os) (started : os.Started) (H : Type) (enc : TypeId × Value → H) :
    ReturnsInHanded {} Try.checked os 7 .any (Rows.vintRowsSpec.pre6 enc Try.prog Try.f7 Rows.vintRowsRow.domain false) (Rows.vintRowsSpec.post enc Try.prog Try.f7 false true false false) := by
  refine returnsInHanded_of_change (C := Try.checked) own started (by kernel_rfl) Try.func7
    (ChangeSpec.witness6 (enc := enc) (C := Try.checked) false ⟨#[], #[.slice none 0 0], []⟩ 8 (by kernel_rfl) (by kernel_rfl) (by kernel_rfl) (by kernel_rfl)) ?_
  intro W base args ds gs before hval0 hW hcnd _
  have hval : ∀ (j : Nat) t v, Try.f7.params[j]? = some t → args[j]? = some v → Value.okWide Try.prog W .any base t v := hval0
  have hW' := hW
  obtain ⟨p, q, hA0, hV, rfl, hfz, hnd⟩ := hW
  have hA : DataW.TrodAll enc Try.prog W 0 (fun _ => true) true Try.f7.params.toList args.toList ds p := hA0
  rw [Try.params7] at hA hval
  obtain ⟨v0, vs0, d0, ds0, p0, q0, hargs, rfl, rfl, h0, r0⟩ := trodAll_cons hA
  obtain ⟨rfl, rfl, rfl⟩ := trodAll_nil r0
  obtain rfl : args = #[v0] := by cases args; simp_all
  obtain ⟨rfl, rfl⟩ := trodVars_none hV
  obtain ⟨a0, len0, cap0, rfl⟩ := okWide_slice Try.underlying38 (hval 0 38 v0 rfl rfl)
  have k0 := h0
  have lt0 : ∀ x ∈ p0, x.block < W.heap.size := by obtain ⟨m, hm⟩ := k0; exact DataW.trod_lt m _ _ _ hm
  obtain ⟨z0, w0⟩ : ∃ zs, IsRow .u64 W a0 len0 cap0 zs := by
    obtain ⟨fuel, hf⟩ := h0
    rcases open_ints Try.underlying38 Try.underlying22 (by kernel_rfl) hf with ⟨hcs, _⟩ | ⟨x, l, c, zs, hcs, _, hl, hm, hz, _, hcell, hwz⟩
    · simp [Value.cells] at hcs
      obtain ⟨rfl, rfl, rfl⟩ := hcs
      exact ⟨[], .inl ⟨rfl, rfl, rfl, rfl⟩⟩
    · simp [Value.cells] at hcs
      obtain ⟨rfl, rfl, rfl⟩ := hcs
      exact ⟨zs, .inr ⟨_, rfl, hl, hm, by simpa using hz, hcell, hwz⟩⟩
  clear hA0 hval0
  refine (walk a0 len0 cap0 z0 W w0).mono fun e W' ⟨he, bel⟩ => ?_
  subst he
  exact ⟨_, rfl, _, _, _, [], _, [], hW', trodAll_mk1 (shut_bool Try.underlying4 _), (trodAll_cons_mk (Below.trod laidOut (by kernel_rfl) (of_decide_eq_true (by kernel_rfl)) k0 bel lt0) trodAll_mk0), rfl, bel.frame _, fun h => by cases h⟩

theorem over : Rows.vintRowsRow.holds Try.pinned (OpenSpec.ofChange Rows.vintRowsSpec) :=
  OpenClaim.holds_of_wide 7 Try.f7 rfl rfl rfl rfl rfl rfl rfl ⟨rfl, rfl, rfl, rfl, rfl⟩ rfl rfl rfl rfl rfl (by kernel_rfl) Try.func7 (by kernel_rfl)
    (of_decide_eq_true (by kernel_rfl)) (by unfold Func.isWrapper; first | (rw [if_pos (by decide +kernel)]; kernel_rfl) | (rw [if_neg (by decide +kernel)]; exact ⟨rfl, rfl⟩))
    (fun os started H enc _ => lifted os started H enc)

/-- ████ THE STATEMENT ████ -/
theorem proved : Rows.VintRowsSaid := over
end Go.Proofs.Ytpngpilgbiddgaa.vintRows

namespace Go.Proofs.Ytpngpilgbiddgaa
theorem vintRows_holds : Rows.VintRowsSaid := vintRows.proved
#print axioms vintRows_holds
end Go.Proofs.Ytpngpilgbiddgaa
