/-
  What is ordered falls, of two alike the lesser place first; all above nought are there, once: for every list.
-/
import Derived.Test.YtnnecccnoemkpaaRows
import Derived.WalkKit
import Derived.ProofKit
import Derived.OpenShut
import Derived.ShutString
import Derived.ChangeOld
import Derived.Below
import Derived.Test.YtnnecccnoemkpaaAw
import Derived.Deep.RegionWith
import Derived.Deep.QuietTactic
import Derived.BigQuiet
namespace Go.Proofs.Ytnnecccnoemkpaa.histOrder
open Go.ChangeShapes Go.WideShapes Go.ChangeAt Go.RowKit
open Go.ChangeMaps (open_string shut_string)
set_option linter.unusedVariables false

theorem own : ownKnob Try.prog.godebug = none := by kernel_rfl
theorem laidOut : laidOutB Try.prog = true := by kernel_rfl

/-- WHAT THE WALK IS TOLD OF A SLICE OF INTEGERS THAT CAME IN: it is nil; or it leads to a row of 'cap' cells, the numbers 'zs' (the first 'len' are its elements, the rest its spare room), each fitting its kind. -/
def IsRow (k : IntKind) (w : World) (a : Option Addr) (len cap : Nat) (zs : List Int) : Prop :=
  (a = none ∧ len = 0 ∧ cap = 0 ∧ zs = []) ∨
  ∃ x, a = some x ∧ len ≤ cap ∧ cap ≤ maxLen ∧ zs.length = cap ∧ (∀ i, i < zs.length → w.cell? (x.add i) = some (.int k (zs.getD i 0))) ∧ ∀ n ∈ zs, (Lit.int k n).wf = true

def ins (n : Nat) (l : List Nat) : List Int := (List.range n).map (fun p => if p ∈ l then 1 else 0)
theorem ins_len (n : Nat) (l : List Nat) : (ins n l).length = n := by simp [ins]
theorem ins_at (n : Nat) (l : List Nat) (p : Nat) (h : p < n) : (ins n l)[p]? = some (if p ∈ l then 1 else 0) := by
  unfold ins; rw [List.getElem?_map, List.getElem?_range h]; rfl
theorem ins_nil (n : Nat) : ins n [] = List.replicate n 0 := by
  unfold ins; simp [List.map_const']
theorem ins_step (n : Nat) (l : List Nat) (p : Nat) (h : p < n) : (ins n l).set p 1 = ins n (l ++ [p]) := by
  apply List.ext_getElem?
  intro i
  by_cases hi : i < n
  · rw [ins_at _ _ i hi, List.getElem?_set, ins_len]
    by_cases e : p = i
    · subst e; simp [h]
    · rw [if_neg e, ins_at _ _ i hi]
      have : ¬ i = p := fun h => e h.symm
      simp [this]
  · rw [List.getElem?_eq_none (by rw [List.length_set, ins_len]; omega), List.getElem?_eq_none (by rw [ins_len]; omega)]
theorem row_ri {w : World} {a : Option Addr} {len cap : Nat} {zs : List Int} (h : IsRow .i64 w a len cap zs) : len ≤ maxLen ∧ RI w a len (zs.take len) ∧ FI (zs.take len) := by
  rcases h with ⟨rfl, rfl, rfl, rfl⟩ | ⟨x, rfl, h1, h2, h3, h4, h5⟩
  · exact ⟨Nat.zero_le _, ⟨rfl, fun h => absurd h (by omega)⟩, fun z hz => by simp at hz⟩
  · refine ⟨Nat.le_trans h1 h2, ⟨by rw [List.length_take]; omega, fun _ => ⟨x, rfl, fun i hi => ?_⟩⟩, fun z hz => bounds_i64 (h5 z (List.mem_of_mem_take hz))⟩
    rw [List.length_take] at hi
    rw [h4 i (by omega), List.getD_eq_getElem?_getD, List.getElem?_eq_getElem (by omega), List.getElem_take]; rfl
def L1 (n : Nat) (o : List Nat) (w1 : World) (sv : Value) (wr : World) : Prop :=
  ∃ i, i ≤ o.length ∧ sv = .int .i64 (i : Nat) ∧ wr.ownsRow w1.heap.size 3 1 (.slice (some ⟨w1.heap.size, 0, none⟩) n n) n (ivs (ins n (o.take i))) ∧ Below w1.heap.size w1 wr
def L2 (n : Nat) (o : List Nat) (w1 : World) (sv : Value) (wr : World) : Prop :=
  ∃ i, i ≤ n ∧ sv = .int .i64 (i : Nat) ∧ wr.ownsRow w1.heap.size 3 1 (.slice (some ⟨w1.heap.size, 0, none⟩) n n) n (ivs (ins n o)) ∧ Below w1.heap.size w1 wr
theorem big (a : Option Addr) (n cap : Nat) (w : World) (h : 200 < n) (hm : n ≤ maxLen) :
    Calls Try.prog 5 #[.slice a n cap] w fun e w' => e = .returned (.bool true) ∧ Below w.heap.size w w' := by
  simp only [maxLen] at hm
  have AW := awake_any w
  go_enter Try.func5, Try.ntmps5
  go_wp2_with fail
  with_reducible refine AW.mono ?_
  rintro e w1 ⟨rfl, hb⟩
  go_wp2_with fail
  go_ret
  exact ⟨rfl, hb⟩
theorem nis_at (o : List Nat) (i : Nat) (h : i < o.length) : (nis o)[i]? = some (.int .i64 (o[i] : Int)) := by simp [nis, ivs, iv, h]
set_option maxRecDepth 100000 in
set_option maxHeartbeats 4000000 in
theorem core (a : Option Addr) (n cap : Nat) (f : List Int) (w : World) (h : RI w a n f) (hf : FI f) (hn : n ≤ 200) :
    Calls Try.prog 5 #[.slice a n cap] w fun e w' => e = .returned (.bool true) ∧ Below w.heap.size w w' := by
  have OR := order_any a n cap f w h hf (by omega)
  go_enter Try.func5, Try.ntmps5
  go_wp2_with fail
  with_reducible refine OR.mono ?_
  rintro e w1 ⟨v, o, rfl, ho, k1, k2⟩
  obtain ⟨ap, capv, rfl, _, _, hr⟩ := own_ri k1
  have hol : o.length ≤ 200 := by rw [ho.1.length_eq]; exact Nat.le_trans (places_le f n) hn
  have mk := make_ints 24 3 Try.underlying24 info3 n (by omega) w1
  have ow := own_made_ints w1 3 n (by omega)
  rw [← ins_nil] at ow
  have bl : Below w1.heap.size w1 (w1.alloc (.cells (madeCells #[.int .i64 0] n) 3)) := (Below.refl _ _).alloc (Nat.le_refl _) _
  have H := Hid.intro h
  have HF := Hid.intro hf
  have HO := Hid.intro ho
  clear OR h hf ho k1
  go_wp2_with fail
  generalize w1.alloc (.cells (madeCells #[.int .i64 0] n) 3) = w2 at *
  go_loopw [5] (fun sv wr => L1 n o w1 sv wr) (fun sv _ => o.length - (intOf sv).toNat)
  case atStart => exact ⟨0, by omega, rfl, ow, bl⟩
  case round =>
    clear mk ow bl
    obtain ⟨i, hi, rfl, d1, d2⟩ := hrel
    have d0 : Below w.heap.size w wr := k2.trans (d2.mono k2.size)
    by_cases hlt : i < o.length
    · have mem : ∀ j (hj : j < o.length), o[j] < n ∧ 0 < fr f o[j] := fun j hj => (ordered_mem HO.out _).1 (List.getElem_mem hj)
      obtain ⟨x, rfl, hx⟩ := hr.2 (by omega)
      obtain ⟨y, rfl, hy⟩ := H.out.2 (by have := (mem i hlt).1; omega)
      have hfl := H.out.1
      have cl : ∀ j (hj : j < o.length), wr.cell? (x.add j) = some (.int .i64 (o[j] : Int)) := fun j hj => by
        have := hx j (by simpa using hj)
        rw [d2.cell (World.block_lt_of_cell? _ _ this), this]; simp
      have cf : ∀ p, p < n → wr.cell? (y.add p) = some (.int .i64 (fr f p)) := fun p hp => by
        have := hy p (by omega)
        rw [d0.cell (World.block_lt_of_cell? _ _ this), this, fr_at f p (by omega)]
      have np : o[i] ∉ o.take i := fun hm => by
        obtain ⟨j, hj, e⟩ := List.getElem_of_mem hm
        rw [List.length_take] at hj
        rw [List.getElem_take] at e
        have := List.pairwise_iff_getElem.1 (ordered_nodup HO.out) j i (by omega) hlt (by omega)
        exact this e
      have ci := cl i hlt
      obtain ⟨hpn, hpp⟩ := mem i hlt
      have cp := cf _ hpn
      have cz : wr.cell? ⟨w1.heap.size, o[i], none⟩ = some (.int .i64 0) := by
        rw [(own_there d1 o[i] (by omega)).1]; unfold ivs; rw [List.getElem?_map, ins_at _ _ _ hpn, if_neg np]; rfl
      have fz := (own_there d1 o[i] (by omega)).2.2
      have O1 : Hid (∀ k, ((wr.drewN k).setCell ⟨w1.heap.size, o[i], none⟩ (.int .i64 1)).ownsRow w1.heap.size 3 1 (.slice (some ⟨w1.heap.size, 0, none⟩) n n) n (ivs (ins n (o.take (i + 1))))) := fun k => by
        have o1 := own_set (own_kept (S := fun _ => False) d1 (drewN_chg wr k) (fun _ _ h => h)) o[i] (.int .i64 1)
        rw [ivs_set, ins_step _ _ _ hpn, ← take_snoc o i hlt] at o1
        exact o1
      have B1 : Hid (∀ k, Below w1.heap.size w1 ((wr.drewN k).setCell ⟨w1.heap.size, o[i], none⟩ (.int .i64 1))) := fun k => (below_drewN d2 k).setCell (Nat.le_refl _) _
      by_cases hi0 : i = 0
      · subst hi0
        rw [show x.add 0 = x from rfl] at ci
        generalize o[0] = p at *
        generalize fr f p = z at *
        have t1 : decide ((p : Int) < 0) = false := by simp
        have t2 : decide (n ≤ p) = false := by simp; omega
        clear cl cf mem hx hy np d1
        go_wp2_with fail
        simp only [List.append]
        refine wp_region_quiet_lit (by kernel_rfl) (by kernel_rfl) ?_
        repeat (go_big_quiet_step (fail))
        refine wpQuiet_nil ?_
        intro _ hw'
        obtain ⟨nq, hw''⟩ := hw'
        subst hw''
        clear t1 t2
        go_wp2_with fail
        go_roundw
        case rel => exact ⟨_, hlt, by go_num, O1.out nq, B1.out nq⟩
        case measure => simp [intOf]; omega
      · obtain ⟨j, hj⟩ : ∃ j, j + 1 = i := ⟨i - 1, by omega⟩
        have hji : (i : Int) - 1 = (j : Int) := by omega
        have hjl : j < o.length := by omega
        have nl := List.pairwise_iff_getElem.1 HO.out.2 j i (by omega) hlt (by omega)
        have hi1 : 0 < i := by omega
        clear hj hi0
        have cj := cl j (by omega)
        obtain ⟨hqn, hqp⟩ := mem j (by omega)
        have cq := cf _ hqn
        unfold ltf at nl
        generalize o[i] = p at *
        generalize o[j] = q at *
        have t1 : decide ((p : Int) < 0) = false := by simp
        have t2 : decide (n ≤ p) = false := by simp; omega
        have t3 : decide (fr f q < fr f p) = false := by simp; omega
        by_cases he : fr f p = fr f q
        · have t4 : (fr f p == fr f q) = true := by simp [he]
          have t5 : decide (p < q) = false := by simp; omega
          generalize fr f p = z at *
          generalize fr f q = z' at *
          clear cl cf mem hx hy np d1 nl he
          go_wp2_with fail
          simp only [List.append]
          refine wp_region_quiet_lit (by kernel_rfl) (by kernel_rfl) ?_
          repeat (go_big_quiet_step (fail))
          refine wpQuiet_nil ?_
          intro _ hw'
          obtain ⟨nq, hw''⟩ := hw'
          subst hw''
          clear t1 t2 t3 t4 t5
          go_wp2_with fail
          go_roundw
          case rel => exact ⟨_, hlt, by go_num, O1.out nq, B1.out nq⟩
          case measure => simp [intOf]; omega
        · have t4 : (fr f p == fr f q) = false := by simp [he]
          generalize fr f p = z at *
          generalize fr f q = z' at *
          clear cl cf mem hx hy np d1 nl he
          go_wp2_with fail
          simp only [List.append]
          refine wp_region_quiet_lit (by kernel_rfl) (by kernel_rfl) ?_
          repeat (go_big_quiet_step (fail))
          refine wpQuiet_nil ?_
          intro _ hw'
          obtain ⟨nq, hw''⟩ := hw'
          subst hw''
          clear t1 t2 t3 t4
          go_wp2_with fail
          go_roundw
          case rel => exact ⟨_, hlt, by go_num, O1.out nq, B1.out nq⟩
          case measure => simp [intOf]; omega
    · obtain rfl : i = o.length := by omega
      rw [List.take_length] at d1
      have LL : Hid (L2 n o w1 (.int .i64 0) wr) := ⟨0, by omega, rfl, d1, d2⟩
      clear d1 d2 d0 hlt hi
      go_wp2_with fail
      go_loopw [6] (fun sv wr => L2 n o w1 sv wr) (fun sv _ => n - (intOf sv).toNat)
      case atStart => exact LL.out
      case round =>
        clear LL
        obtain ⟨i, hi, rfl, d1, d2⟩ := hrel
        have d0 : Below w.heap.size w wr := k2.trans (d2.mono k2.size)
        by_cases hlt : i < n
        · obtain ⟨y, rfl, hy⟩ := H.out.2 (by omega)
          have hfl := H.out.1
          have ci : wr.cell? (y.add i) = some (.int .i64 (fr f i)) := by
            have := hy i (by omega)
            rw [d0.cell (World.block_lt_of_cell? _ _ this), this, fr_at f i (by omega)]
          have cz : wr.cell? ⟨w1.heap.size, i, none⟩ = some (.int .i64 (if i ∈ o then 1 else 0)) := by
            rw [(own_there d1 i (by omega)).1]; unfold ivs; rw [List.getElem?_map, ins_at _ _ _ hlt]; rfl
          have om := ordered_mem HO.out i
          have O1 : Hid (∀ k, (wr.drewN k).ownsRow w1.heap.size 3 1 (.slice (some ⟨w1.heap.size, 0, none⟩) n n) n (ivs (ins n o))) := fun k => own_kept (S := fun _ => False) d1 (drewN_chg wr k) (fun _ _ h => h)
          have B1 : Hid (∀ k, Below w1.heap.size w1 (wr.drewN k)) := fun k => below_drewN d2 k
          by_cases hz : 0 < fr f i
          · rw [if_pos (om.2 ⟨hlt, hz⟩)] at cz
            have t1 : decide (0 < fr f i) = true := by simp [hz]
            generalize fr f i = z at *
            clear hy om d1 hz
            go_wp2_with fail
            go_quiet (fail)
            clear t1
            go_wp2_with fail
            go_roundw
            case rel => exact ⟨i + 1, hlt, by go_num, O1.out nq, B1.out nq⟩
            case measure => simp [intOf]; omega
          · rw [if_neg (fun hm => hz (om.1 hm).2)] at cz
            have t1 : decide (0 < fr f i) = false := by simp; omega
            generalize fr f i = z at *
            clear hy om d1 hz
            go_wp2_with fail
            go_quiet (fail)
            clear t1
            go_wp2_with fail
            go_roundw
            case rel => exact ⟨i + 1, hlt, by go_num, O1.out nq, B1.out nq⟩
            case measure => simp [intOf]; omega
        · have AW := awake_any wr
          clear d1 d2
          go_wp2_with fail
          with_reducible refine AW.mono ?_
          rintro e w9 ⟨rfl, hb9⟩
          clear AW
          go_wp2_with fail
          go_ret
          exact ⟨rfl, d0.trans (hb9.mono d0.size)⟩
theorem walk (a0 : Option Addr) (len0 cap0 : Nat) (z0 : List Int) (w : World) (w0 : IsRow .i64 w a0 len0 cap0 z0) :
    Calls Try.prog 5 #[.slice a0 len0 cap0] w fun e w' => e = .returned (.bool true) ∧ Below w.heap.size w w' := by
  obtain ⟨h1, h2, h3⟩ := row_ri w0
  by_cases hb : 200 < len0
  · exact big a0 len0 cap0 w hb h1
  · exact core a0 len0 cap0 _ w h2 h3 (by omega)

/-! ### THE ROW's STEP: WRITTEN OUT: LEAVE IT -/
set_option maxRecDepth 100000 in
theorem lifted (os : Os) (started : os.Started) (H : Type) (enc : TypeId × Value → H) :
    ReturnsInHanded {} Try.checked os 5 .any (Rows.histOrderSpec.pre6 enc Try.prog Try.f5 Rows.histOrderRow.domain false) (Rows.histOrderSpec.post enc Try.prog Try.f5 false true false false) := by
  refine returnsInHanded_of_change (C := Try.checked) own started (by kernel_rfl) Try.func5
    (ChangeSpec.witness6 (enc := enc) (C := Try.checked) false ⟨#[], #[.slice none 0 0], []⟩ 8 (by kernel_rfl) (by kernel_rfl) (by kernel_rfl) (by kernel_rfl)) ?_
  intro W base args ds gs before hval0 hW hcnd _
  have hval : ∀ (j : Nat) t v, Try.f5.params[j]? = some t → args[j]? = some v → Value.okWide Try.prog W .any base t v := hval0
  have hW' := hW
  obtain ⟨p, q, hA0, hV, rfl, hfz, hnd⟩ := hW
  have hA : DataW.TrodAll enc Try.prog W 0 (fun _ => true) true Try.f5.params.toList args.toList ds p := hA0
  rw [Try.params5] at hA hval
  obtain ⟨v0, vs0, d0, ds0, p0, q0, hargs, rfl, rfl, h0, r0⟩ := trodAll_cons hA
  obtain ⟨rfl, rfl, rfl⟩ := trodAll_nil r0
  obtain rfl : args = #[v0] := by cases args; simp_all
  obtain ⟨rfl, rfl⟩ := trodVars_none hV
  obtain ⟨a0, len0, cap0, rfl⟩ := okWide_slice Try.underlying24 (hval 0 24 v0 rfl rfl)
  have k0 := h0
  have lt0 : ∀ x ∈ p0, x.block < W.heap.size := by obtain ⟨m, hm⟩ := k0; exact DataW.trod_lt m _ _ _ hm
  obtain ⟨z0, w0⟩ : ∃ zs, IsRow .i64 W a0 len0 cap0 zs := by
    obtain ⟨fuel, hf⟩ := h0
    rcases open_ints Try.underlying24 Try.underlying3 (by kernel_rfl) hf with ⟨hcs, _⟩ | ⟨x, l, c, zs, hcs, _, hl, hm, hz, _, hcell, hwz⟩
    · simp [Value.cells] at hcs
      obtain ⟨rfl, rfl, rfl⟩ := hcs
      exact ⟨[], .inl ⟨rfl, rfl, rfl, rfl⟩⟩
    · simp [Value.cells] at hcs
      obtain ⟨rfl, rfl, rfl⟩ := hcs
      exact ⟨zs, .inr ⟨_, rfl, hl, hm, by simpa using hz, hcell, hwz⟩⟩
  clear hA0 hval0
  refine (walk a0 len0 cap0 z0 W w0).mono fun e W' ⟨he, bel⟩ => ?_
  subst he
  exact ⟨_, rfl, _, _, _, [], _, [], hW', trodAll_mk1 (shut_bool Try.underlying4 _), (trodAll_cons_mk (Below.trod laidOut (by kernel_rfl) (of_decide_eq_true (by kernel_rfl)) k0 bel lt0) trodAll_mk0), rfl, bel.frame _, fun h => by cases h⟩

theorem over : Rows.histOrderRow.holds Try.pinned (OpenSpec.ofChange Rows.histOrderSpec) :=
  OpenClaim.holds_of_wide 5 Try.f5 rfl rfl rfl rfl rfl rfl rfl ⟨rfl, rfl, rfl, rfl, rfl⟩ rfl rfl rfl rfl rfl (by kernel_rfl) Try.func5 (by kernel_rfl)
    (of_decide_eq_true (by kernel_rfl)) (by unfold Func.isWrapper; first | (rw [if_pos (by decide +kernel)]; kernel_rfl) | (rw [if_neg (by decide +kernel)]; exact ⟨rfl, rfl⟩))
    (fun os started H enc _ => lifted os started H enc)

/-- ████ THE STATEMENT ████ -/
theorem proved : Rows.HistOrderSaid := over
end Go.Proofs.Ytnnecccnoemkpaa.histOrder

namespace Go.Proofs.Ytnnecccnoemkpaa
theorem histOrder_holds : Rows.HistOrderSaid := histOrder.proved
#print axioms histOrder_holds
end Go.Proofs.Ytnnecccnoemkpaa
