/-
  Numbers are told again by their parts; each part is counted once: for every list.
-/
import Derived.Test.YtnnecccnoemkpaaRows
import Derived.WalkKit
import Derived.ProofKit
import Derived.OpenShut
import Derived.ShutString
import Derived.ChangeOld
import Derived.Below
import Derived.Test.YtnnecccnoemkpaaSa
import Derived.Deep.RegionWith
import Derived.Deep.QuietTactic
import Derived.BigQuiet
namespace Go.Proofs.Ytnnecccnoemkpaa.histBack
open Go.ChangeShapes Go.WideShapes Go.ChangeAt Go.RowKit
open Go.ChangeMaps (open_string shut_string)
set_option linter.unusedVariables false

theorem own : ownKnob Try.prog.godebug = none := by kernel_rfl
theorem laidOut : laidOutB Try.prog = true := by kernel_rfl

/-- WHAT THE WALK IS TOLD OF A SLICE OF INTEGERS THAT CAME IN: it is nil; or it leads to a row of 'cap' cells, the numbers 'zs' (the first 'len' are its elements, the rest its spare room), each fitting its kind. -/
def IsRow (k : IntKind) (w : World) (a : Option Addr) (len cap : Nat) (zs : List Int) : Prop :=
  (a = none ∧ len = 0 ∧ cap = 0 ∧ zs = []) ∨
  ∃ x, a = some x ∧ len ≤ cap ∧ cap ≤ maxLen ∧ zs.length = cap ∧ (∀ i, i < zs.length → w.cell? (x.add i) = some (.int k (zs.getD i 0))) ∧ ∀ n ∈ zs, (Lit.int k n).wf = true

theorem row_ri {w : World} {a : Option Addr} {len cap : Nat} {zs : List Int} (h : IsRow .i64 w a len cap zs) : len ≤ maxLen ∧ RI w a len (zs.take len) ∧ FI (zs.take len) := by
  rcases h with ⟨rfl, rfl, rfl, rfl⟩ | ⟨x, rfl, h1, h2, h3, h4, h5⟩
  · exact ⟨Nat.zero_le _, ⟨rfl, fun h => absurd h (by omega)⟩, fun z hz => by simp at hz⟩
  · refine ⟨Nat.le_trans h1 h2, ⟨by rw [List.length_take]; omega, fun _ => ⟨x, rfl, fun i hi => ?_⟩⟩, fun z hz => bounds_i64 (h5 z (List.mem_of_mem_take hz))⟩
    rw [List.length_take] at hi
    rw [h4 i (by omega), List.getD_eq_getElem?_getD, List.getElem?_eq_getElem (by omega), List.getElem_take]; rfl
theorem big (a : Option Addr) (n cap : Nat) (w : World) (h : 300 < n) (hm : n ≤ maxLen) :
    Calls Try.prog 4 #[.slice a n cap] w fun e w' => e = .returned (.bool true) ∧ Below w.heap.size w w' := by
  simp only [maxLen] at hm
  have AW := awake_any w
  go_enter Try.func4, Try.ntmps4
  go_wp2_with fail
  with_reducible refine AW.mono ?_
  rintro e w1 ⟨rfl, hb⟩
  go_wp2_with fail
  go_ret
  exact ⟨rfl, hb⟩
def BkRel (ps : List (Int × Int)) (w3 : World) (nv sv : Value) (wr : World) : Prop :=
  ∃ i, i ≤ 65 ∧ sv = .int .i64 (i : Nat) ∧ nv = .int .i64 (sm ps i : Nat) ∧ wr = w3
set_option maxRecDepth 100000 in
set_option maxHeartbeats 2000000 in
theorem core (a : Option Addr) (n cap : Nat) (zs : List Int) (w : World) (h : RI w a n zs) (hf : FI zs) (hn : n ≤ 300) :
    Calls Try.prog 4 #[.slice a n cap] w fun e w' => e = .returned (.bool true) ∧ Below w.heap.size w w' := by
  have P := parts_any a n cap zs w h hf (by omega)
  have hz := h.1
  have SP := Hid.intro (spl_vals zs hf)
  have SA := Hid.intro (spl_all zs hf)
  have SL : Hid (sm (zs.map spl) 65 = n) := by show _ = _; rw [sm_all _ (spl_class zs hf), List.length_map]; exact hz
  have SM : Hid (∀ i, sm (zs.map spl) i ≤ 300) := fun i => Nat.le_trans (sm_le _ i) (by rw [List.length_map]; omega)
  have HFP := Hid.intro (spl_fp zs hf)
  have HR := Hid.intro h
  have HZ := Hid.intro hz
  clear h hf hz
  generalize zs.map spl = ps at *
  go_enter Try.func4, Try.ntmps4
  go_wp2_with fail
  with_reducible refine P.mono ?_
  rintro e w1 ⟨v1, rfl, k1, b1⟩
  clear P
  obtain ⟨a1, cap1, rfl, _, _, r1⟩ := own_rp k1
  have V := values_any a1 n cap1 ps w1 r1 HFP.out (by omega)
  rw [SP.out, SA.out, HZ.out] at V
  go_wp2_with fail
  with_reducible refine V.mono ?_
  rintro e w2 ⟨v2, rfl, k2, b2⟩
  clear V
  obtain ⟨a2, cap2, rfl, _, _, r2⟩ := own_ri k2
  have OF := of_any a1 n cap1 ps w2 (rp_below r1 b2) (by omega)
  go_wp2_with fail
  with_reducible refine OF.mono ?_
  rintro e w3 ⟨v3, rfl, k3, b3⟩
  clear OF k1 k2
  obtain ⟨b, cap3, rfl⟩ := own_slice k3 (by decide)
  have B2 : Below w.heap.size w w2 := b1.trans (b2.mono b1.size)
  have B3 : Below w.heap.size w w3 := B2.trans (b3.mono B2.size)
  have r2' := ri_below r2 b3
  have r0' : RI w3 a n zs := ri_below HR.out B3
  clear r1 r2 b1 b2 b3 B2
  go_wp2_with fail
  go_loopw [6, 8] (fun nv sv wr => BkRel ps w3 nv sv wr) (fun _ sv _ => 65 - (intOf sv).toNat)
  case atStart => exact ⟨0, by omega, rfl, rfl, rfl⟩
  case round =>
    obtain ⟨i, hi, rfl, rfl, rfl⟩ := hrel
    have s1 := SM.out i
    have s2 := SM.out (i + 1)
    have HS : Hid (sm ps (i + 1) = sm ps i + cl ps i) := rfl
    by_cases hlt : i < 65
    · have ck : wr.cell? ⟨b, i, none⟩ = some (.int .i64 (cl ps i : Int)) := by
        rw [(own_there k3 i (by omega)).1]; unfold ivs; rw [List.getElem?_map, cnt_at _ i hlt]; rfl
      rw [HS.out] at s2
      generalize cl ps i = c at *
      generalize sm ps i = s at *
      go_wp2_with fail
      go_roundw
      case rel => exact ⟨i + 1, by omega, by go_num, by rw [HS.out]; go_num, rfl⟩
      case measure => simp [intOf]; omega
    · obtain rfl : i = 65 := by omega
      have SN := sameN_any a2 a n n cap2 cap zs zs wr r2' r0' (by omega) (by omega)
      rw [decide_eq_true rfl] at SN
      rw [SL.out] at s1 ⊢
      clear HS s2 k3
      have t0 : ((n : Int) == (n : Int)) = true := by simp
      go_wp2_with fail
      with_reducible refine SN.mono ?_
      rintro e w4 ⟨rfl, b4⟩
      have B4 : Below w.heap.size w w4 := B3.trans (b4.mono B3.size)
      have AW := awake_any w4
      clear SN b4 B3
      go_wp2_with fail
      with_reducible refine AW.mono ?_
      rintro e w5 ⟨rfl, b5⟩
      clear AW
      go_wp2_with fail
      go_ret
      exact ⟨rfl, B4.trans (b5.mono B4.size)⟩
theorem walk (a0 : Option Addr) (len0 cap0 : Nat) (z0 : List Int) (w : World) (w0 : IsRow .i64 w a0 len0 cap0 z0) :
    Calls Try.prog 4 #[.slice a0 len0 cap0] w fun e w' => e = .returned (.bool true) ∧ Below w.heap.size w w' := by
  obtain ⟨h1, h2, h3⟩ := row_ri w0
  by_cases hb : 300 < len0
  · exact big a0 len0 cap0 w hb h1
  · exact core a0 len0 cap0 _ w h2 h3 (by omega)

/-! ### THE ROW's STEP: WRITTEN OUT: LEAVE IT -/
set_option maxRecDepth 100000 in
theorem lifted (os : Os) (started : os.Started) (H : Type) (enc : TypeId × Value → H) :
    ReturnsInHanded {} Try.checked os 4 .any (Rows.histBackSpec.pre6 enc Try.prog Try.f4 Rows.histBackRow.domain false) (Rows.histBackSpec.post enc Try.prog Try.f4 false true false false) := by
  refine returnsInHanded_of_change (C := Try.checked) own started (by kernel_rfl) Try.func4
    (ChangeSpec.witness6 (enc := enc) (C := Try.checked) false ⟨#[], #[.slice none 0 0], []⟩ 8 (by kernel_rfl) (by kernel_rfl) (by kernel_rfl) (by kernel_rfl)) ?_
  intro W base args ds gs before hval0 hW hcnd _
  have hval : ∀ (j : Nat) t v, Try.f4.params[j]? = some t → args[j]? = some v → Value.okWide Try.prog W .any base t v := hval0
  have hW' := hW
  obtain ⟨p, q, hA0, hV, rfl, hfz, hnd⟩ := hW
  have hA : DataW.TrodAll enc Try.prog W 0 (fun _ => true) true Try.f4.params.toList args.toList ds p := hA0
  rw [Try.params4] at hA hval
  obtain ⟨v0, vs0, d0, ds0, p0, q0, hargs, rfl, rfl, h0, r0⟩ := trodAll_cons hA
  obtain ⟨rfl, rfl, rfl⟩ := trodAll_nil r0
  obtain rfl : args = #[v0] := by cases args; simp_all
  obtain ⟨rfl, rfl⟩ := trodVars_none hV
  obtain ⟨a0, len0, cap0, rfl⟩ := okWide_slice Try.underlying22 (hval 0 22 v0 rfl rfl)
  have k0 := h0
  have lt0 : ∀ x ∈ p0, x.block < W.heap.size := by obtain ⟨m, hm⟩ := k0; exact DataW.trod_lt m _ _ _ hm
  obtain ⟨z0, w0⟩ : ∃ zs, IsRow .i64 W a0 len0 cap0 zs := by
    obtain ⟨fuel, hf⟩ := h0
    rcases open_ints Try.underlying22 Try.underlying2 (by kernel_rfl) hf with ⟨hcs, _⟩ | ⟨x, l, c, zs, hcs, _, hl, hm, hz, _, hcell, hwz⟩
    · simp [Value.cells] at hcs
      obtain ⟨rfl, rfl, rfl⟩ := hcs
      exact ⟨[], .inl ⟨rfl, rfl, rfl, rfl⟩⟩
    · simp [Value.cells] at hcs
      obtain ⟨rfl, rfl, rfl⟩ := hcs
      exact ⟨zs, .inr ⟨_, rfl, hl, hm, by simpa using hz, hcell, hwz⟩⟩
  clear hA0 hval0
  refine (walk a0 len0 cap0 z0 W w0).mono fun e W' ⟨he, bel⟩ => ?_
  subst he
  exact ⟨_, rfl, _, _, _, [], _, [], hW', trodAll_mk1 (shut_bool Try.underlying4 _), (trodAll_cons_mk (Below.trod laidOut (by kernel_rfl) (of_decide_eq_true (by kernel_rfl)) k0 bel lt0) trodAll_mk0), rfl, bel.frame _, fun h => by cases h⟩

theorem over : Rows.histBackRow.holds Try.pinned (OpenSpec.ofChange Rows.histBackSpec) :=
  OpenClaim.holds_of_wide 4 Try.f4 rfl rfl rfl rfl rfl rfl rfl ⟨rfl, rfl, rfl, rfl, rfl⟩ rfl rfl rfl rfl rfl (by kernel_rfl) Try.func4 (by kernel_rfl)
    (of_decide_eq_true (by kernel_rfl)) (by unfold Func.isWrapper; first | (rw [if_pos (by decide +kernel)]; kernel_rfl) | (rw [if_neg (by decide +kernel)]; exact ⟨rfl, rfl⟩))
    (fun os started H enc _ => lifted os started H enc)

/-- ████ THE STATEMENT ████ -/
theorem proved : Rows.HistBackSaid := over
end Go.Proofs.Ytnnecccnoemkpaa.histBack

namespace Go.Proofs.Ytnnecccnoemkpaa
theorem histBack_holds : Rows.HistBackSaid := histBack.proved
#print axioms histBack_holds
end Go.Proofs.Ytnnecccnoemkpaa
