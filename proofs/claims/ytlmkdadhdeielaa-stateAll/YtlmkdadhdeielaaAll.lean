/-
  Whatever comes, in whatever pieces: the sum behind each, and how many bytes came, are the reference's: for every seed and row of texts.
-/
import Derived.Test.YtlmkdadhdeielaaRows
import Derived.WalkKit
import Derived.ProofKit
import Derived.OpenShut
import Derived.ShutString
import Derived.ChangeOld
import Derived.Below
import Derived.SliceStrings
import Derived.Test.YtlmkdadhdeielaaOw
import Derived.Deep.RegionWith
import Derived.Deep.QuietTactic
import Derived.BigQuiet
import Derived.Test.YtlmkdadhdeielaaRefS
import Derived.SliceStrings
namespace Go.Proofs.Ytlmkdadhdeielaa.stateAll
open Go.ChangeShapes Go.WideShapes Go.ChangeAt Go.RowKit
open Go.ChangeMaps (open_string shut_string)
set_option linter.unusedVariables false

theorem own : ownKnob Try.prog.godebug = none := by kernel_rfl
theorem laidOut : laidOutB Try.prog = true := by kernel_rfl

/-- A slice of strings that came in: it is nil; or it leads to a row of 'cap' cells, the strings 'ss'. -/
def IsStrs (w : World) (a : Option Addr) (len cap : Nat) (ss : List ByteArray) : Prop :=
  (a = none ∧ len = 0 ∧ cap = 0 ∧ ss = []) ∨
  ∃ x, a = some x ∧ len ≤ cap ∧ cap ≤ maxLen ∧ ss.length = cap ∧ (∀ i, i < ss.length → w.cell? (x.add i) = some (.string (ss.getD i ByteArray.empty))) ∧ ∀ s ∈ ss, s.size ≤ maxLen

def LRel (w : World) (A seed n : Nat) (sv iv : Value) (wr : World) : Prop :=
  ∃ (i : Nat) (s : ByteArray), i ≤ n ∧ iv = .int .i64 i ∧ sv = .string s ∧ s.size ≤ 500 * i ∧ I1 w A seed s.data.toList wr
theorem app_list (s p : ByteArray) : (s ++ p).data.toList = s.data.toList ++ p.data.toList := by rw [ByteArray.data_append, Array.toList_append]
theorem i1_ref {w V : World} {A seed : Nat} {l : List UInt8} (h : I1 w A seed l V) (hseed : seed < 18446744073709551616) (s : ByteArray) (hs : s.size ≤ 20000) :
    Calls Try.prog 10 #[.int .u64 seed, .string s] V fun e V' => e = .returned (.int .u64 (sum seed s.data.toList : Nat)) ∧ I1 w A seed l V' := by
  refine (refSum_any seed hseed s hs V).mono ?_
  rintro e V' ⟨rfl, h1⟩
  exact ⟨rfl, i1_below h h1⟩
theorem i1_sum' {w V : World} {A seed : Nat} {l : List UInt8} (h : I1 w A seed l V) (hl : l.length ≤ 1000000) :
    Calls Try.prog 9 #[ptr A] V fun e V' => e = .returned (.int .u64 (sum seed l : Nat)) ∧ I1 w A seed l V' := by
  refine (st_sum h.1 hl).mono ?_
  rintro e V' ⟨rfl, h1⟩
  exact ⟨rfl, i1_below h h1⟩
theorem ne_self (y : Nat) : ((y : Int) != (y : Int)) = false := by simp

set_option maxRecDepth 100000 in
set_option maxHeartbeats 1000000 in
theorem core (seed : Nat) (x : Option Addr) (n cap : Nat) (z : List ByteArray) (hseed : seed < 18446744073709551616) (w : World) (hr : IsStrs w x n cap z) :
    Calls Try.prog 3 #[.int .u64 seed, .slice x n cap] w fun e w' => e = .returned (.bool true) ∧ Below w.heap.size w w' := by
  have hmax : n ≤ 9223372036854775807 := by
    rcases hr with ⟨_, h, _, _⟩ | ⟨_, _, h1, h2, _⟩
    · omega
    · unfold maxLen at h2; omega
  have N1 := i1_new (Below.refl w.heap.size w) seed hseed
  unfold ptr at N1
  by_cases hl : 30 < n
  · have aw := fun (V : World) (h : Below w.heap.size w V) => awake_own h
    go_enter Try.func3, Try.ntmps3
    go_wp2_with fail
    refine N1.mono ?_
    rintro e w1 ⟨rfl, h1, h2⟩
    have D := aw _ h1.2.2
    clear aw h1 h2 N1
    go_wp2_with fail
    refine D.mono ?_
    rintro e w2 ⟨rfl, hb⟩
    replace hb := hidI hb
    go_wp2
    go_ret
    exact ⟨rfl, hb.out⟩
  go_enter Try.func3, Try.ntmps3
  go_wp2_with fail
  refine N1.mono ?_
  rintro e w1 ⟨rfl, h1, h2⟩
  have HJ := hidI h1
  clear N1 h1 h2
  go_wp2_with fail
  go_loopw [6, 7] (fun sv iv wr => LRel w w.heap.size seed n sv iv wr) (fun _ iv _ => n - (intOf iv).toNat)
  case atStart => exact ⟨0, ⟨#[]⟩, Nat.zero_le _, rfl, rfl, Nat.zero_le _, HJ.out⟩
  case round =>
    clear HJ
    obtain ⟨i, s, hi, rfl, rfl, hs, J⟩ := hrel
    by_cases hlt : i < n
    · obtain ⟨x, rfl, p, hp, hcell, hxb⟩ : ∃ y, x = some y ∧ ∃ p : ByteArray, p.size ≤ maxLen ∧ w.cell? (y.add i) = some (.string p) ∧ (y.add i).block < w.heap.size := by
        rcases hr with ⟨_, h, _, _⟩ | ⟨y, rfl, h1, h2, h3, h4, h5⟩
        · omega
        · have hz : i < z.length := by omega
          have hcel := h4 i hz
          exact ⟨y, rfl, z.getD i ByteArray.empty, h5 _ (by rw [List.getD_eq_getElem?_getD, List.getElem?_eq_getElem hz]; exact List.getElem_mem hz), hcel, World.block_lt_of_cell? _ _ hcel⟩
      clear hr
      unfold maxLen at hp
      have c0 : wr.cell? (x.add i) = some (.string p) := by rw [J.2.2.cell hxb]; exact hcell
      by_cases hp5 : 500 < p.size
      · have aw := awake_own J.2.2
        clear J
        go_wp2_with fail
        refine aw.mono ?_
        rintro e w5 ⟨rfl, hb⟩
        replace hb := hidI hb
        go_wp2
        go_ret
        exact ⟨rfl, hb.out⟩
      · have hsl := len_data s
        have hsp : (s ++ p).size = s.size + p.size := by rw [← len_data, app_list, List.length_append, len_data, len_data]
        have C8 := i1_write J p (by rw [hsl]; omega) (s ++ p).data.toList (by rw [app_list])
        have HF := fun (V : World) (h : I1 w w.heap.size seed (s ++ p).data.toList V) => And.intro (i1_sum' h (by rw [len_data, hsp]; omega)) (And.intro (i1_ref h hseed (s ++ p) (by rw [hsp]; omega)) (i1_len h))
        rw [len_data] at HF
        have HC := fun (V : World) (h : I1 w w.heap.size seed (s ++ p).data.toList V) => (h.2.2.cell hxb).trans hcell
        have hadd := fun W : World => run_string_add_sum (P := Try.prog) W s p (by omega)
        have hnew : (s ++ p).size ≤ 500 * (i + 1) := by rw [hsp]; omega
        clear hcell J
        obtain ⟨T, hT⟩ : ∃ T, s ++ p = T := ⟨_, rfl⟩
        rw [hT] at C8 HF HC hadd hnew
        clear hT hsp
        generalize sum seed T.data.toList = y at *
        have ne1 := ne_self y
        have ne2 := ne_self T.size
        replace HF := fun (_ : Unit) => HF
        replace HC := fun (_ : Unit) => HC
        unfold ptr at C8 HF
        go_wp2_with fail
        refine C8.mono ?_
        rintro e w5 ⟨rfl, J, _⟩
        have c1 := HC () _ J
        have D := (HF () _ J).1
        clear C8 J c0
        go_wp2_with fail
        refine D.mono ?_
        rintro e w6 ⟨rfl, J⟩
        have D := (HF () _ J).2.1
        clear J c1
        go_wp2_with fail
        refine D.mono ?_
        rintro e w7 ⟨rfl, J⟩
        have D := (HF () _ J).2.2
        have D9 := (HF () _ J).1
        clear J
        go_wp2_with fail
        refine D.mono ?_
        rintro e w8 ⟨rfl, h8⟩
        subst h8
        clear D
        go_wp2_with fail
        refine D9.mono ?_
        rintro e w9 ⟨rfl, J⟩
        have D := (HF () _ J).2.1
        clear J D9
        go_wp2_with fail
        refine D.mono ?_
        rintro e w10 ⟨rfl, J⟩
        replace J := hidI J
        clear D HF HC
        go_wp2
        go_roundw
        case rel => exact ⟨i + 1, T, by omega, by go_num, rfl, hnew, J.out⟩
        case measure => simp [intOf]; omega
    · have aw := awake_own J.2.2
      clear J hr
      go_wp2_with fail
      refine aw.mono ?_
      rintro e w5 ⟨rfl, hb⟩
      replace hb := hidI hb
      go_wp2
      go_ret
      exact ⟨rfl, hb.out⟩

theorem walk (a0 : Int) (a1 : Option Addr) (len1 cap1 : Nat) (z1 : List ByteArray) (w : World) (w0 : (Lit.int .u64 a0).wf = true) (w1 : IsStrs w a1 len1 cap1 z1) :
    Calls Try.prog 3 #[.int .u64 a0, .slice a1 len1 cap1] w fun e w' => e = .returned (.bool true) ∧ Below w.heap.size w w' := by
  have hx := bounds_u64 w0
  obtain ⟨a, rfl⟩ := Int.eq_ofNat_of_zero_le hx.1
  exact core a a1 len1 cap1 z1 (by omega) w w1

/-! ### THE ROW's STEP: WRITTEN OUT: LEAVE IT -/
set_option maxRecDepth 100000 in
theorem lifted (os : Os) (started : os.Started) (H : Type) (enc : TypeId × Value → H) :
    ReturnsInHanded {} Try.checked os 3 .any (Rows.stateAllSpec.pre6 enc Try.prog Try.f3 Rows.stateAllRow.domain false) (Rows.stateAllSpec.post enc Try.prog Try.f3 false true false false) := by
  refine returnsInHanded_of_change (C := Try.checked) own started (by kernel_rfl) Try.func3
    (ChangeSpec.witness6 (enc := enc) (C := Try.checked) false ⟨#[], #[.int .u64 0, .slice none 0 0], []⟩ 8 (by kernel_rfl) (by kernel_rfl) (by kernel_rfl) (by kernel_rfl)) ?_
  intro W base args ds gs before hval0 hW hcnd _
  have hval : ∀ (j : Nat) t v, Try.f3.params[j]? = some t → args[j]? = some v → Value.okWide Try.prog W .any base t v := hval0
  have hW' := hW
  obtain ⟨p, q, hA0, hV, rfl, hfz, hnd⟩ := hW
  have hA : DataW.TrodAll enc Try.prog W 0 (fun _ => true) true Try.f3.params.toList args.toList ds p := hA0
  rw [Try.params3] at hA hval
  obtain ⟨v0, vs0, d0, ds0, p0, q0, hargs, rfl, rfl, h0, r0⟩ := trodAll_cons hA
  obtain ⟨v1, vs1, d1, ds1, p1, q1, rfl, rfl, rfl, h1, r1⟩ := trodAll_cons r0
  obtain ⟨rfl, rfl, rfl⟩ := trodAll_nil r1
  obtain rfl : args = #[v0, v1] := by cases args; simp_all
  obtain ⟨rfl, rfl⟩ := trodVars_none hV
  obtain ⟨a0, rfl, rfl, rfl, w0⟩ := open_int Try.underlying22 (hval 0 22 v0 rfl rfl) h0
  obtain ⟨a1, len1, cap1, rfl⟩ := okWide_slice Try.underlying23 (hval 1 23 v1 rfl rfl)
  have k1 := h1
  have lt1 : ∀ x ∈ p1, x.block < W.heap.size := by obtain ⟨m, hm⟩ := k1; exact DataW.trod_lt m _ _ _ hm
  obtain ⟨z1, w1⟩ : ∃ ss, IsStrs W a1 len1 cap1 ss := by
    obtain ⟨fuel, hf⟩ := h1
    rcases open_strings Try.underlying23 Try.underlying9 (by kernel_rfl) hf with ⟨hcs, _⟩ | ⟨x, l, c, ss, hcs, _, hl, hm, hz, _, hcell, hwz⟩
    · simp [Value.cells] at hcs
      obtain ⟨rfl, rfl, rfl⟩ := hcs
      exact ⟨[], .inl ⟨rfl, rfl, rfl, rfl⟩⟩
    · simp [Value.cells] at hcs
      obtain ⟨rfl, rfl, rfl⟩ := hcs
      exact ⟨ss, .inr ⟨_, rfl, hl, hm, by simpa using hz, hcell, hwz⟩⟩
  clear hA0 hval0
  refine (walk a0 a1 len1 cap1 z1 W w0 w1).mono fun e W' ⟨he, bel⟩ => ?_
  subst he
  exact ⟨_, rfl, _, _, _, [], _, [], hW', trodAll_mk1 (shut_bool Try.underlying4 _), (trodAll_cons_mk (shut_int Try.underlying22 w0) (trodAll_cons_mk (Below.trod laidOut (by kernel_rfl) (of_decide_eq_true (by kernel_rfl)) k1 bel lt1) trodAll_mk0)), rfl, bel.frame _, fun h => by cases h⟩

theorem over : Rows.stateAllRow.holds Try.pinned (OpenSpec.ofChange Rows.stateAllSpec) :=
  OpenClaim.holds_of_wide 3 Try.f3 rfl rfl rfl rfl rfl rfl rfl ⟨rfl, rfl, rfl, rfl, rfl⟩ rfl rfl rfl rfl rfl (by kernel_rfl) Try.func3 (by kernel_rfl)
    (of_decide_eq_true (by kernel_rfl)) (by unfold Func.isWrapper; first | (rw [if_pos (by decide +kernel)]; kernel_rfl) | (rw [if_neg (by decide +kernel)]; exact ⟨rfl, rfl⟩))
    (fun os started H enc _ => lifted os started H enc)

/-- ████ THE STATEMENT ████ -/
theorem proved : Rows.StateAllSaid := over
end Go.Proofs.Ytlmkdadhdeielaa.stateAll

namespace Go.Proofs.Ytlmkdadhdeielaa
theorem stateAll_holds : Rows.StateAllSaid := stateAll.proved
#print axioms stateAll_holds
end Go.Proofs.Ytlmkdadhdeielaa
