/-
  However bytes are cut the sum is one; two do not touch one another; one that there is not has none: for every seed, text and row of cuts.
-/
import Derived.Test.YtlmkdadhdeielaaRows
import Derived.WalkKit
import Derived.ProofKit
import Derived.OpenShut
import Derived.ShutString
import Derived.ChangeOld
import Derived.Below
import Derived.Test.YtlmkdadhdeielaaOw
import Derived.Deep.RegionWith
import Derived.Deep.QuietTactic
import Derived.BigQuiet
namespace Go.Proofs.Ytlmkdadhdeielaa.stateCuts
open Go.ChangeShapes Go.WideShapes Go.ChangeAt Go.RowKit
open Go.ChangeMaps (open_string shut_string)
set_option linter.unusedVariables false

theorem own : ownKnob Try.prog.godebug = none := by kernel_rfl
theorem laidOut : laidOutB Try.prog = true := by kernel_rfl

/-- WHAT THE WALK IS TOLD OF A SLICE OF INTEGERS THAT CAME IN: it is nil; or it leads to a row of 'cap' cells, the numbers 'zs' (the first 'len' are its elements, the rest its spare room), each fitting its kind. -/
def IsRow (k : IntKind) (w : World) (a : Option Addr) (len cap : Nat) (zs : List Int) : Prop :=
  (a = none ∧ len = 0 ∧ cap = 0 ∧ zs = []) ∨
  ∃ x, a = some x ∧ len ≤ cap ∧ cap ≤ maxLen ∧ zs.length = cap ∧ (∀ i, i < zs.length → w.cell? (x.add i) = some (.int k (zs.getD i 0))) ∧ ∀ n ∈ zs, (Lit.int k n).wf = true

def CRel (s : ByteArray) (w : World) (A B C seed sc : Nat) (n : Nat) (rv iv : Value) (wr : World) : Prop :=
  ∃ (i j : Nat) (t : ByteArray) (lc : List UInt8), i ≤ n ∧ j ≤ s.size ∧ iv = .int .i64 i ∧ rv = .string t ∧ t.data.toList = s.data.toList.drop j ∧ lc.length = i ∧ I3 w A B C seed seed sc s.data.toList (s.data.toList.take j) lc wr
theorem i3_len {w V : World} {A B C sa sb sc : Nat} {la lb lc : List UInt8} (h : I3 w A B C sa sb sc la lb lc V) :
    (Calls Try.prog 11 #[ptr A] V fun e V' => e = .returned (.int .i64 la.length) ∧ V' = V) ∧ (Calls Try.prog 11 #[ptr B] V fun e V' => e = .returned (.int .i64 lb.length) ∧ V' = V) ∧ (Calls Try.prog 11 #[ptr C] V fun e V' => e = .returned (.int .i64 lc.length) ∧ V' = V) :=
  ⟨i1_len h.1.1, i1_len h.1.2.1, i1_len h.2.1⟩
theorem seed1 (a : Nat) : IntKind.u64.wrap ((a : Int) + 1) = (((a + 1) % 18446744073709551616 : Nat) : Int) := by
  simp only [IntKind.wrap, IntKind.bits, IntKind.signed]; simp
theorem crel_step {s t : ByteArray} {w V : World} {A B C seed sc n i j k : Nat} {lc : List UInt8} (hi : i < n) (hj : j + k ≤ s.size) (ht : t.data.toList = s.data.toList.drop j) (hlc : lc.length = i)
    (h : I3 w A B C seed seed sc s.data.toList (s.data.toList.take (j + k)) (lc ++ [120]) V) : CRel s w A B C seed sc n (.string (t.extract k t.size)) (.int .i64 ((i : Int) + 1)) V :=
  ⟨i + 1, j + k, _, lc ++ [120], hi, hj, by simp, rfl, by rw [rest_list, ht, List.drop_drop], by rw [List.length_append, hlc]; rfl, h⟩
set_option maxRecDepth 100000 in
set_option maxHeartbeats 1000000 in
theorem core (seed : Nat) (s : ByteArray) (x : Option Addr) (n cap : Nat) (z : List Int) (hseed : seed < 18446744073709551616) (hs : s.size ≤ maxLen) (w : World) (hr : IsRow .u8 w x n cap z) :
    Calls Try.prog 4 #[.int .u64 seed, .string s, .slice x n cap] w fun e w' => e = .returned (.bool true) ∧ Below w.heap.size w w' := by
  have hmax : n ≤ 9223372036854775807 := by
    rcases hr with ⟨_, h, _, _⟩ | ⟨_, _, h1, h2, _⟩
    · omega
    · unfold maxLen at h2; omega
  unfold maxLen at hs
  by_cases hl : 1000 < s.size
  · have aw := awake_own (Below.refl w.heap.size w)
    go_enter Try.func4, Try.ntmps4
    go_wp2_with (first | (go_at_call 7; with_reducible refine aw.mono ?_; rintro e w1 ⟨rfl, hb1⟩) | go_in)
    go_ret
    exact ⟨rfl, by assumption⟩
  by_cases hl2 : 40 < n
  · have aw := awake_own (Below.refl w.heap.size w)
    go_enter Try.func4, Try.ntmps4
    go_wp2_with (first | (go_at_call 7; with_reducible refine aw.mono ?_; rintro e w1 ⟨rfl, hb1⟩) | go_in)
    go_ret
    exact ⟨rfl, by assumption⟩
  have N1 := i1_new (Below.refl w.heap.size w) seed hseed
  have N2 := fun (V : World) (h : Below w.heap.size w V) => i1_new h seed hseed
  have N3 := fun (V : World) (h : Below w.heap.size w V) => i1_new h ((seed + 1) % 18446744073709551616) (m64 _)
  have e1 := seed1 seed
  generalize (seed + 1) % 18446744073709551616 = sc at *
  have hsl := hidI (len_data s)
  unfold ptr at N1 N2 N3
  go_enter Try.func4, Try.ntmps4
  go_wp2_with fail
  refine N1.mono ?_
  rintro e w1 ⟨rfl, h1, h2⟩
  have M2 := N2 w1 h1.2.2
  clear N1 N2 h2
  go_wp2_with fail
  refine M2.mono ?_
  rintro e w2 ⟨rfl, h3, h4⟩
  have hne : w.heap.size ≠ w1.heap.size := by have := st_lt h1.1; omega
  have J := i2_of (i1_below h1 h4) h3 hne
  have M3 := N3 w2 h3.2.2
  clear M2 h1 h3 h4 N3
  generalize w1.heap.size = B at *
  go_wp2_with fail
  refine M3.mono ?_
  rintro e w3 ⟨rfl, h5, h6⟩
  have hne1 : w.heap.size ≠ w2.heap.size := by have := st_lt J.1.1; omega
  have hne2 : B ≠ w2.heap.size := by have := st_lt J.2.1.1; omega
  have K : I3 w w.heap.size B w2.heap.size seed seed sc [] [] [] w3 := ⟨i2_below J h6, h5, hne1, hne2⟩
  clear M3 h5 h6 hne hne1 hne2 J
  generalize w2.heap.size = C at *
  have WA := i3_writeA K s (by simp; omega) s.data.toList (by simp)
  clear K
  unfold ptr at WA
  go_wp2_with fail
  refine WA.mono ?_
  rintro e w4 ⟨rfl, J⟩
  clear WA
  have HJ := hidI J
  clear J
  go_wp2_with fail
  go_loopw [10, 11] (fun rv iv wr => CRel s w w.heap.size B C seed sc n rv iv wr) (fun _ iv _ => n - (intOf iv).toNat)
  case atStart => exact ⟨0, 0, s, [], Nat.zero_le _, Nat.zero_le _, rfl, rfl, rfl, rfl, HJ.out⟩
  case round =>
    clear HJ
    obtain ⟨i, j, t, lc, hi, hj, rfl, rfl, ht, hlc, J⟩ := hrel
    have ts := left_size _ _ _ ht
    rw [hsl.out] at ts
    by_cases hlt : i < n
    · obtain ⟨x, rfl, c, hc, hcell⟩ : ∃ y, x = some y ∧ ∃ c : Nat, c < 256 ∧ wr.cell? (y.add i) = some (.int .u8 (c : Int)) := by
        rcases hr with ⟨_, h, _, _⟩ | ⟨y, rfl, h1, h2, h3, h4, h5⟩
        · omega
        · have hz : i < z.length := by omega
          have hcel := h4 i hz
          have hw := bounds_u8 (h5 (z.getD i 0) (by rw [List.getD_eq_getElem?_getD, List.getElem?_eq_getElem hz]; exact List.getElem_mem hz))
          obtain ⟨c, hc⟩ := Int.eq_ofNat_of_zero_le hw.1
          refine ⟨y, rfl, c, by omega, ?_⟩
          rw [← hc, J.1.1.2.2.cell (World.block_lt_of_cell? _ _ hcel)]
          exact hcel
      clear hr
      obtain ⟨k, hk⟩ : ∃ k, c % (t.size + 1) = k := ⟨_, rfl⟩
      have hk1 : k ≤ t.size := by rw [← hk]; have := Nat.mod_lt c (show 0 < t.size + 1 by omega); omega
      have hk2 : (c : Int) % ((t.size : Int) + 1) = (k : Int) := by rw [← hk]; simp
      have hll : (s.data.toList.take j).length = j := take_len s j hj
      have C1 := i3_writeB J (t.extract 0 k) (by rw [hll, cut_size t k hk1]; omega) (s.data.toList.take (j + k)) (by rw [cut_list, ht, List.take_add])
      have C2 := fun (V : World) (h : I3 w w.heap.size B C seed seed sc s.data.toList (s.data.toList.take (j + k)) lc V) => i3_writeC h ⟨#[120]⟩ (by rw [hlc]; show i + 1 ≤ _; omega) (lc ++ [120]) rfl
      have HS := hidI (And.intro ht (And.intro hlc (And.intro ts hj)))
      clear ht hlc hk hll J ts hj
      have hts : t.size ≤ 1000 := by have h := HS.out.2.2.1; omega
      unfold ptr at C1 C2
      go_wp2_with fail
      refine C1.mono ?_
      rintro e w5 ⟨rfl, J⟩
      have D2 := C2 _ J
      clear C1 C2 J
      go_wp2_with fail
      refine D2.mono ?_
      rintro e w6 ⟨rfl, J⟩
      have HJ := hidI J
      clear D2 J
      go_wp2
      go_roundw
      case rel => exact crel_step hlt (by have h := HS.out.2.2.1; have h' := HS.out.2.2.2; omega) HS.out.1 HS.out.2.1 HJ.out
      case measure => simp [intOf]; omega
    · obtain rfl : i = n := by omega
      have C1 := i3_writeB J t (by rw [take_len s j hj]; omega) s.data.toList (by rw [ht, List.take_append_drop])
      have HF := fun (V : World) (h : I3 w w.heap.size B C seed seed sc s.data.toList s.data.toList lc V) => And.intro (i3_sumA h (by rw [hsl.out]; omega)) (And.intro (i3_sumB h (by rw [hsl.out]; omega)) (i3_len h))
      rw [hsl.out, hlc] at HF
      have N8 := write_nilp ⟨#[97]⟩
      have N9 := sum_nilp
      have N11 := len_nil
      generalize sum seed s.data.toList = y at *
      clear ht hlc J ts hj hr
      replace HF := fun (_ : Unit) => HF
      unfold ptr at C1 HF
      go_wp2_with fail
      refine C1.mono ?_
      rintro e w5 ⟨rfl, J⟩
      clear C1
      go_wp2_with fail
      refine (N8 _).mono ?_
      rintro e w6 ⟨rfl, h6⟩
      subst h6
      clear N8
      have D := (HF () _ J).1
      clear J
      go_wp2_with fail
      refine D.mono ?_
      rintro e w7 ⟨rfl, J⟩
      have D := (HF () _ J).2.1
      clear J
      go_wp2_with fail
      refine D.mono ?_
      rintro e w8 ⟨rfl, J⟩
      have D1 := (HF () _ J).2.2.1
      have D2 := (HF () _ J).2.2.2.1
      have D3 := (HF () _ J).2.2.2.2
      have aw := awake_own J.1.1.2.2
      clear J D HF
      go_wp2_with fail
      refine D1.mono ?_
      rintro e w9 ⟨rfl, h9⟩
      subst h9
      go_wp2_with fail
      refine D2.mono ?_
      rintro e w9 ⟨rfl, h9⟩
      subst h9
      go_wp2_with fail
      refine D3.mono ?_
      rintro e w9 ⟨rfl, h9⟩
      subst h9
      clear D1 D2 D3
      go_wp2_with fail
      refine (N9 _).mono ?_
      rintro e w9 ⟨rfl, h9⟩
      subst h9
      go_wp2_with fail
      refine (N11 _).mono ?_
      rintro e w9 ⟨rfl, h9⟩
      subst h9
      go_wp2_with fail
      refine aw.mono ?_
      rintro e w10 ⟨rfl, hb⟩
      replace hb := hidI hb
      clear aw N9 N11
      go_wp2
      go_ret
      exact ⟨rfl, hb.out⟩

theorem walk (a0 : Int) (a1 : ByteArray) (a2 : Option Addr) (len2 cap2 : Nat) (z2 : List Int) (w : World) (w0 : (Lit.int .u64 a0).wf = true) (w1 : a1.size ≤ maxLen) (w2 : IsRow .u8 w a2 len2 cap2 z2) :
    Calls Try.prog 4 #[.int .u64 a0, .string a1, .slice a2 len2 cap2] w fun e w' => e = .returned (.bool true) ∧ Below w.heap.size w w' := by
  have hx := bounds_u64 w0
  obtain ⟨a, rfl⟩ := Int.eq_ofNat_of_zero_le hx.1
  exact core a a1 a2 len2 cap2 z2 (by omega) w1 w w2

/-! ### THE ROW's STEP: WRITTEN OUT: LEAVE IT -/
set_option maxRecDepth 100000 in
theorem lifted (os : Os) (started : os.Started) (H : Type) (enc : TypeId × Value → H) :
    ReturnsInHanded {} Try.checked os 4 .any (Rows.stateCutsSpec.pre6 enc Try.prog Try.f4 Rows.stateCutsRow.domain false) (Rows.stateCutsSpec.post enc Try.prog Try.f4 false true false false) := by
  refine returnsInHanded_of_change (C := Try.checked) own started (by kernel_rfl) Try.func4
    (ChangeSpec.witness6 (enc := enc) (C := Try.checked) false ⟨#[], #[.int .u64 0, .string ByteArray.empty, .slice none 0 0], []⟩ 8 (by kernel_rfl) (by kernel_rfl) (by kernel_rfl) (by kernel_rfl)) ?_
  intro W base args ds gs before hval0 hW hcnd _
  have hval : ∀ (j : Nat) t v, Try.f4.params[j]? = some t → args[j]? = some v → Value.okWide Try.prog W .any base t v := hval0
  have hW' := hW
  obtain ⟨p, q, hA0, hV, rfl, hfz, hnd⟩ := hW
  have hA : DataW.TrodAll enc Try.prog W 0 (fun _ => true) true Try.f4.params.toList args.toList ds p := hA0
  rw [Try.params4] at hA hval
  obtain ⟨v0, vs0, d0, ds0, p0, q0, hargs, rfl, rfl, h0, r0⟩ := trodAll_cons hA
  obtain ⟨v1, vs1, d1, ds1, p1, q1, rfl, rfl, rfl, h1, r1⟩ := trodAll_cons r0
  obtain ⟨v2, vs2, d2, ds2, p2, q2, rfl, rfl, rfl, h2, r2⟩ := trodAll_cons r1
  obtain ⟨rfl, rfl, rfl⟩ := trodAll_nil r2
  obtain rfl : args = #[v0, v1, v2] := by cases args; simp_all
  obtain ⟨rfl, rfl⟩ := trodVars_none hV
  obtain ⟨a0, rfl, rfl, rfl, w0⟩ := open_int Try.underlying22 (hval 0 22 v0 rfl rfl) h0
  obtain ⟨a1, rfl, rfl, rfl, w1⟩ := open_string Try.underlying9 (hval 1 9 v1 rfl rfl) h1
  obtain ⟨a2, len2, cap2, rfl⟩ := okWide_slice Try.underlying32 (hval 2 32 v2 rfl rfl)
  have k2 := h2
  have lt2 : ∀ x ∈ p2, x.block < W.heap.size := by obtain ⟨m, hm⟩ := k2; exact DataW.trod_lt m _ _ _ hm
  obtain ⟨z2, w2⟩ : ∃ zs, IsRow .u8 W a2 len2 cap2 zs := by
    obtain ⟨fuel, hf⟩ := h2
    rcases open_ints Try.underlying32 Try.underlying5 (by kernel_rfl) hf with ⟨hcs, _⟩ | ⟨x, l, c, zs, hcs, _, hl, hm, hz, _, hcell, hwz⟩
    · simp [Value.cells] at hcs
      obtain ⟨rfl, rfl, rfl⟩ := hcs
      exact ⟨[], .inl ⟨rfl, rfl, rfl, rfl⟩⟩
    · simp [Value.cells] at hcs
      obtain ⟨rfl, rfl, rfl⟩ := hcs
      exact ⟨zs, .inr ⟨_, rfl, hl, hm, by simpa using hz, hcell, hwz⟩⟩
  clear hA0 hval0
  refine (walk a0 a1 a2 len2 cap2 z2 W w0 w1 w2).mono fun e W' ⟨he, bel⟩ => ?_
  subst he
  exact ⟨_, rfl, _, _, _, [], _, [], hW', trodAll_mk1 (shut_bool Try.underlying4 _), (trodAll_cons_mk (shut_int Try.underlying22 w0) (trodAll_cons_mk (shut_string Try.underlying9 w1) (trodAll_cons_mk (Below.trod laidOut (by kernel_rfl) (of_decide_eq_true (by kernel_rfl)) k2 bel lt2) trodAll_mk0))), rfl, bel.frame _, fun h => by cases h⟩

theorem over : Rows.stateCutsRow.holds Try.pinned (OpenSpec.ofChange Rows.stateCutsSpec) :=
  OpenClaim.holds_of_wide 4 Try.f4 rfl rfl rfl rfl rfl rfl rfl ⟨rfl, rfl, rfl, rfl, rfl⟩ rfl rfl rfl rfl rfl (by kernel_rfl) Try.func4 (by kernel_rfl)
    (of_decide_eq_true (by kernel_rfl)) (by unfold Func.isWrapper; first | (rw [if_pos (by decide +kernel)]; kernel_rfl) | (rw [if_neg (by decide +kernel)]; exact ⟨rfl, rfl⟩))
    (fun os started H enc _ => lifted os started H enc)

/-- ████ THE STATEMENT ████ -/
theorem proved : Rows.StateCutsSaid := over
end Go.Proofs.Ytlmkdadhdeielaa.stateCuts

namespace Go.Proofs.Ytlmkdadhdeielaa
theorem stateCuts_holds : Rows.StateCutsSaid := stateCuts.proved
#print axioms stateCuts_holds
end Go.Proofs.Ytlmkdadhdeielaa
