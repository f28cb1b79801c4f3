/-
  Behind as many bytes as are a multiple of four, of 500 at the most, another last byte makes another sum; so does another seed of few bytes.
-/
import Derived.Test.YtejljifdghfljaaRows
import Derived.WalkKit
import Derived.ProofKit
import Derived.OpenShut
import Derived.Deep.CutRange
import Derived.Laws.IdiomStrings
import Derived.Deep.RegionWith
import Derived.BigQuiet
import Derived.Deep.QuietTactic
import Derived.Test.YtejljifdghfljaaSum
import Derived.ShutString
namespace Go.Proofs.Ytejljifdghfljaa.xxhLast
open Go.ChangeShapes Go.WideShapes Go.ChangeAt Go.RowKit
open Go.ChangeMaps (open_string shut_string)
set_option linter.unusedVariables false      -- a walk need not use every 'w<i>' (that an integer argument fits its kind)

theorem own : ownKnob Try.prog.godebug = none := by kernel_rfl

theorem ne_cast {x y : Nat} (h : ¬ x = y) : ((x : Int) == (y : Int)) = false := by simp; omega
theorem str_one (x : UInt8) (W : World) (B : Nat) (h : W.cell? ⟨B, 0, none⟩ = some (.int .u8 x.toNat)) :
    (convert 32 9 (.slice (some ⟨B, 0, none⟩) 1 1)).run Try.prog W = .ok (.string (bs [x])) W :=
  run_convert_bytes_back W 32 9 5 ⟨B, 0, none⟩ 1 [x] Try.underlying32 Try.underlying5 Try.underlying9 (fun j hj => by
    obtain rfl : j = 0 := by simpa using hj
    rw [Addr.add_lit, Nat.zero_add]; exact h)

theorem lt2 (n : Nat) : n < n + 1 + 1 := by omega
theorem keepc {W W' : World} (h : Below W.heap.size W W') (B : Nat) (hB : B < W.heap.size) : W'.cell? ⟨B, 0, none⟩ = W.cell? ⟨B, 0, none⟩ := h.cell (p := ⟨B, 0, none⟩) hB
theorem bel_call {w a b : World} (h : Below w.heap.size w a) (k : Hid (Below a.heap.size a b)) : Below w.heap.size w b := h.trans (k.out.mono h.size)
theorem bel_alloc {w a : World} (h : Below w.heap.size w a) (o : Obj) : Below w.heap.size w (a.alloc o) := h.alloc h.size o

set_option maxRecDepth 100000 in
set_option maxHeartbeats 4000000 in
theorem core (a b : Nat) (s : ByteArray) (x y : UInt8) (ha : a < 18446744073709551616) (hb : b < 18446744073709551616) (hs : s.size ≤ maxLen) (w : World) :
    Calls Try.prog 6 #[.int .u64 a, .int .u64 b, .string s, .int .u8 x.toNat, .int .u8 y.toNat] w fun e w' => e = .returned (.bool true) ∧ Below w.heap.size w w' := by
  unfold maxLen at hs
  by_cases hl : 500 < s.size
  · have aw := awake_own (Below.refl w.heap.size w)
    go_enter Try.func6, Try.ntmps6
    go_wp2_with (first | (go_at_call 8; with_reducible refine aw.mono ?_; rintro e w1 ⟨rfl, hb1⟩) | go_in)
    go_ret
    exact ⟨rfl, by assumption⟩
  · obtain ⟨r, hr⟩ : ∃ r : Nat, s.size % 4 = r := ⟨_, rfl⟩
    obtain ⟨N, hN⟩ : ∃ N : Nat, s.size - r = N := ⟨_, rfl⟩
    have e1 : (s.size : Int) % 4 = (r : Int) := by omega
    have e2 : IntKind.i64.wrap ((s.size : Int) - (r : Int)) = (N : Int) := by rw [IntKind.wrap_i64]; omega
    have e3 : N ≤ s.size := by omega
    have ht : (s.extract 0 N).data.toList.length % 4 = 0 := by rw [len_data, ByteArray.size_extract]; omega
    have htz : (s.extract 0 N).size = N := by rw [ByteArray.size_extract]; omega
    clear hr hN hs
    go_enter Try.func6, Try.ntmps6
    go_wp2
    clear e1 e2
    generalize s.extract 0 N = t at *
    have c1 := fun W => sum_own (Below.refl W.heap.size W) a ha (t ++ bs [x])
    have c2 := fun W => sum_own (Below.refl W.heap.size W) a ha (t ++ bs [y])
    have L : ∀ u : UInt8, (t ++ bs [u]).data.toList = t.data.toList ++ [u] := fun u => by rw [ByteArray.data_append, Array.toList_append]; rfl
    rw [L] at c1 c2
    have F := hidI (sum_last a t.data.toList x y ht)
    generalize sum a (t.data.toList ++ [x]) = z1 at *
    generalize sum a (t.data.toList ++ [y]) = z2 at *
    have a1 := fun W : World => run_string_add_sum (P := Try.prog) W t (bs [x]) (by have : (bs [x]).size = 1 := rfl; omega)
    have a2 := fun W : World => run_string_add_sum (P := Try.prog) W t (bs [y]) (by have : (bs [y]).size = 1 := rfl; omega)
    have cx := str_one x
    have cy := str_one y
    go_cut [12, 13] from 28 to 41 (fun s12 s13 wx => s12 = .int .u64 z1 ∧ s13 = .int .u64 z2 ∧ Below w.heap.size w wx)
    case first =>
      go_region_with (first | (go_at_call 9; with_reducible refine (c1 _).mono ?_; rintro e w4 ⟨rfl, hb4⟩; have k0 := keepc hb4 w.heap.size; have k1 := keepc hb4 (w.heap.size + 1); replace hb4 := hidI hb4; try simp [lt2] at k0; try simp at k1) | (go_at_call 9; with_reducible refine (c2 _).mono ?_; rintro e w4 ⟨rfl, hb4⟩; have k0 := keepc hb4 w.heap.size; have k1 := keepc hb4 (w.heap.size + 1); replace hb4 := hidI hb4; try simp at k0; try simp at k1))
      all_goals
        clear c1 c2 a1 a2 cx cy
        go_wp2_with fail
        go_meet
        exact ⟨rfl, rfl, by repeat (first | exact Below.refl _ _ | refine bel_call ?_ (by assumption) | apply Below.drew | refine bel_alloc ?_ _)⟩
    case rest =>
      obtain ⟨rfl, rfl, hb5'⟩ := hcut
      have hb5 := hidI hb5'
      clear c1 c2 a1 a2 cx cy L e3 ht
      have hbx : ∃ bx : Bool, ((z1 : Int) == (z2 : Int)) = bx ∧ ((x.toNat : Int) == (y.toNat : Int)) = bx := by
        by_cases h : x = y
        · exact ⟨true, by rw [F.out.2 h]; simp, by rw [h]; simp⟩
        · exact ⟨false, ne_cast (fun e => h (F.out.1 e)), ne_cast (fun e => h (UInt8.toNat_inj.1 e))⟩
      obtain ⟨bx, x1, x2⟩ := hbx
      have aw := fun W (h : Below w.heap.size w W) => awake_own h
      have bb1 : (bx == bx) = true := by cases bx <;> rfl
      clear F hl
      by_cases h3 : t.size ≤ 3
      · have fz : t.data.toList.length < 32 := by rw [len_data]; omega
        have c3 := sum_own hb5' a ha t
        have c4 := fun W (h : Below w.heap.size w W) => sum_own h b hb t
        have G := sum_seed a b t.data.toList fz ha hb
        generalize sum a t.data.toList = v1 at *
        generalize sum b t.data.toList = v2 at *
        clear hb5' htz fz ha hb
        have hby : ∃ yy : Bool, ((v1 : Int) == (v2 : Int)) = yy ∧ ((a : Int) == (b : Int)) = yy := by
          by_cases h : a = b
          · exact ⟨true, by rw [G.2 h]; simp, by rw [h]; simp⟩
          · exact ⟨false, ne_cast (fun e => h (G.1 e)), ne_cast h⟩
        obtain ⟨yy, y1, y2⟩ := hby
        have bb2 : (yy == yy) = true := by cases yy <;> rfl
        clear G
        go_wp2_with fail
        with_reducible refine c3.mono ?_
        rintro e w6 ⟨rfl, hb6⟩
        replace c4 := c4 _ hb6
        go_wp2_with fail
        with_reducible refine c4.mono ?_
        rintro e w7 ⟨rfl, hb7⟩
        replace aw := aw _ hb7
        go_wp2_with fail
        with_reducible refine aw.mono ?_
        rintro e w8 ⟨rfl, hb8⟩
        go_wp2
        go_ret
        exact ⟨rfl, hb8⟩
      · have fz : (t.extract 0 3).data.toList.length < 32 := by rw [len_data, ByteArray.size_extract]; omega
        have c3 := sum_own hb5' a ha (t.extract 0 3)
        have c4 := fun W (h : Below w.heap.size w W) => sum_own h b hb (t.extract 0 3)
        have G := sum_seed a b (t.extract 0 3).data.toList fz ha hb
        generalize sum a (t.extract 0 3).data.toList = v1 at *
        generalize sum b (t.extract 0 3).data.toList = v2 at *
        clear hb5' htz fz ha hb
        have hby : ∃ yy : Bool, ((v1 : Int) == (v2 : Int)) = yy ∧ ((a : Int) == (b : Int)) = yy := by
          by_cases h : a = b
          · exact ⟨true, by rw [G.2 h]; simp, by rw [h]; simp⟩
          · exact ⟨false, ne_cast (fun e => h (G.1 e)), ne_cast h⟩
        obtain ⟨yy, y1, y2⟩ := hby
        have bb2 : (yy == yy) = true := by cases yy <;> rfl
        clear G
        go_wp2_with fail
        with_reducible refine c3.mono ?_
        rintro e w6 ⟨rfl, hb6⟩
        replace c4 := c4 _ hb6
        go_wp2_with fail
        with_reducible refine c4.mono ?_
        rintro e w7 ⟨rfl, hb7⟩
        replace aw := aw _ hb7
        go_wp2_with fail
        with_reducible refine aw.mono ?_
        rintro e w8 ⟨rfl, hb8⟩
        go_wp2
        go_ret
        exact ⟨rfl, hb8⟩

theorem walk (a0 : Int) (a1 : Int) (a2 : ByteArray) (a3 : Int) (a4 : Int) (w0 : (Lit.int .u64 a0).wf = true) (w1 : (Lit.int .u64 a1).wf = true) (w2 : a2.size ≤ maxLen) (w3 : (Lit.int .u8 a3).wf = true) (w4 : (Lit.int .u8 a4).wf = true) (w : World) :
    Calls Try.prog 6 #[.int .u64 a0, .int .u64 a1, .string a2, .int .u8 a3, .int .u8 a4] w fun e w' => e = .returned (.bool true) ∧ Below w.heap.size w w' := by
  have h0 := bounds_u64 w0
  have h1 := bounds_u64 w1
  have h3 := bounds_u8 w3
  have h4 := bounds_u8 w4
  obtain ⟨a, rfl⟩ := Int.eq_ofNat_of_zero_le h0.1
  obtain ⟨b, rfl⟩ := Int.eq_ofNat_of_zero_le h1.1
  obtain ⟨c, rfl⟩ := Int.eq_ofNat_of_zero_le h3.1
  obtain ⟨d, rfl⟩ := Int.eq_ofNat_of_zero_le h4.1
  have hc := u8_of c (by omega)
  have hd := u8_of d (by omega)
  have := core a b a2 (UInt8.ofNat c) (UInt8.ofNat d) (by omega) (by omega) w2 w
  rw [hc, hd] at this
  exact this

/-! ### THE ROW's STEP: WRITTEN OUT: LEAVE IT -/
set_option maxRecDepth 100000 in
theorem lifted (os : Os) (started : os.Started) (H : Type) (enc : TypeId × Value → H) :
    ReturnsInHanded {} Try.checked os 6 .any (Rows.xxhLastSpec.pre6 enc Try.prog Try.f6 Rows.xxhLastRow.domain false) (Rows.xxhLastSpec.post enc Try.prog Try.f6 false true false false) := by
  refine returnsInHanded_of_change (C := Try.checked) own started (by kernel_rfl) Try.func6
    (ChangeSpec.witness6 (enc := enc) (C := Try.checked) false ⟨#[], #[.int .u64 0, .int .u64 0, .string ByteArray.empty, .int .u8 0, .int .u8 0], []⟩ 8 (by kernel_rfl) (by kernel_rfl) (by kernel_rfl) (by kernel_rfl)) ?_
  intro W base args ds gs before hval0 hW hcnd _
  have hval : ∀ (j : Nat) t v, Try.f6.params[j]? = some t → args[j]? = some v → Value.okWide Try.prog W .any base t v := hval0
  have hW' := hW
  obtain ⟨p, q, hA0, hV, rfl, hfz, hnd⟩ := hW
  have hA : DataW.TrodAll enc Try.prog W 0 (fun _ => true) true Try.f6.params.toList args.toList ds p := hA0
  rw [Try.params6] at hA hval
  obtain ⟨v0, vs0, d0, ds0, p0, q0, hargs, rfl, rfl, h0, r0⟩ := trodAll_cons hA
  obtain ⟨v1, vs1, d1, ds1, p1, q1, rfl, rfl, rfl, h1, r1⟩ := trodAll_cons r0
  obtain ⟨v2, vs2, d2, ds2, p2, q2, rfl, rfl, rfl, h2, r2⟩ := trodAll_cons r1
  obtain ⟨v3, vs3, d3, ds3, p3, q3, rfl, rfl, rfl, h3, r3⟩ := trodAll_cons r2
  obtain ⟨v4, vs4, d4, ds4, p4, q4, rfl, rfl, rfl, h4, r4⟩ := trodAll_cons r3
  obtain ⟨rfl, rfl, rfl⟩ := trodAll_nil r4
  obtain rfl : args = #[v0, v1, v2, v3, v4] := by cases args; simp_all
  obtain ⟨rfl, rfl⟩ := trodVars_none hV
  obtain ⟨a0, rfl, rfl, rfl, w0⟩ := open_int Try.underlying22 (hval 0 22 v0 rfl rfl) h0
  obtain ⟨a1, rfl, rfl, rfl, w1⟩ := open_int Try.underlying22 (hval 1 22 v1 rfl rfl) h1
  obtain ⟨a2, rfl, rfl, rfl, w2⟩ := open_string Try.underlying9 (hval 2 9 v2 rfl rfl) h2
  obtain ⟨a3, rfl, rfl, rfl, w3⟩ := open_int Try.underlying5 (hval 3 5 v3 rfl rfl) h3
  obtain ⟨a4, rfl, rfl, rfl, w4⟩ := open_int Try.underlying5 (hval 4 5 v4 rfl rfl) h4
  clear hA0 hval0
  refine (walk a0 a1 a2 a3 a4 w0 w1 w2 w3 w4 W).mono fun e W' ⟨he, bel⟩ => ?_
  subst he
  exact ⟨_, rfl, _, _, _, [], _, [], hW', (trodAll_cons_mk (shut_bool Try.underlying4 _) trodAll_mk0), (trodAll_cons_mk (shut_int Try.underlying22 w0) (trodAll_cons_mk (shut_int Try.underlying22 w1) (trodAll_cons_mk (shut_string Try.underlying9 w2) (trodAll_cons_mk (shut_int Try.underlying5 w3) (trodAll_cons_mk (shut_int Try.underlying5 w4) trodAll_mk0))))), rfl, bel.frame _, fun h => by cases h⟩

theorem over : Rows.xxhLastRow.holds Try.pinned (OpenSpec.ofChange Rows.xxhLastSpec) :=
  OpenClaim.holds_of_wide 6 Try.f6 rfl rfl rfl rfl rfl rfl rfl ⟨rfl, rfl, rfl, rfl, rfl⟩ rfl rfl rfl rfl rfl (by kernel_rfl) Try.func6 (by kernel_rfl)
    (of_decide_eq_true (by kernel_rfl)) (by unfold Func.isWrapper; first | (rw [if_pos (by decide +kernel)]; kernel_rfl) | (rw [if_neg (by decide +kernel)]; exact ⟨rfl, rfl⟩))
    (fun os started H enc _ => lifted os started H enc)

/-- ████ THE STATEMENT ████ -/
theorem proved : Rows.XxhLastSaid :=
  over
end Go.Proofs.Ytejljifdghfljaa.xxhLast

namespace Go.Proofs.Ytejljifdghfljaa
theorem xxhLast_holds : Rows.XxhLastSaid := xxhLast.proved
#print axioms xxhLast_holds
end Go.Proofs.Ytejljifdghfljaa
