/-
  What asks for more than there is takes nothing; no more than 64 bits are told at once, whatever was sealed.
-/
import Derived.Test.YtjojofcajabkeaaRows
import Derived.WalkKit
import Derived.ProofKit
import Derived.OpenShut
import Derived.ShutString
import Derived.ChangeOld
import Derived.Below
import Derived.Test.YtjojofcajabkeaaGets
import Derived.Deep.RegionWith
import Derived.Deep.QuietTactic
import Derived.BigQuiet
import Derived.OwnWalk
namespace Go.Proofs.Ytjojofcajabkeaa.backMore
open Go.ChangeShapes Go.WideShapes Go.ChangeAt Go.RowKit
open Go.ChangeMaps (open_string shut_string)
set_option linter.unusedVariables false

theorem own : ownKnob Try.prog.godebug = none := by kernel_rfl
theorem laidOut : laidOutB Try.prog = true := by kernel_rfl

/-- WHAT THE WALK IS TOLD OF A SLICE OF INTEGERS THAT CAME IN: it is nil; or it leads to a row of 'cap' cells, the numbers 'zs' (the first 'len' are its elements, the rest its spare room), each fitting its kind. -/
def IsRow (k : IntKind) (w : World) (a : Option Addr) (len cap : Nat) (zs : List Int) : Prop :=
  (a = none ∧ len = 0 ∧ cap = 0 ∧ zs = []) ∨
  ∃ x, a = some x ∧ len ≤ cap ∧ cap ≤ maxLen ∧ zs.length = cap ∧ (∀ i, i < zs.length → w.cell? (x.add i) = some (.int k (zs.getD i 0))) ∧ ∀ n ∈ zs, (Lit.int k n).wf = true

theorem row_nat {k : IntKind} {w : World} {a : Option Addr} {len cap : Nat} {zs : List Int} (h : IsRow k w a len cap zs) (B : Nat) (hB : ∀ n, (Lit.int k n).wf = true → 0 ≤ n ∧ n < B) :
    len ≤ maxLen ∧ len ≤ cap ∧ cap ≤ maxLen ∧ (0 < len → ∃ x, a = some x ∧ ∀ i, i < len → w.cell? (x.add i) = some (.int k ((zs.getD i 0).toNat : Nat)) ∧ (zs.getD i 0).toNat < B) := by
  rcases h with ⟨rfl, rfl, rfl, rfl⟩ | ⟨x, rfl, h1, h2, h3, h4, h5⟩
  · exact ⟨Nat.zero_le _, Nat.le_refl _, Nat.zero_le _, fun h => absurd h (by omega)⟩
  · refine ⟨Nat.le_trans h1 h2, h1, h2, fun _ => ⟨x, rfl, fun i hi => ?_⟩⟩
    have hg : zs.getD i 0 = zs[i] := by rw [List.getD_eq_getElem?_getD, List.getElem?_eq_getElem (by omega)]; rfl
    have hb := hB zs[i] (h5 _ (List.getElem_mem (by omega)))
    rw [h4 i (by omega), hg, Int.toNat_of_nonneg hb.1]
    exact ⟨rfl, by omega⟩

theorem szs7 (i : Nat) : szs (fun _ => 7) i = 7 * i := by
  induction i with
  | zero => rfl
  | succ i ih => rw [szs, ih]; omega
theorem got7 (X : Nat → Nat) (k i : Nat) (h : i < k) : got (num X (fun _ => 7) k + 2 ^ (7 * k)) (7 * i) 7 = X i % 128 := by
  have := got_mk X (fun _ => 7) k i h
  rw [mk, szs7, szs7] at this
  exact this
theorem num7_lt (X : Nat → Nat) (k : Nat) : num X (fun _ => 7) k < 2 ^ (7 * k) := by have := num_lt X (fun _ => 7) k; rwa [szs7] at this

theorem info3 : (Try.prog.info? 3).map (fun i => (i.zero, i.size, i.bytes)) = some (some (.int .i64 0), 1, 8) := by kernel_rfl

/-- Block G has k whole numbers, the first i of them 7. -/
def Sv (W : World) (G k i : Nat) : Prop := ∃ cur, Blk W G cur 3 ∧ k ≤ cur.size ∧ ∀ j, j < i → cur[j]? = some (.int .i64 7)
def FlRel (w : World) (G k : Nat) (iv : Value) (wr : World) : Prop := ∃ i : Nat, i ≤ k ∧ iv = .int .i64 i ∧ Sv wr G k i ∧ Below w.heap.size w wr
theorem sv_set {W : World} {G k i : Nat} (h : Sv W G k i) (hi : i < k) : Sv (W.setCell ⟨G, i, none⟩ (.int .i64 7)) G k (i + 1) := by
  obtain ⟨cur, h1, h2, h3⟩ := h
  refine ⟨_, blk_set h1 i _, by simpa using h2, fun j hj => ?_⟩
  by_cases e : i = j
  · subst e; rw [Array.getElem?_setIfInBounds_self_of_lt (by omega)]
  · rw [Array.getElem?_setIfInBounds_ne e]; exact h3 j (by omega)

theorem sv_made {W w' : World} {k : Nat} {xs : List Value} (h : w'.ownsRow 0 3 1 (.slice (some ⟨W.heap.size, 0, none⟩) k k) k xs) : Sv w' W.heap.size k 0 := by
  rcases h.2 with ⟨h0, _⟩ | ⟨g, cap, cur, hv, hb, hg, hc, hm, hs, ht⟩
  · cases h0
  · injection hv with e1 e2 e3
    injection e1 with e1
    injection e1 with e1
    subst e1 e3
    exact ⟨cur, hg, by omega, fun j hj => by omega⟩

def DnRel (w : World) (R : Nat) (S : ByteArray) (k : Nat) (iv : Value) (wr : World) : Prop := ∃ j : Nat, j ≤ k ∧ iv = .int .i64 ((j : Int) - 1) ∧ Rd wr R S (7 * j) ∧ Below w.heap.size w wr

set_option maxRecDepth 100000 in
set_option maxHeartbeats 4000000 in
theorem core (a : Option Addr) (n0 cap0 n k : Nat) (X : Nat → Nat) (w : World) (hk : k = min n0 10) (hn : n < 256) (hc0 : n0 ≤ cap0) (hcm : cap0 ≤ 9223372036854775807)
    (hx : 0 < n0 → ∃ x, a = some x ∧ ∀ i, i < n0 → w.cell? (x.add i) = some (.int .u64 (X i : Nat)) ∧ X i < 18446744073709551616) :
    Calls Try.prog 5 #[.slice a n0 cap0, .int .u8 n] w fun e w' => e = .returned (.bool true) ∧ Below w.heap.size w w' := by
  obtain ⟨i3, hi3, hz0, hz1, hz2⟩ := info_parts info3
  have HX := Hid.intro hx
  have hk0 : k ≤ n0 := by omega
  have hk10 : k ≤ 10 := by omega
  have hmin : min (n0 : Int) 10 = (k : Int) := by omega
  clear hx hk
  go_enter Try.func5, Try.ntmps5
  go_wp2_with (at_make; refine wpList_make_full _ rfl (.tmp 23) (.tmp 23) 23 rfl 0 3 i3 (.int .i64 0) 1 Try.underlying23 hi3 hz0 hz1 .i64 .i64 _ _ k rfl rfl (by first | exact hmin | rfl) (by first | exact hmin | rfl) (by rw [hz2]; omega) (by simp only [maxLen]; omega) (Nat.zero_le _) ?_)
  intro w1 m1 m2
  have s1 := sv_made m1
  have n1 : Below w.heap.size w w1 := below_no (Below.refl _ w) (chg_grown (chg_refl _ _) m2 (fun k hk => by cases hk))
  clear m1 m2
  generalize hG : w.heap.size = G at s1 ⊢
  have HG := Hid.intro hG
  clear hG
  go_wp2_with fail
  try simp only [hmin]
  clear hmin
  go_loopw [7] (fun iv wr => FlRel w G k iv wr) (fun iv _ => k - (intOf iv).toNat)
  case atStart => exact ⟨0, by omega, rfl, s1, n1⟩
  case round =>
    clear s1 n1
    obtain ⟨i, hi, rfl, d1, d2⟩ := hrel
    by_cases hlt : i < k
    · have hcell : ∃ u, wr.cell? ⟨G, i, none⟩ = some u := by
        obtain ⟨cur, h1, h2, _⟩ := d1
        exact ⟨cur[i]'(by omega), by rw [blk_cell h1, Array.getElem?_eq_getElem]⟩
      obtain ⟨u, hu⟩ := hcell
      have hfr : wr.frozen? ⟨G, i, none⟩ = false := by
        obtain ⟨cur, h1, h2, _⟩ := d1
        exact blk_free h1 _
      have d3 := sv_set d1 hlt
      have d4 : Below w.heap.size w (wr.setCell ⟨G, i, none⟩ (.int .i64 7)) := d2.setCell (by rw [HG.out]; exact Nat.le_refl _) _
      go_wp2
      go_roundw
      case rel => exact ⟨i + 1, by omega, by go_num, d3, d4⟩
      case measure => simp [intOf]; omega
    · obtain rfl : i = k := by omega
      clear hlt hi hi3 hz0 hz1 hz2
      have US : Us wr a i X := by
        intro h
        obtain ⟨x, rfl, hx⟩ := HX.out (by omega)
        refine ⟨x, rfl, fun j hj => ?_⟩
        have hj2 := hx j (by omega)
        exact ⟨by rw [d2.cell (World.block_lt_of_cell? _ _ hj2.1)]; exact hj2.1, hj2.2⟩
      have LS : Ls wr (some ⟨G, 0, none⟩) i (fun _ => 7) := by
        intro h
        obtain ⟨cur, h1, h2, h3⟩ := d1
        exact ⟨_, rfl, fun j hj => ⟨by rw [Addr.add_lit, Nat.zero_add, blk_cell h1, h3 j hj], by simp, by simp⟩⟩
      have P := seal_own (w := w) a (some ⟨G, 0, none⟩) i cap0 i i i X (fun _ => 7) d2 (by omega) (by omega) (by omega) (by omega) US LS (fun _ => 7) (fun _ => rfl) (sealed (num X (fun _ => 7) i) (7 * i)) (by rw [szs7])
      have hN := num7_lt X i
      have hle := sealed_le _ _ hN
      have hsz := sealed_size (num X (fun _ => 7) i) (7 * i)
      have hla := last_sealed _ _ hN
      have hlog := log_mark _ _ hN
      rw [← hle] at hlog
      clear US LS d1 d2 hN
      generalize sealed (num X (fun _ => 7) i) (7 * i) = S at *
      go_wp2_with fail
      refine P.mono ?_
      rintro e w2 ⟨rfl, b1, _⟩
      clear P
      go_wp2_with fail
      refine (from_own (w := w) S b1 hla (by omega) (7 * i) hlog).mono ?_
      rintro e w3 ⟨R, rfl, _, c1, c2, c3, _⟩
      clear b1 hla hlog
      have HLE := Hid.intro hle
      have hS8 : 7 * i ≤ 8 * S.size := by omega
      have hS9 : S.size ≤ 20 := by omega
      clear hle hsz
      unfold ptr
      by_cases hi10 : i = 10
      · subst hi10
        have hask : min (71 + (n : Int) % 5) 64 = 64 := by omega
        have G1 := get_fit (w := w) R S 70 64 6 _ c1 c2 c3 (by omega) hS8 (by omega) rfl rfl
        generalize hy : got (le S.data.toList) 6 64 = y at G1
        clear hy
        unfold ptr at G1
        go_wp2_with (go_at_call 12; refine (err_any 0 _ (by omega)).mono ?_; rintro e w5 ⟨rfl, rfl⟩)
        refine G1.mono ?_
        rintro e w4 ⟨rfl, f1, f2, _⟩
        clear G1 c1 c3
        have G2 := get_wrong (w := w) R S 6 65 f1 c2 f2 (by omega) (by omega) (by omega)
        unfold ptr at G2
        go_wp2_with fail
        refine G2.mono ?_
        rintro e w5 ⟨rfl, g1, g2, _⟩
        clear G2 f1 f2
        have G3 := get_wrong (w := w) R S 6 (-1) g1 c2 g2 (by omega) (by omega) (by omega)
        unfold ptr at G3
        go_wp2_with fail
        refine G3.mono ?_
        rintro e w6 ⟨rfl, j1, j2, _⟩
        clear G3 g1 g2
        go_wp2_with (first | (go_at_call 12; refine (err_any 0 _ (by omega)).mono ?_; rintro e w5 ⟨rfl, rfl⟩) | (go_at_call 7; refine (awake_own j2).mono ?_; rintro e w9 ⟨rfl, hb9⟩))
        go_ret
        exact ⟨rfl, by assumption⟩
      · have hi9 : i ≤ 9 := by omega
        obtain ⟨t, ht⟩ : ∃ t : Nat, min (7 * (i : Int) + 1 + (n : Int) % 5) 64 = (t : Int) := ⟨(min (7 * (i : Int) + 1 + (n : Int) % 5) 64).toNat, by omega⟩
        have ht1 : 7 * i < t := by omega
        have ht2 : t ≤ 64 := by omega
        have G1 := get_over (w := w) R S (7 * i) t c1 c2 c3 (by omega) hS8 ht2 ht1
        unfold ptr at G1
        go_wp2_with (go_at_call 12; refine (err_any 0 _ (by omega)).mono ?_; rintro e w5 ⟨rfl, rfl⟩)
        refine G1.mono ?_
        rintro e w4 ⟨rfl, f1, f2, _⟩
        clear G1 c1 c3
        have G2 := get_wrong (w := w) R S (7 * i) 65 f1 c2 f2 (by omega) (by omega) (by omega)
        unfold ptr at G2
        go_wp2_with fail
        refine G2.mono ?_
        rintro e w5 ⟨rfl, g1, g2, _⟩
        clear G2 f1 f2
        have G3 := get_wrong (w := w) R S (7 * i) (-1) g1 c2 g2 (by omega) (by omega) (by omega)
        unfold ptr at G3
        go_wp2_with fail
        refine G3.mono ?_
        rintro e w6 ⟨rfl, j1, j2, _⟩
        clear G3 g1 g2 ht ht1 ht2
        have L1 := left_any R S (7 * i) w6 j1
        unfold ptr at L1
        go_wp2_with (first | (go_at_call 12; refine (err_any 2 _ (by omega)).mono ?_; rintro e w5 ⟨rfl, rfl⟩) | (go_at_call 12; refine (err_any 1 _ (by omega)).mono ?_; rintro e w5 ⟨rfl, rfl⟩) | (go_at_call 15; refine L1.mono ?_; rintro e w5 ⟨rfl, rfl⟩))
        clear L1
        go_loopw [17] (fun iv wr => DnRel w R S i iv wr) (fun iv _ => (intOf iv + 1).toNat)
        case atStart => exact ⟨i, Nat.le_refl _, by go_num, j1, j2⟩
        case round =>
          clear j1 j2
          obtain ⟨j, hj, rfl, j1, j2⟩ := hrel
          by_cases hj0 : j = 0
          · subst hj0
            have L1 := left_any R S 0 wr j1
            unfold ptr at L1
            go_wp2_with (first | (go_at_call 15; refine L1.mono ?_; rintro e w5 ⟨rfl, rfl⟩) | (go_at_call 7; refine (awake_own j2).mono ?_; rintro e w9 ⟨rfl, hb9⟩))
            go_ret
            exact ⟨rfl, by assumption⟩
          · obtain ⟨m, rfl⟩ : ∃ m, j = m + 1 := ⟨j - 1, by omega⟩
            obtain ⟨x, rfl, hx⟩ := HX.out (by omega)
            obtain ⟨cx, bx⟩ := hx m (by omega)
            clear hx
            have hy : got (le S.data.toList) (7 * m) 7 = X m % 128 := by rw [HLE.out]; exact got7 X i m (by omega)
            have G1 := get_fit (w := w) R S (7 * (m + 1)) 7 (7 * m) _ j1 c2 j2 (by omega) (by omega) (by omega) rfl hy
            have hand : bits .and .u64 (X m : Int) 127 = ((X m % 128 : Nat) : Int) := by
              rw [show (127 : Int) = ((2 ^ 7 - 1 : Nat) : Int) from rfl, u64_and_nat _ _ bx (by decide), Nat.and_two_pow_sub_one_eq_mod]
            clear hy
            generalize X m % 128 = y at *
            have hlm : m < n0 := by omega
            unfold ptr at G1
            go_wp2_with fail
            refine G1.mono ?_
            rintro e w4 ⟨rfl, f1, f2, _⟩
            clear G1 j1 j2
            have cx4 : w4.cell? (x.add m) = some (.int .u64 (X m : Nat)) := by rw [f2.cell (World.block_lt_of_cell? _ _ cx)]; exact cx
            clear cx
            go_wp2_with (go_at_call 12; refine (err_any 0 _ (by omega)).mono ?_; rintro e w5 ⟨rfl, rfl⟩)
            go_roundw
            case rel => exact ⟨m, by omega, by go_num, f1, f2⟩
            case measure => simp [intOf]

theorem walk (a0 : Option Addr) (len0 cap0 : Nat) (z0 : List Int) (a1 : Int) (w : World) (w0 : IsRow .u64 w a0 len0 cap0 z0) (w1 : (Lit.int .u8 a1).wf = true) :
    Calls Try.prog 5 #[.slice a0 len0 cap0, .int .u8 a1] w fun e w' => e = .returned (.bool true) ∧ Below w.heap.size w w' := by
  obtain ⟨b0, b1, b2, r0⟩ := row_nat w0 18446744073709551616 (fun n h => by have := bounds_u64 h; omega)
  unfold maxLen at b0 b2
  have h1 := bounds_u8 w1
  obtain ⟨n, rfl⟩ := Int.eq_ofNat_of_zero_le h1.1
  exact core a0 len0 cap0 n (min len0 10) (fun i => (z0.getD i 0).toNat) w rfl (by omega) b1 (by omega) r0

/-! ### THE ROW's STEP: WRITTEN OUT: LEAVE IT -/
set_option maxRecDepth 100000 in
theorem lifted (os : Os) (started : os.Started) (H : Type) (enc : TypeId × Value → H) :
    ReturnsInHanded {} Try.checked os 5 .any (Rows.backMoreSpec.pre6 enc Try.prog Try.f5 Rows.backMoreRow.domain false) (Rows.backMoreSpec.post enc Try.prog Try.f5 false true false false) := by
  refine returnsInHanded_of_change (C := Try.checked) own started (by kernel_rfl) Try.func5
    (ChangeSpec.witness6 (enc := enc) (C := Try.checked) false ⟨#[], #[.slice none 0 0, .int .u8 0], []⟩ 8 (by kernel_rfl) (by kernel_rfl) (by kernel_rfl) (by kernel_rfl)) ?_
  intro W base args ds gs before hval0 hW hcnd _
  have hval : ∀ (j : Nat) t v, Try.f5.params[j]? = some t → args[j]? = some v → Value.okWide Try.prog W .any base t v := hval0
  have hW' := hW
  obtain ⟨p, q, hA0, hV, rfl, hfz, hnd⟩ := hW
  have hA : DataW.TrodAll enc Try.prog W 0 (fun _ => true) true Try.f5.params.toList args.toList ds p := hA0
  rw [Try.params5] at hA hval
  obtain ⟨v0, vs0, d0, ds0, p0, q0, hargs, rfl, rfl, h0, r0⟩ := trodAll_cons hA
  obtain ⟨v1, vs1, d1, ds1, p1, q1, rfl, rfl, rfl, h1, r1⟩ := trodAll_cons r0
  obtain ⟨rfl, rfl, rfl⟩ := trodAll_nil r1
  obtain rfl : args = #[v0, v1] := by cases args; simp_all
  obtain ⟨rfl, rfl⟩ := trodVars_none hV
  obtain ⟨a0, len0, cap0, rfl⟩ := okWide_slice Try.underlying22 (hval 0 22 v0 rfl rfl)
  have k0 := h0
  have lt0 : ∀ x ∈ p0, x.block < W.heap.size := by obtain ⟨m, hm⟩ := k0; exact DataW.trod_lt m _ _ _ hm
  obtain ⟨z0, w0⟩ : ∃ zs, IsRow .u64 W a0 len0 cap0 zs := by
    obtain ⟨fuel, hf⟩ := h0
    rcases open_ints Try.underlying22 Try.underlying33 (by kernel_rfl) hf with ⟨hcs, _⟩ | ⟨x, l, c, zs, hcs, _, hl, hm, hz, _, hcell, hwz⟩
    · simp [Value.cells] at hcs
      obtain ⟨rfl, rfl, rfl⟩ := hcs
      exact ⟨[], .inl ⟨rfl, rfl, rfl, rfl⟩⟩
    · simp [Value.cells] at hcs
      obtain ⟨rfl, rfl, rfl⟩ := hcs
      exact ⟨zs, .inr ⟨_, rfl, hl, hm, by simpa using hz, hcell, hwz⟩⟩
  obtain ⟨a1, rfl, rfl, rfl, w1⟩ := open_int Try.underlying5 (hval 1 5 v1 rfl rfl) h1
  clear hA0 hval0
  refine (walk a0 len0 cap0 z0 a1 W w0 w1).mono fun e W' ⟨he, bel⟩ => ?_
  subst he
  exact ⟨_, rfl, _, _, _, [], _, [], hW', trodAll_mk1 (shut_bool Try.underlying4 _), (trodAll_cons_mk (Below.trod laidOut (by kernel_rfl) (of_decide_eq_true (by kernel_rfl)) k0 bel lt0) (trodAll_cons_mk (shut_int Try.underlying5 w1) trodAll_mk0)), rfl, bel.frame _, fun h => by cases h⟩

theorem over : Rows.backMoreRow.holds Try.pinned (OpenSpec.ofChange Rows.backMoreSpec) :=
  OpenClaim.holds_of_wide 5 Try.f5 rfl rfl rfl rfl rfl rfl rfl ⟨rfl, rfl, rfl, rfl, rfl⟩ rfl rfl rfl rfl rfl (by kernel_rfl) Try.func5 (by kernel_rfl)
    (of_decide_eq_true (by kernel_rfl)) (by unfold Func.isWrapper; first | (rw [if_pos (by decide +kernel)]; kernel_rfl) | (rw [if_neg (by decide +kernel)]; exact ⟨rfl, rfl⟩))
    (fun os started H enc _ => lifted os started H enc)

/-- ████ THE STATEMENT ████ -/
theorem proved : Rows.BackMoreSaid := over
end Go.Proofs.Ytjojofcajabkeaa.backMore

namespace Go.Proofs.Ytjojofcajabkeaa
theorem backMore_holds : Rows.BackMoreSaid := backMore.proved
#print axioms backMore_holds
end Go.Proofs.Ytjojofcajabkeaa
