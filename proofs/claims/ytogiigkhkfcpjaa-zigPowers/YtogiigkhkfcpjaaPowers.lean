/-
  ZigPowers returns true for every input, and what it was handed reads as before; no condition.
-/
import Derived.Test.YtogiigkhkfcpjaaRows
import Derived.WalkKit
import Derived.ProofKit
import Derived.OpenShut
import Derived.Deep.RegionHeld3
import Derived.BigRegion
import Derived.Test.YtogiigkhkfcpjaaZigB
namespace Go.Proofs.Ytogiigkhkfcpjaa.zigPowers
open Go.ChangeShapes Go.WideShapes Go.ChangeAt Go.RowKit
set_option linter.unusedVariables false      -- a walk need not use every 'w<i>' (that an integer argument fits its kind)

theorem own : ownKnob Try.prog.godebug = none := by kernel_rfl

theorem bt {w a b : World} (h : Below w.heap.size w a) (k : Below a.heap.size a b) : Below w.heap.size w b := h.trans (k.mono h.size)
theorem ba {w a : World} (h : Below w.heap.size w a) (o : Obj) : Below w.heap.size w (a.alloc o) := h.alloc h.size o
theorem facts (K P : Int) (k0 : 0 ≤ K) (k1 : K < 63) (hP : P = hi (K + 1)) :
    1 ≤ P ∧ P ≤ 4611686018427387904 ∧ IntKind.i64.wrap (2 ^ K.toNat) = P ∧ IntKind.u64.wrap (2 ^ K.toNat) = P ∧
      blen (zmap P) = K + 2 ∧ srest (zmap P) = 0 ∧ blen (zmap (-P)) = K + 1 ∧ srest (zmap (-P)) = P - 1 ∧ blen (zmap (-P - 1)) = K + 2 ∧ srest (zmap (-P - 1)) = 1 ∧
      blen (zmap (P - 1)) ≤ K + 1 ∧ (K = 0 ∨ blen (zmap (P - 1)) = K + 1) := by
  have p := hi_pos (K + 1)
  have l : P ≤ 4611686018427387904 := by
    have := hi_le (K + 1 + 1) (by omega)
    rw [hi_succ _ (by omega)] at this; omega
  have e2 : hi (K + 2) = 2 * P := by rw [show K + 2 = K + 1 + 1 from by omega, hi_succ _ (by omega), hP]
  have eP : (2 : Int) ^ K.toNat = P := by
    rw [hP]; unfold hi; rw [show (K + 1).toNat - 1 = K.toNat from by omega]
  have z1 : zmap P = 2 * P := zmap_pos _ (by omega)
  have z2 : zmap (-P) = 2 * P - 1 := by rw [zmap_neg _ (by omega)]; omega
  have z3 : zmap (-P - 1) = 2 * P + 1 := by rw [zmap_neg _ (by omega)]; omega
  have z4 : zmap (P - 1) = 2 * P - 2 := by rw [zmap_pos _ (by omega)]; omega
  have b1 : blen (2 * P) = K + 2 := blen_of _ _ (by omega) (by omega) (by omega) (by omega)
  have b2 : blen (2 * P - 1) = K + 1 := blen_of _ _ (by omega) (by omega) (by omega) (by omega)
  have b3 : blen (2 * P + 1) = K + 2 := blen_of _ _ (by omega) (by omega) (by omega) (by omega)
  rw [z1, z2, z3, z4, b1, b2, b3]
  refine ⟨by omega, l, ?_, ?_, rfl, ?_, rfl, ?_, rfl, ?_, ?_, ?_⟩
  · rw [eP, IntKind.wrap_i64]; omega
  · rw [eP]; simp [IntKind.wrap, IntKind.bits, IntKind.signed]; omega
  · unfold srest; rw [if_neg (by omega), b1]; omega
  · unfold srest; rw [if_neg (by omega), b2]; omega
  · unfold srest; rw [if_neg (by omega), b3]; omega
  · rw [← b2]; exact blen_mono _ _ (by omega) (by omega) (by omega)
  · by_cases e : K = 0
    · exact .inl e
    · right
      have : P = 2 * hi K := by rw [hP, hi_succ _ (by omega)]
      have := hi_pos K
      exact blen_of _ _ (by omega) (by omega) (by omega) (by omega)

theorem eq_part (a b : Int) (w : World) : (binOp .eql 24 (.agg #[.int .i64 a, .int .u64 b]) (.agg #[.int .i64 a, .int .u64 b])).run Try.prog w = .ok (.bool true) w := by
  simp [go_sem]
/-- An operation is taken first; where it puts its answer is named. -/
theorem take' {P : Program} {md : Region.Mode} {ops : Array Oper} {Q : Exit → Act → World → Prop} {S : World → Prop} {i : Nat} {oi : Oper} {d : Option Tmp} {v : Value} {fuel : Nat} {listed : Array Bool} {a : Act} {w : World} (hi : ops[i]? = some oi) (hd : oi.dst = d)
    (hs : Region.noSelect ops = true) (hf : Region.free md ops listed i = true) (hr : (Region.ready md ops listed).contains i = true)
    (hQ : ∀ c a w, Q (.panic c) (a.put d v) w → Q (.panic c) a w) (hy : YieldsIf P ops S oi v a) (hS : S w)
    (h : wpAnyH P md ops Q S fuel (listed.setIfInBounds i true) (a.put d v) w) : wpAnyH P md ops Q S (fuel + 1) listed a w := by
  subst hd
  exact wpAnyH_take hi hs hf hr hQ hy hS h
theorem new_cell (w : World) (x y : Value) (t : TypeId) : (w.alloc (.cells #[x, y] t)).cell? ⟨w.heap.size, 0, none⟩ = some x ∧ (w.alloc (.cells #[x, y] t)).cell? ⟨w.heap.size, 1, none⟩ = some y := by
  constructor <;> simp
theorem old_cell (w : World) (o : Obj) (b i : Nat) (h : b < w.heap.size) : (w.alloc o).cell? ⟨b, i, none⟩ = w.cell? ⟨b, i, none⟩ :=
  ((Below.refl w.heap.size w).alloc (Nat.le_refl _) o).cell (p := ⟨b, i, none⟩) h
theorem sz (w : World) (o : Obj) : (w.alloc o).heap.size = w.heap.size + 1 := by simp
theorem four (w : World) (a0 a1 b0 b1 c0 c1 d0 d1 : Value) :
    let W := ((((w.alloc (.cells #[a0, a1] 24)).alloc (.cells #[b0, b1] 24)).alloc (.cells #[c0, c1] 24)).alloc (.cells #[d0, d1] 24)).drew
    W.cell? ⟨w.heap.size, 0, none⟩ = some a0 ∧ W.cell? ⟨w.heap.size, 1, none⟩ = some a1 ∧ W.cell? ⟨w.heap.size + 1, 0, none⟩ = some b0 ∧ W.cell? ⟨w.heap.size + 1 + 1, 0, none⟩ = some c0 ∧ W.cell? ⟨w.heap.size + 1 + 1, 1, none⟩ = some c1 ∧
      W.cell? ⟨w.heap.size + 1 + 1 + 1, 0, none⟩ = some d0 ∧ W.cell? ⟨w.heap.size + 1 + 1 + 1, 1, none⟩ = some d1 := by
  intro W
  have s1 := sz w (.cells #[a0, a1] 24)
  have s2 := sz (w.alloc (.cells #[a0, a1] 24)) (.cells #[b0, b1] 24)
  have s3 := sz ((w.alloc (.cells #[a0, a1] 24)).alloc (.cells #[b0, b1] 24)) (.cells #[c0, c1] 24)
  have n1 := new_cell w a0 a1 24
  have n2 := new_cell (w.alloc (.cells #[a0, a1] 24)) b0 b1 24
  have n3 := new_cell ((w.alloc (.cells #[a0, a1] 24)).alloc (.cells #[b0, b1] 24)) c0 c1 24
  have n4 := new_cell (((w.alloc (.cells #[a0, a1] 24)).alloc (.cells #[b0, b1] 24)).alloc (.cells #[c0, c1] 24)) d0 d1 24
  have hd : ∀ a, W.cell? a = ((((w.alloc (.cells #[a0, a1] 24)).alloc (.cells #[b0, b1] 24)).alloc (.cells #[c0, c1] 24)).alloc (.cells #[d0, d1] 24)).cell? a := fun _ => rfl
  rw [s3, s2, s1] at n4
  rw [s2, s1] at n3
  rw [s1] at n2
  refine ⟨?_, ?_, ?_, ?_, ?_, ?_, ?_⟩
  · rw [hd, old_cell _ _ _ _ (by omega), old_cell _ _ _ _ (by omega), old_cell _ _ _ _ (by omega)]; exact n1.1
  · rw [hd, old_cell _ _ _ _ (by omega), old_cell _ _ _ _ (by omega), old_cell _ _ _ _ (by omega)]; exact n1.2
  · rw [hd, old_cell _ _ _ _ (by omega), old_cell _ _ _ _ (by omega)]; exact n2.1
  · rw [hd, old_cell _ _ _ _ (by omega)]; exact n3.1
  · rw [hd, old_cell _ _ _ _ (by omega)]; exact n3.2
  · rw [hd]; exact n4.1
  · rw [hd]; exact n4.2

theorem fourB (w w4 : World) (a0 a1 b0 b1 c0 c1 d0 d1 : Value)
    (hb : Below ((((w.alloc (.cells #[a0, a1] 24)).alloc (.cells #[b0, b1] 24)).alloc (.cells #[c0, c1] 24)).alloc (.cells #[d0, d1] 24)).drew.heap.size ((((w.alloc (.cells #[a0, a1] 24)).alloc (.cells #[b0, b1] 24)).alloc (.cells #[c0, c1] 24)).alloc (.cells #[d0, d1] 24)).drew w4) :
    w4.cell? ⟨w.heap.size, 0, none⟩ = some a0 ∧ w4.cell? ⟨w.heap.size, 1, none⟩ = some a1 ∧ w4.cell? ⟨w.heap.size + 1, 0, none⟩ = some b0 ∧ w4.cell? ⟨w.heap.size + 1 + 1, 0, none⟩ = some c0 ∧ w4.cell? ⟨w.heap.size + 1 + 1, 1, none⟩ = some c1 ∧
      w4.cell? ⟨w.heap.size + 1 + 1 + 1, 0, none⟩ = some d0 ∧ w4.cell? ⟨w.heap.size + 1 + 1 + 1, 1, none⟩ = some d1 := by
  have f := four w a0 a1 b0 b1 c0 c1 d0 d1
  have hs : ((((w.alloc (.cells #[a0, a1] 24)).alloc (.cells #[b0, b1] 24)).alloc (.cells #[c0, c1] 24)).alloc (.cells #[d0, d1] 24)).drew.heap.size = w.heap.size + 4 := by
    show ((((w.alloc (.cells #[a0, a1] 24)).alloc (.cells #[b0, b1] 24)).alloc (.cells #[c0, c1] 24)).alloc (.cells #[d0, d1] 24)).heap.size = w.heap.size + 4
    rw [sz, sz, sz, sz]
  obtain ⟨hc, _⟩ := bcell hb
  rw [hs] at hc
  refine ⟨?_, ?_, ?_, ?_, ?_, ?_, ?_⟩
  · rw [hc _ _ (by omega)]; exact f.1
  · rw [hc _ _ (by omega)]; exact f.2.1
  · rw [hc _ _ (by omega)]; exact f.2.2.1
  · rw [hc _ _ (by omega)]; exact f.2.2.2.1
  · rw [hc _ _ (by omega)]; exact f.2.2.2.2.1
  · rw [hc _ _ (by omega)]; exact f.2.2.2.2.2.1
  · rw [hc _ _ (by omega)]; exact f.2.2.2.2.2.2

set_option maxRecDepth 100000 in
set_option maxHeartbeats 2000000 in
theorem core (a : Int) (w : World) (a1 : 0 ≤ a) (a2 : a ≤ 255) :
    Calls Try.prog 6 #[.int .u8 a] w fun e w' => e = .returned (.bool true) ∧ Below w.heap.size w w' := by
  obtain ⟨K, hK⟩ : ∃ K, a % 63 = K := ⟨_, rfl⟩
  have k0 : 0 ≤ K := by omega
  have k1 : K < 63 := by omega
  obtain ⟨P, hP⟩ : ∃ P, P = hi (K + 1) := ⟨_, rfl⟩
  obtain ⟨p1, p2, f1, f2, f3, f4, f5, f6, f7, f8, f9, f10⟩ := facts K P k0 k1 hP
  obtain ⟨B, hB⟩ : ∃ B, blen (zmap (P - 1)) = B := ⟨_, rfl⟩
  rw [hB] at f9 f10
  have O : Hid (K = 0 ∨ B = K + 1) := f10
  have hP0 := hP
  clear hP f10
  have e1 : IntKind.i64.wrap (K + 1) = K + 1 := by rw [IntKind.wrap_i64]; omega
  have e2 : IntKind.i64.wrap (K + 2) = K + 2 := by rw [IntKind.wrap_i64]; omega
  have e3 : IntKind.u64.wrap (P - 1) = P - 1 := by simp [IntKind.wrap, IntKind.bits, IntKind.signed]; omega
  by_cases h : K = 0
  · clear O e1 e2 e3
    obtain rfl : P = 1 := by rw [h] at hP0; rw [hP0]; decide
    subst h
    clear hP0 f1 f2 f3 f4 f5 f6 f7 f8 f9 hB p1 p2 k0 k1
    have g1 : blen (zmap 1) = 2 := by decide
    have g2 : srest (zmap 1) = 0 := by decide
    have g3 : blen (zmap 0) = 0 := by decide
    have g4 : srest (zmap 0) = 0 := by decide
    have g5 : blen (zmap (-1)) = 1 := by decide
    have g6 : srest (zmap (-1)) = 0 := by decide
    have g7 : blen (zmap (-2)) = 2 := by decide
    have g8 : srest (zmap (-2)) = 1 := by decide
    go_enter Try.func6, Try.ntmps6
    go_wp2_with (first | (go_at_call 14; refine (split_any _ _ (by omega) (by omega)).mono ?_; rintro e w' ⟨rfl, hb⟩))
    clear g1 g2 g3 g4 g5 g6 g7 g8
    generalize hW : (((w'.alloc (.cells #[.int .i64 2, .int .u64 0] 24)).alloc (.cells #[.int .i64 0, .int .u64 0] 24)).alloc (.cells #[.int .i64 1, .int .u64 0] 24)).alloc (.cells #[.int .i64 2, .int .u64 1] 24) = W
    have F := four w' (.int .i64 2) (.int .u64 0) (.int .i64 0) (.int .u64 0) (.int .i64 1) (.int .u64 0) (.int .i64 2) (.int .u64 1)
    simp only [hW] at F
    have L : Below w.heap.size w W := by rw [← hW]; repeat (first | assumption | refine ba ?_ _ | refine bt ?_ (by assumption))
    obtain ⟨c0, c1, c2, c3, c4, c5, c6⟩ := F
    have L' : Hid (Below w.heap.size w W) := L
    clear hW L hK a1 a2
    have v1 : IntKind.i64.wrap 1 = 1 := by decide
    have v2 : IntKind.i64.wrap 2 = 2 := by decide
    have v3 : IntKind.u64.wrap 0 = 0 := by decide
    have v4 : IntKind.u64.wrap 1 = 1 := by decide
    refine wp_region_noPanic ?_
    refine wp_region_held_drew (S := (fun W => W.cell? ⟨w'.heap.size, 0, none⟩ = some (.int .i64 2) ∧ W.cell? ⟨w'.heap.size, 1, none⟩ = some (.int .u64 0) ∧ W.cell? ⟨w'.heap.size + 1, 0, none⟩ = some (.int .i64 0) ∧ W.cell? ⟨w'.heap.size + 1 + 1, 0, none⟩ = some (.int .i64 1) ∧ W.cell? ⟨w'.heap.size + 1 + 1, 1, none⟩ = some (.int .u64 0) ∧ W.cell? ⟨w'.heap.size + 1 + 1 + 1, 0, none⟩ = some (.int .i64 2) ∧ W.cell? ⟨w'.heap.size + 1 + 1 + 1, 1, none⟩ = some (.int .u64 1))) (by kernel_rfl) ⟨c0, c1, c2, c3, c4, c5, c6⟩ (fun hHeld => ?_)
    refine take' (i := 0) (d := some 26) (v := ?_) rfl rfl (by kernel_rfl) (by kernel_rfl) (by kernel_rfl) (fun _ _ _ h => h) (Or.inl ⟨by rfl, ?_⟩) (by assumption) ?_
    rotate_left
    · intro w hSw; (try dsimp only at hSw); go_simp; try with_reducible rfl
    try simp only [Act.put, List.setIfInBounds_toArray, List.set_cons_zero, List.set_cons_succ]
    refine take' (i := 1) (d := some 27) (v := ?_) rfl rfl (by kernel_rfl) (by kernel_rfl) (by kernel_rfl) (fun _ _ _ h => h) (Or.inl ⟨by rfl, ?_⟩) (by assumption) ?_
    rotate_left
    · intro w hSw; (try dsimp only at hSw); go_simp; try with_reducible rfl
    try simp only [Act.put, List.setIfInBounds_toArray, List.set_cons_zero, List.set_cons_succ]
    refine take' (i := 2) (d := some 28) (v := ?_) rfl rfl (by kernel_rfl) (by kernel_rfl) (by kernel_rfl) (fun _ _ _ h => h) (Or.inl ⟨by rfl, ?_⟩) (by assumption) ?_
    rotate_left
    · intro w hSw; (try dsimp only at hSw); go_simp; try with_reducible rfl
    try simp only [Act.put, List.setIfInBounds_toArray, List.set_cons_zero, List.set_cons_succ]
    refine take' (i := 3) (d := some 29) (v := ?_) rfl rfl (by kernel_rfl) (by kernel_rfl) (by kernel_rfl) (fun _ _ _ h => h) (Or.inl ⟨by rfl, ?_⟩) (by assumption) ?_
    rotate_left
    · intro w hSw; (try dsimp only at hSw); go_simp; try with_reducible rfl
    try simp only [Act.put, List.setIfInBounds_toArray, List.set_cons_zero, List.set_cons_succ]
    refine take' (i := 4) (d := some 30) (v := ?_) rfl rfl (by kernel_rfl) (by kernel_rfl) (by kernel_rfl) (fun _ _ _ h => h) (Or.inl ⟨by rfl, ?_⟩) (by assumption) ?_
    rotate_left
    · intro w hSw; (try dsimp only at hSw); go_simp; try with_reducible rfl
    try simp only [Act.put, List.setIfInBounds_toArray, List.set_cons_zero, List.set_cons_succ]
    refine take' (i := 5) (d := some 31) (v := ?_) rfl rfl (by kernel_rfl) (by kernel_rfl) (by kernel_rfl) (fun _ _ _ h => h) (Or.inl ⟨by rfl, ?_⟩) (by assumption) ?_
    rotate_left
    · intro w hSw; (try dsimp only at hSw); go_simp; try with_reducible rfl
    try simp only [Act.put, List.setIfInBounds_toArray, List.set_cons_zero, List.set_cons_succ]
    refine take' (i := 6) (d := some 32) (v := ?_) rfl rfl (by kernel_rfl) (by kernel_rfl) (by kernel_rfl) (fun _ _ _ h => h) (Or.inl ⟨by rfl, ?_⟩) (by assumption) ?_
    rotate_left
    · intro w hSw; (try dsimp only at hSw); go_simp; try with_reducible rfl
    try simp only [Act.put, List.setIfInBounds_toArray, List.set_cons_zero, List.set_cons_succ]
    refine take' (i := 7) (d := some 33) (v := ?_) rfl rfl (by kernel_rfl) (by kernel_rfl) (by kernel_rfl) (fun _ _ _ h => h) (Or.inl ⟨by rfl, ?_⟩) (by assumption) ?_
    rotate_left
    · intro w hSw; (try dsimp only at hSw); go_simp; try with_reducible rfl
    try simp only [Act.put, List.setIfInBounds_toArray, List.set_cons_zero, List.set_cons_succ]
    refine take' (i := 8) (d := some 34) (v := ?_) rfl rfl (by kernel_rfl) (by kernel_rfl) (by kernel_rfl) (fun _ _ _ h => h) (Or.inl ⟨by rfl, ?_⟩) (by assumption) ?_
    rotate_left
    · intro w hSw; (try dsimp only at hSw); go_simp; try with_reducible rfl
    try simp only [Act.put, List.setIfInBounds_toArray, List.set_cons_zero, List.set_cons_succ]
    refine take' (i := 9) (d := some 35) (v := ?_) rfl rfl (by kernel_rfl) (by kernel_rfl) (by kernel_rfl) (fun _ _ _ h => h) (Or.inl ⟨by rfl, ?_⟩) (by assumption) ?_
    rotate_left
    · intro w hSw; (try dsimp only at hSw); go_simp; try with_reducible rfl
    try simp only [Act.put, List.setIfInBounds_toArray, List.set_cons_zero, List.set_cons_succ]
    refine take' (i := 10) (d := some 36) (v := ?_) rfl rfl (by kernel_rfl) (by kernel_rfl) (by kernel_rfl) (fun _ _ _ h => h) (Or.inl ⟨by rfl, ?_⟩) (by assumption) ?_
    rotate_left
    · intro w hSw; (try dsimp only at hSw); go_simp; try with_reducible rfl
    try simp only [Act.put, List.setIfInBounds_toArray, List.set_cons_zero, List.set_cons_succ]
    refine take' (i := 11) (d := some 37) (v := ?_) rfl rfl (by kernel_rfl) (by kernel_rfl) (by kernel_rfl) (fun _ _ _ h => h) (Or.inl ⟨by rfl, ?_⟩) (by assumption) ?_
    rotate_left
    · intro w hSw; (try dsimp only at hSw); go_simp; try with_reducible rfl
    try simp only [Act.put, List.setIfInBounds_toArray, List.set_cons_zero, List.set_cons_succ]
    refine take' (i := 12) (d := some 38) (v := ?_) rfl rfl (by kernel_rfl) (by kernel_rfl) (by kernel_rfl) (fun _ _ _ h => h) (Or.inl ⟨by rfl, ?_⟩) (by assumption) ?_
    rotate_left
    · intro w hSw; (try dsimp only at hSw); go_simp; try with_reducible rfl
    try simp only [Act.put, List.setIfInBounds_toArray, List.set_cons_zero, List.set_cons_succ]
    refine take' (i := 13) (d := some 39) (v := ?_) rfl rfl (by kernel_rfl) (by kernel_rfl) (by kernel_rfl) (fun _ _ _ h => h) (Or.inl ⟨by rfl, ?_⟩) (by assumption) ?_
    rotate_left
    · intro w hSw; (try dsimp only at hSw); go_simp; try with_reducible rfl
    try simp only [Act.put, List.setIfInBounds_toArray, List.set_cons_zero, List.set_cons_succ]
    refine take' (i := 14) (d := some 40) (v := ?_) rfl rfl (by kernel_rfl) (by kernel_rfl) (by kernel_rfl) (fun _ _ _ h => h) (Or.inl ⟨by rfl, ?_⟩) (by assumption) ?_
    rotate_left
    · intro w hSw; (try dsimp only at hSw); go_simp; try with_reducible rfl
    try simp only [Act.put, List.setIfInBounds_toArray, List.set_cons_zero, List.set_cons_succ]
    refine take' (i := 15) (d := some 41) (v := ?_) rfl rfl (by kernel_rfl) (by kernel_rfl) (by kernel_rfl) (fun _ _ _ h => h) (Or.inl ⟨by rfl, ?_⟩) (by assumption) ?_
    rotate_left
    · intro w hSw; (try dsimp only at hSw); go_simp; try with_reducible rfl
    try simp only [Act.put, List.setIfInBounds_toArray, List.set_cons_zero, List.set_cons_succ]
    refine take' (i := 16) (d := some 42) (v := ?_) rfl rfl (by kernel_rfl) (by kernel_rfl) (by kernel_rfl) (fun _ _ _ h => h) (Or.inl ⟨by rfl, ?_⟩) (by assumption) ?_
    rotate_left
    · intro w hSw; (try dsimp only at hSw); go_simp; try with_reducible rfl
    try simp only [Act.put, List.setIfInBounds_toArray, List.set_cons_zero, List.set_cons_succ]
    refine take' (i := 17) (d := some 43) (v := ?_) rfl rfl (by kernel_rfl) (by kernel_rfl) (by kernel_rfl) (fun _ _ _ h => h) (Or.inl ⟨by rfl, ?_⟩) (by assumption) ?_
    rotate_left
    · intro w hSw; (try dsimp only at hSw); go_simp; try with_reducible rfl
    try simp only [Act.put, List.setIfInBounds_toArray, List.set_cons_zero, List.set_cons_succ]
    refine take' (i := 18) (d := some 44) (v := ?_) rfl rfl (by kernel_rfl) (by kernel_rfl) (by kernel_rfl) (fun _ _ _ h => h) (Or.inl ⟨by rfl, ?_⟩) (by assumption) ?_
    rotate_left
    · intro w hSw; (try dsimp only at hSw); go_simp; try with_reducible rfl
    try simp only [Act.put, List.setIfInBounds_toArray, List.set_cons_zero, List.set_cons_succ]
    refine take' (i := 19) (d := some 45) (v := ?_) rfl rfl (by kernel_rfl) (by kernel_rfl) (by kernel_rfl) (fun _ _ _ h => h) (Or.inl ⟨by rfl, ?_⟩) (by assumption) ?_
    rotate_left
    · intro w hSw; (try dsimp only at hSw); go_simp; try with_reducible rfl
    try simp only [Act.put, List.setIfInBounds_toArray, List.set_cons_zero, List.set_cons_succ]
    refine take' (i := 20) (d := some 46) (v := ?_) rfl rfl (by kernel_rfl) (by kernel_rfl) (by kernel_rfl) (fun _ _ _ h => h) (Or.inl ⟨by rfl, ?_⟩) (by assumption) ?_
    rotate_left
    · intro w hSw; (try dsimp only at hSw); go_simp; try with_reducible rfl
    try simp only [Act.put, List.setIfInBounds_toArray, List.set_cons_zero, List.set_cons_succ]
    refine take' (i := 21) (d := some 47) (v := ?_) rfl rfl (by kernel_rfl) (by kernel_rfl) (by kernel_rfl) (fun _ _ _ h => h) (Or.inl ⟨by rfl, ?_⟩) (by assumption) ?_
    rotate_left
    · intro w hSw; (try dsimp only at hSw); go_simp; try with_reducible rfl
    try simp only [Act.put, List.setIfInBounds_toArray, List.set_cons_zero, List.set_cons_succ]
    refine take' (i := 22) (d := some 48) (v := ?_) rfl rfl (by kernel_rfl) (by kernel_rfl) (by kernel_rfl) (fun _ _ _ h => h) (Or.inl ⟨by rfl, ?_⟩) (by assumption) ?_
    rotate_left
    · intro w hSw; (try dsimp only at hSw); go_simp; try with_reducible rfl
    try simp only [Act.put, List.setIfInBounds_toArray, List.set_cons_zero, List.set_cons_succ]
    refine take' (i := 23) (d := some 49) (v := ?_) rfl rfl (by kernel_rfl) (by kernel_rfl) (by kernel_rfl) (fun _ _ _ h => h) (Or.inl ⟨by rfl, ?_⟩) (by assumption) ?_
    rotate_left
    · intro w hSw; (try dsimp only at hSw); go_simp; try with_reducible rfl
    try simp only [Act.put, List.setIfInBounds_toArray, List.set_cons_zero, List.set_cons_succ]
    refine take' (i := 24) (d := some 50) (v := ?_) rfl rfl (by kernel_rfl) (by kernel_rfl) (by kernel_rfl) (fun _ _ _ h => h) (Or.inl ⟨by rfl, ?_⟩) (by assumption) ?_
    rotate_left
    · intro w hSw; (try dsimp only at hSw); go_simp; try with_reducible rfl
    try simp only [Act.put, List.setIfInBounds_toArray, List.set_cons_zero, List.set_cons_succ]
    refine take' (i := 25) (d := some 51) (v := ?_) rfl rfl (by kernel_rfl) (by kernel_rfl) (by kernel_rfl) (fun _ _ _ h => h) (Or.inl ⟨by rfl, ?_⟩) (by assumption) ?_
    rotate_left
    · intro w hSw; (try dsimp only at hSw); go_simp; try with_reducible rfl
    try simp only [Act.put, List.setIfInBounds_toArray, List.set_cons_zero, List.set_cons_succ]
    refine take' (i := 26) (d := some 52) (v := ?_) rfl rfl (by kernel_rfl) (by kernel_rfl) (by kernel_rfl) (fun _ _ _ h => h) (Or.inl ⟨by rfl, ?_⟩) (by assumption) ?_
    rotate_left
    · intro w hSw; (try dsimp only at hSw); go_simp; try with_reducible rfl
    try simp only [Act.put, List.setIfInBounds_toArray, List.set_cons_zero, List.set_cons_succ]
    refine take' (i := 27) (d := some 53) (v := ?_) rfl rfl (by kernel_rfl) (by kernel_rfl) (by kernel_rfl) (fun _ _ _ h => h) (Or.inl ⟨by rfl, ?_⟩) (by assumption) ?_
    rotate_left
    · intro w hSw; (try dsimp only at hSw); go_simp; try with_reducible rfl
    try simp only [Act.put, List.setIfInBounds_toArray, List.set_cons_zero, List.set_cons_succ]
    refine take' (i := 28) (d := some 54) (v := ?_) rfl rfl (by kernel_rfl) (by kernel_rfl) (by kernel_rfl) (fun _ _ _ h => h) (Or.inl ⟨by rfl, ?_⟩) (by assumption) ?_
    rotate_left
    · intro w hSw; (try dsimp only at hSw); go_simp; try with_reducible rfl
    try simp only [Act.put, List.setIfInBounds_toArray, List.set_cons_zero, List.set_cons_succ]
    refine take' (i := 29) (d := some 55) (v := ?_) rfl rfl (by kernel_rfl) (by kernel_rfl) (by kernel_rfl) (fun _ _ _ h => h) (Or.inl ⟨by rfl, ?_⟩) (by assumption) ?_
    rotate_left
    · intro w hSw; (try dsimp only at hSw); go_simp; try with_reducible rfl
    try simp only [Act.put, List.setIfInBounds_toArray, List.set_cons_zero, List.set_cons_succ]
    refine take' (i := 30) (d := some 56) (v := ?_) rfl rfl (by kernel_rfl) (by kernel_rfl) (by kernel_rfl) (fun _ _ _ h => h) (Or.inl ⟨by rfl, ?_⟩) (by assumption) ?_
    rotate_left
    · intro w hSw; (try dsimp only at hSw); go_simp; try with_reducible rfl
    try simp only [Act.put, List.setIfInBounds_toArray, List.set_cons_zero, List.set_cons_succ]
    refine take' (i := 31) (d := some 57) (v := ?_) rfl rfl (by kernel_rfl) (by kernel_rfl) (by kernel_rfl) (fun _ _ _ h => h) (Or.inl ⟨by rfl, ?_⟩) (by assumption) ?_
    rotate_left
    · intro w hSw; (try dsimp only at hSw); go_simp; try with_reducible rfl
    try simp only [Act.put, List.setIfInBounds_toArray, List.set_cons_zero, List.set_cons_succ]
    refine take' (i := 32) (d := some 58) (v := ?_) rfl rfl (by kernel_rfl) (by kernel_rfl) (by kernel_rfl) (fun _ _ _ h => h) (Or.inl ⟨by rfl, ?_⟩) (by assumption) ?_
    rotate_left
    · intro w hSw; (try dsimp only at hSw); go_simp; try with_reducible rfl
    try simp only [Act.put, List.setIfInBounds_toArray, List.set_cons_zero, List.set_cons_succ]
    refine take' (i := 33) (d := some 59) (v := ?_) rfl rfl (by kernel_rfl) (by kernel_rfl) (by kernel_rfl) (fun _ _ _ h => h) (Or.inl ⟨by rfl, ?_⟩) (by assumption) ?_
    rotate_left
    · intro w hSw; (try dsimp only at hSw); go_simp; try with_reducible rfl
    try simp only [Act.put, List.setIfInBounds_toArray, List.set_cons_zero, List.set_cons_succ]
    refine take' (i := 34) (d := some 60) (v := ?_) rfl rfl (by kernel_rfl) (by kernel_rfl) (by kernel_rfl) (fun _ _ _ h => h) (Or.inl ⟨by rfl, ?_⟩) (by assumption) ?_
    rotate_left
    · intro w hSw; (try dsimp only at hSw); go_simp; try with_reducible rfl
    try simp only [Act.put, List.setIfInBounds_toArray, List.set_cons_zero, List.set_cons_succ]
    refine take' (i := 35) (d := some 61) (v := ?_) rfl rfl (by kernel_rfl) (by kernel_rfl) (by kernel_rfl) (fun _ _ _ h => h) (Or.inl ⟨by rfl, ?_⟩) (by assumption) ?_
    rotate_left
    · intro w hSw; (try dsimp only at hSw); go_simp; try with_reducible rfl
    try simp only [Act.put, List.setIfInBounds_toArray, List.set_cons_zero, List.set_cons_succ]
    refine take' (i := 36) (d := some 62) (v := ?_) rfl rfl (by kernel_rfl) (by kernel_rfl) (by kernel_rfl) (fun _ _ _ h => h) (Or.inl ⟨by rfl, ?_⟩) (by assumption) ?_
    rotate_left
    · intro w hSw; (try dsimp only at hSw); go_simp; try with_reducible rfl
    try simp only [Act.put, List.setIfInBounds_toArray, List.set_cons_zero, List.set_cons_succ]
    refine take' (i := 37) (d := some 63) (v := ?_) rfl rfl (by kernel_rfl) (by kernel_rfl) (by kernel_rfl) (fun _ _ _ h => h) (Or.inl ⟨by rfl, ?_⟩) (by assumption) ?_
    rotate_left
    · intro w hSw; (try dsimp only at hSw); go_simp; try with_reducible rfl
    try simp only [Act.put, List.setIfInBounds_toArray, List.set_cons_zero, List.set_cons_succ]
    refine take' (i := 38) (d := some 64) (v := undef) rfl rfl (by kernel_rfl) (by kernel_rfl) (by kernel_rfl) (fun _ _ _ h => h) (Or.inr ⟨by rfl, rfl⟩) (by assumption) ?_
    try simp only [Act.put, List.setIfInBounds_toArray, List.set_cons_zero, List.set_cons_succ]
    refine take' (i := 39) (d := some 65) (v := undef) rfl rfl (by kernel_rfl) (by kernel_rfl) (by kernel_rfl) (fun _ _ _ h => h) (Or.inr ⟨by rfl, rfl⟩) (by assumption) ?_
    try simp only [Act.put, List.setIfInBounds_toArray, List.set_cons_zero, List.set_cons_succ]
    refine take' (i := 40) (d := some 66) (v := undef) rfl rfl (by kernel_rfl) (by kernel_rfl) (by kernel_rfl) (fun _ _ _ h => h) (Or.inr ⟨by rfl, rfl⟩) (by assumption) ?_
    try simp only [Act.put, List.setIfInBounds_toArray, List.set_cons_zero, List.set_cons_succ]
    refine take' (i := 41) (d := some 67) (v := undef) rfl rfl (by kernel_rfl) (by kernel_rfl) (by kernel_rfl) (fun _ _ _ h => h) (Or.inr ⟨by rfl, rfl⟩) (by assumption) ?_
    try simp only [Act.put, List.setIfInBounds_toArray, List.set_cons_zero, List.set_cons_succ]
    refine take' (i := 42) (d := some 68) (v := undef) rfl rfl (by kernel_rfl) (by kernel_rfl) (by kernel_rfl) (fun _ _ _ h => h) (Or.inr ⟨by rfl, rfl⟩) (by assumption) ?_
    try simp only [Act.put, List.setIfInBounds_toArray, List.set_cons_zero, List.set_cons_succ]
    refine take' (i := 43) (d := some 69) (v := ?_) rfl rfl (by kernel_rfl) (by kernel_rfl) (by kernel_rfl) (fun _ _ _ h => h) (Or.inl ⟨by rfl, ?_⟩) (by assumption) ?_
    rotate_left
    · intro w hSw; (try dsimp only at hSw); go_simp; try with_reducible rfl
    try simp only [Act.put, List.setIfInBounds_toArray, List.set_cons_zero, List.set_cons_succ]
    refine take' (i := 44) (d := some 70) (v := ?_) rfl rfl (by kernel_rfl) (by kernel_rfl) (by kernel_rfl) (fun _ _ _ h => h) (Or.inl ⟨by rfl, ?_⟩) (by assumption) ?_
    rotate_left
    · intro w hSw; (try dsimp only at hSw); go_simp; try with_reducible rfl
    try simp only [Act.put, List.setIfInBounds_toArray, List.set_cons_zero, List.set_cons_succ]
    refine take' (i := 45) (d := some 71) (v := ?_) rfl rfl (by kernel_rfl) (by kernel_rfl) (by kernel_rfl) (fun _ _ _ h => h) (Or.inl ⟨by rfl, ?_⟩) (by assumption) ?_
    rotate_left
    · intro w hSw; (try dsimp only at hSw); go_simp; try with_reducible rfl
    try simp only [Act.put, List.setIfInBounds_toArray, List.set_cons_zero, List.set_cons_succ]
    refine wpAnyH_ready (rs := [46]) (by kernel_rfl) (by simp) ?_
    refine AllReadyH.cons (o := _) rfl (fun K hK => ?_) AllReadyH.nil
    go_simp
    refine (awake_any _).mono ?_
    rintro e w4 ⟨rfl, hb4⟩
    go_wp2_with fail
    refine hK.out _ _ ⟨(hb4.cell (World.block_lt_of_cell? _ _ c0)).trans c0, (hb4.cell (World.block_lt_of_cell? _ _ c1)).trans c1, (hb4.cell (World.block_lt_of_cell? _ _ c2)).trans c2, (hb4.cell (World.block_lt_of_cell? _ _ c3)).trans c3, (hb4.cell (World.block_lt_of_cell? _ _ c4)).trans c4, (hb4.cell (World.block_lt_of_cell? _ _ c5)).trans c5, (hb4.cell (World.block_lt_of_cell? _ _ c6)).trans c6⟩ (fun hHeld2 => ?_)
    clear hK K
    try simp only [Act.put, List.setIfInBounds_toArray, List.set_cons_zero, List.set_cons_succ]
    refine take' (i := 47) (d := some 73) (v := ?_) rfl rfl (by kernel_rfl) (by kernel_rfl) (by kernel_rfl) (fun _ _ _ h => h) (Or.inl ⟨by rfl, ?_⟩) (by assumption) ?_
    rotate_left
    · intro w hSw; (try dsimp only at hSw); go_simp; try with_reducible rfl
    try simp only [Act.put, List.setIfInBounds_toArray, List.set_cons_zero, List.set_cons_succ]
    refine take' (i := 48) (d := some 2) (v := ?_) rfl rfl (by kernel_rfl) (by kernel_rfl) (by kernel_rfl) (fun _ _ _ h => h) (Or.inl ⟨by rfl, ?_⟩) (by assumption) ?_
    rotate_left
    · intro w hSw; (try dsimp only at hSw); go_simp; try with_reducible rfl
    try simp only [Act.put, List.setIfInBounds_toArray, List.set_cons_zero, List.set_cons_succ]
    refine wpAnyH_done (by kernel_rfl) ?_ _
    refine NoPanic.normal ?_
    go_wp2
    go_ret
    exact ⟨rfl, bt L'.out.drew hb4⟩
  · have t : (K == 0) = false := by simp [h]
    have t2 : (B == K + 1) = true := by have := O.out; simp; omega
    clear O h hP0
    go_enter Try.func6, Try.ntmps6
    go_wp2_with (first | (go_at_call 14; refine (split_any _ _ (by omega) (by omega)).mono ?_; rintro e w' ⟨rfl, hb⟩))
    clear f1 f3 f4 f5 f6 f7 f8 hB hK

    go_region_held3 (fun W => W.cell? ⟨w'.heap.size, 0, none⟩ = some (.int .i64 (K + 2)) ∧ W.cell? ⟨w'.heap.size, 1, none⟩ = some (.int .u64 0) ∧ W.cell? ⟨w'.heap.size + 1, 0, none⟩ = some (.int .i64 B) ∧ W.cell? ⟨w'.heap.size + 1 + 1, 0, none⟩ = some (.int .i64 (K + 1)) ∧ W.cell? ⟨w'.heap.size + 1 + 1, 1, none⟩ = some (.int .u64 (P - 1)) ∧ W.cell? ⟨w'.heap.size + 1 + 1 + 1, 0, none⟩ = some (.int .i64 (K + 2)) ∧ W.cell? ⟨w'.heap.size + 1 + 1 + 1, 1, none⟩ = some (.int .u64 1)) (first | exact four _ _ _ _ _ _ _ _ _ | exact fourB _ _ _ _ _ _ _ _ _ _ hb4) (first | (go_at_call 16; refine (awake_any _).mono ?_; rintro e w4 ⟨rfl, hb4⟩))
    all_goals
      go_wp2
      go_ret
      exact ⟨rfl, by refine bt ?_ hb4; refine Below.drew ?_; repeat (first | assumption | refine ba ?_ _ | refine bt ?_ (by assumption))⟩
theorem walk (a0 : Int) (w0 : (Lit.int .u8 a0).wf = true) (w : World) :
    Calls Try.prog 6 #[.int .u8 a0] w fun e w' => e = .returned (.bool true) ∧ Below w.heap.size w w' := by
  have n0 := bounds_u8 w0
  exact core a0 w n0.1 n0.2

/-! ### THE ROW's STEP: WRITTEN OUT: LEAVE IT -/
set_option maxRecDepth 100000 in
theorem lifted (os : Os) (started : os.Started) (H : Type) (enc : TypeId × Value → H) :
    ReturnsInHanded {} Try.checked os 6 .any (Rows.zigPowersSpec.pre6 enc Try.prog Try.f6 Rows.zigPowersRow.domain false) (Rows.zigPowersSpec.post enc Try.prog Try.f6 false true false false) := by
  refine returnsInHanded_of_change (C := Try.checked) own started (by kernel_rfl) Try.func6
    (ChangeSpec.witness6 (enc := enc) (C := Try.checked) false ⟨#[], #[.int .u8 0], []⟩ 8 (by kernel_rfl) (by kernel_rfl) (by kernel_rfl) (by kernel_rfl)) ?_
  intro W base args ds gs before hval0 hW hcnd _
  have hval : ∀ (j : Nat) t v, Try.f6.params[j]? = some t → args[j]? = some v → Value.okWide Try.prog W .any base t v := hval0
  have hW' := hW
  obtain ⟨p, q, hA0, hV, rfl, hfz, hnd⟩ := hW
  have hA : DataW.TrodAll enc Try.prog W 0 (fun _ => true) true Try.f6.params.toList args.toList ds p := hA0
  rw [Try.params6] at hA hval
  obtain ⟨v0, vs0, d0, ds0, p0, q0, hargs, rfl, rfl, h0, r0⟩ := trodAll_cons hA
  obtain ⟨rfl, rfl, rfl⟩ := trodAll_nil r0
  obtain rfl : args = #[v0] := by cases args; simp_all
  obtain ⟨rfl, rfl⟩ := trodVars_none hV
  obtain ⟨a0, rfl, rfl, rfl, w0⟩ := open_int Try.underlying5 (hval 0 5 v0 rfl rfl) h0
  clear hA0 hval0
  refine (walk a0 w0 W).mono fun e W' ⟨he, bel⟩ => ?_
  subst he
  exact ⟨_, rfl, _, _, _, [], _, [], hW', (trodAll_cons_mk (shut_bool Try.underlying4 _) trodAll_mk0), (trodAll_cons_mk (shut_int Try.underlying5 w0) trodAll_mk0), rfl, bel.frame _, fun h => by cases h⟩

theorem over : Rows.zigPowersRow.holds Try.pinned (OpenSpec.ofChange Rows.zigPowersSpec) :=
  OpenClaim.holds_of_wide 6 Try.f6 rfl rfl rfl rfl rfl rfl rfl ⟨rfl, rfl, rfl, rfl, rfl⟩ rfl rfl rfl rfl rfl (by kernel_rfl) Try.func6 (by kernel_rfl)
    (of_decide_eq_true (by kernel_rfl)) (by unfold Func.isWrapper; first | (rw [if_pos (by decide +kernel)]; kernel_rfl) | (rw [if_neg (by decide +kernel)]; exact ⟨rfl, rfl⟩))
    (fun os started H enc _ => lifted os started H enc)

/-- ████ THE STATEMENT ████ -/
theorem proved : Rows.ZigPowersSaid :=
  over
end Go.Proofs.Ytogiigkhkfcpjaa.zigPowers

namespace Go.Proofs.Ytogiigkhkfcpjaa
theorem zigPowers_holds : Rows.ZigPowersSaid := zigPowers.proved
#print axioms zigPowers_holds
end Go.Proofs.Ytogiigkhkfcpjaa
