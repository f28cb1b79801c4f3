/-
  A tree of codes in memory: its places, where each lies, whose code ends there; one place more, one end more; a code's bit; in how many bits a rest is told; a code grows in the tree.
-/
import Derived.Test.YtlkebkchbgpnpaaHc
import Derived.Test.YtlkebkchbgpnpaaBq
import Derived.Test.YtlkebkchbgpnpaaBu
namespace Go.Proofs.Ytlkebkchbgpnpaa
open Go.ChangeShapes Go.WideShapes Go.ChangeAt Go.RowKit
open Go.ChangeMaps (open_string shut_string)

/-! ### a tree in memory: D its places (bits from the root on), G where each lies, E whose code ends there -/
def kid (D : List Nat → Bool) (G : List Nat → Nat) (P : List Nat) : Value := .pointer (if D P = true then some ⟨G P, 0, none⟩ else none)
def nodeC (D : List Nat → Bool) (E : List Nat → Option Nat) (G : List Nat → Nat) (P : List Nat) : Array Value :=
  #[kid D G (P ++ [0]), kid D G (P ++ [1]), .int .i64 (((E P).getD 0 : Nat) : Int), .bool (E P).isSome]
def Tre (W : World) (B0 : Nat) (G : List Nat → Nat) (D : List Nat → Bool) (E : List Nat → Option Nat) : Prop :=
  D [] = true ∧ (∀ P x, D (P ++ [x]) = true → D P = true) ∧ (∀ P, E P ≠ none → D P = true) ∧
  (∀ P, D P = true → B0 ≤ G P ∧ Blk W (G P) (nodeC D E G P) 116) ∧ (∀ P Q, D P = true → D Q = true → G P = G Q → P = Q)
theorem kid_yes {D : List Nat → Bool} {G : List Nat → Nat} {P : List Nat} (h : D P = true) : kid D G P = .pointer (some ⟨G P, 0, none⟩) := by unfold kid; rw [if_pos h]
theorem kid_no {D : List Nat → Bool} {G : List Nat → Nat} {P : List Nat} (h : D P = false) : kid D G P = .pointer none := by unfold kid; rw [if_neg (by rw [h]; decide)]
theorem tre_kept {W W' : World} {S : Nat → Prop} {B0 : Nat} {G : List Nat → Nat} {D : List Nat → Bool} {E : List Nat → Option Nat} (h : Tre W B0 G D E) (g : Chg S W W') (hS : ∀ P, D P = true → ¬ S (G P)) : Tre W' B0 G D E :=
  ⟨h.1, h.2.1, h.2.2.1, fun P hP => ⟨(h.2.2.2.1 P hP).1, blk_kept (h.2.2.2.1 P hP).2 g (hS P hP)⟩, h.2.2.2.2⟩
theorem tre_lt {W : World} {B0 : Nat} {G : List Nat → Nat} {D : List Nat → Bool} {E : List Nat → Option Nat} (h : Tre W B0 G D E) (P : List Nat) (hP : D P = true) : B0 ≤ G P ∧ G P < W.heap.size :=
  ⟨(h.2.2.2.1 P hP).1, blk_lt (h.2.2.2.1 P hP).2⟩
theorem tre_alloc {W : World} {B0 : Nat} {G : List Nat → Nat} {D : List Nat → Bool} {E : List Nat → Option Nat} (h : Tre W B0 G D E) (o : Obj) : Tre (W.alloc o) B0 G D E :=
  tre_kept (S := fun _ => False) h (chg_alloc (chg_refl _ _) o) (fun _ _ h => h)
theorem tre_below {W W' : World} {B0 : Nat} {G : List Nat → Nat} {D : List Nat → Bool} {E : List Nat → Option Nat} (h : Tre W B0 G D E) (b : Below W.heap.size W W') : Tre W' B0 G D E :=
  tre_kept (S := fun _ => False) h (chg_of b) (fun _ _ h => h)
/-- What stands in a node. -/
theorem tre_cells {W : World} {B0 : Nat} {G : List Nat → Nat} {D : List Nat → Bool} {E : List Nat → Option Nat} (h : Tre W B0 G D E) (P : List Nat) (hP : D P = true) :
    W.cell? ⟨G P, 0, none⟩ = some (kid D G (P ++ [0])) ∧ W.cell? ⟨G P, 1, none⟩ = some (kid D G (P ++ [1])) ∧ W.cell? ⟨G P, 2, none⟩ = some (.int .i64 (((E P).getD 0 : Nat) : Int)) ∧ W.cell? ⟨G P, 3, none⟩ = some (.bool (E P).isSome) := by
  have b := (h.2.2.2.1 P hP).2
  refine ⟨?_, ?_, ?_, ?_⟩ <;> rw [blk_cell b] <;> rfl
theorem tre_free {W : World} {B0 : Nat} {G : List Nat → Nat} {D : List Nat → Bool} {E : List Nat → Option Nat} (h : Tre W B0 G D E) (P : List Nat) (hP : D P = true) (j : Nat) : W.frozen? ⟨G P, j, none⟩ = false := blk_free (h.2.2.2.1 P hP).2 j
/-- A new one: its root alone. -/
theorem tre_new (W : World) : Tre (W.alloc (.cells #[.pointer none, .pointer none, .int .i64 0, .bool false] 116)) W.heap.size (fun _ => W.heap.size) (fun Q => Q.isEmpty) (fun _ => none) := by
  refine ⟨rfl, fun P x h => ?_, fun P h => absurd rfl h, fun P hP => ⟨Nat.le_refl _, ?_⟩, fun P Q hP hQ _ => ?_⟩
  · simp at h
  · have e : nodeC (fun Q => Q.isEmpty) (fun _ => none) (fun _ => W.heap.size) P = #[.pointer none, .pointer none, .int .i64 0, .bool false] := by
      unfold nodeC kid; simp
    rw [e]; exact blk_new _ _ _
  · rw [List.isEmpty_iff] at hP hQ; rw [hP, hQ]
theorem snoc_inj {P Q : List Nat} {x y : Nat} : P ++ [x] = Q ++ [y] ↔ P = Q ∧ x = y := by
  constructor
  · intro h
    have h1 := congrArg List.getLast? h
    have h2 := congrArg List.dropLast h
    simp at h1 h2
    exact ⟨h2, h1⟩
  · rintro ⟨rfl, rfl⟩; rfl
/-- One place more. -/
def Dn1 (D : List Nat → Bool) (R : List Nat) : List Nat → Bool := fun Q => D Q || decide (Q = R)
def Gn1 (G : List Nat → Nat) (R : List Nat) (A : Nat) : List Nat → Nat := fun Q => if Q = R then A else G Q
theorem dn1_iff (D : List Nat → Bool) (R Q : List Nat) : Dn1 D R Q = true ↔ D Q = true ∨ Q = R := by unfold Dn1; simp
theorem gn1_at (G : List Nat → Nat) (R : List Nat) (A : Nat) : Gn1 G R A R = A := by unfold Gn1; rw [if_pos rfl]
theorem gn1_no (G : List Nat → Nat) {R Q : List Nat} (A : Nat) (h : Q ≠ R) : Gn1 G R A Q = G Q := by unfold Gn1; rw [if_neg h]
theorem kid_other {D : List Nat → Bool} {G : List Nat → Nat} {R Q : List Nat} (A : Nat) (h : Q ≠ R) : kid (Dn1 D R) (Gn1 G R A) Q = kid D G Q := by
  unfold kid
  rw [gn1_no G A h]
  have : (Dn1 D R Q = true) = (D Q = true) := by rw [dn1_iff]; simp [h]
  simp only [this]
theorem tre_grow {W : World} {B0 : Nat} {G : List Nat → Nat} {D : List Nat → Bool} {E : List Nat → Option Nat} (h : Tre W B0 G D E) (hB : B0 ≤ W.heap.size) (P : List Nat) (x : Nat) (hx : x < 2) (hP : D P = true) (hn : D (P ++ [x]) = false) :
    Tre ((W.alloc (.cells #[.pointer none, .pointer none, .int .i64 0, .bool false] 116)).setCell ⟨G P, x, none⟩ (.pointer (some ⟨W.heap.size, 0, none⟩))) B0 (Gn1 G (P ++ [x]) W.heap.size) (Dn1 D (P ++ [x])) E := by
  obtain ⟨h1, h2, h3, h4, h5⟩ := h
  have hEn : E (P ++ [x]) = none := by
    cases hE : E (P ++ [x]) with
    | none => rfl
    | some c => have := h3 (P ++ [x]) (by rw [hE]; simp); rw [hn] at this; cases this
  have hkid : ∀ y, D (P ++ [x] ++ [y]) = false := fun y => by
    cases hD : D (P ++ [x] ++ [y]) with
    | false => rfl
    | true => have := h2 _ _ hD; rw [hn] at this; cases this
  have hlen : ∀ Q : List Nat, Q ++ [x] ≠ Q := fun Q e => by have := congrArg List.length e; simp at this
  refine ⟨(dn1_iff _ _ _).2 (.inl h1), fun Q y hQ => ?_, fun Q hQ => (dn1_iff _ _ _).2 (.inl (h3 Q hQ)), fun Q hQ => ?_, fun Q R hQ hR e => ?_⟩
  · rw [dn1_iff] at hQ ⊢
    rcases hQ with hQ | hQ
    · exact .inl (h2 _ _ hQ)
    · exact .inl (by rw [(snoc_inj.1 hQ).1]; exact hP)
  · by_cases e : Q = P ++ [x]
    · subst e
      refine ⟨by rw [gn1_at]; exact hB, ?_⟩
      have hGP := blk_lt (h4 P hP).2
      have ec : nodeC (Dn1 D (P ++ [x])) E (Gn1 G (P ++ [x]) W.heap.size) (P ++ [x]) = #[.pointer none, .pointer none, .int .i64 0, .bool false] := by
        have k : ∀ y, kid (Dn1 D (P ++ [x])) (Gn1 G (P ++ [x]) W.heap.size) (P ++ [x] ++ [y]) = .pointer none := fun y => by
          rw [kid_other W.heap.size (fun e => by have := congrArg List.length e; simp at this), kid_no (hkid y)]
        unfold nodeC
        rw [k, k, hEn]; rfl
      rw [gn1_at, ec]
      exact blk_set_other (blk_new _ _ _) _ _ (by show W.heap.size ≠ G P; omega)
    · have hQ' : D Q = true := by rw [dn1_iff] at hQ; exact hQ.resolve_right e
      obtain ⟨q1, q2⟩ := h4 Q hQ'
      rw [gn1_no G _ e]
      refine ⟨q1, ?_⟩
      by_cases eP : Q = P
      · subst eP
        have b := blk_set (blk_alloc q2 (.cells #[.pointer none, .pointer none, .int .i64 0, .bool false] 116)) x (.pointer (some ⟨W.heap.size, 0, none⟩))
        have ec : (nodeC D E G Q).setIfInBounds x (.pointer (some ⟨W.heap.size, 0, none⟩)) = nodeC (Dn1 D (Q ++ [x])) E (Gn1 G (Q ++ [x]) W.heap.size) Q := by
          have ky : kid (Dn1 D (Q ++ [x])) (Gn1 G (Q ++ [x]) W.heap.size) (Q ++ [x]) = .pointer (some ⟨W.heap.size, 0, none⟩) := by
            rw [kid_yes ((dn1_iff _ _ _).2 (.inr rfl)), gn1_at]
          rcases (by omega : x = 0 ∨ x = 1) with rfl | rfl
          · unfold nodeC
            rw [ky, kid_other W.heap.size (fun e => by have := (snoc_inj.1 e).2; omega)]; rfl
          · unfold nodeC
            rw [ky, kid_other W.heap.size (fun e => by have := (snoc_inj.1 e).2; omega)]; rfl
        rw [← ec]; exact b
      · have hne : G Q ≠ G P := fun e2 => eP (h5 Q P hQ' hP e2)
        have ec : nodeC (Dn1 D (P ++ [x])) E (Gn1 G (P ++ [x]) W.heap.size) Q = nodeC D E G Q := by
          unfold nodeC
          rw [kid_other W.heap.size (fun e => eP (snoc_inj.1 e).1), kid_other W.heap.size (fun e => eP (snoc_inj.1 e).1)]
        rw [ec]
        exact blk_set_other (blk_alloc q2 _) _ _ hne
  · rw [dn1_iff] at hQ hR
    by_cases e1 : Q = P ++ [x]
    · by_cases e2 : R = P ++ [x]
      · rw [e1, e2]
      · exfalso
        have := blk_lt (h4 R (hR.resolve_right e2)).2
        rw [e1, gn1_at, gn1_no G _ e2] at e; omega
    · by_cases e2 : R = P ++ [x]
      · exfalso
        have := blk_lt (h4 Q (hQ.resolve_right e1)).2
        rw [e2, gn1_at, gn1_no G _ e1] at e; omega
      · rw [gn1_no G _ e1, gn1_no G _ e2] at e
        exact h5 Q R (hQ.resolve_right e1) (hR.resolve_right e2) e
/-- A code's end. -/
def En1 (E : List Nat → Option Nat) (R : List Nat) (c : Nat) : List Nat → Option Nat := fun Q => if Q = R then some c else E Q
theorem tre_end {W : World} {B0 : Nat} {G : List Nat → Nat} {D : List Nat → Bool} {E : List Nat → Option Nat} (h : Tre W B0 G D E) (P : List Nat) (hP : D P = true) (c : Nat) :
    Tre ((W.setCell ⟨G P, 2, none⟩ (.int .i64 (c : Int))).setCell ⟨G P, 3, none⟩ (.bool true)) B0 G D (En1 E P c) := by
  obtain ⟨h1, h2, h3, h4, h5⟩ := h
  refine ⟨h1, h2, fun Q hQ => ?_, fun Q hQ => ?_, h5⟩
  · by_cases e : Q = P
    · rw [e]; exact hP
    · unfold En1 at hQ; rw [if_neg e] at hQ; exact h3 Q hQ
  · obtain ⟨q1, q2⟩ := h4 Q hQ
    refine ⟨q1, ?_⟩
    by_cases e : Q = P
    · subst e
      have b := blk_set (blk_set q2 2 (.int .i64 (c : Int))) 3 (.bool true)
      have ec : ((nodeC D E G Q).setIfInBounds 2 (.int .i64 (c : Int))).setIfInBounds 3 (.bool true) = nodeC D (En1 E Q c) G Q := by
        unfold nodeC En1; rw [if_pos rfl]; rfl
      rw [← ec]; exact b
    · have hne : G Q ≠ G P := fun e2 => e (h5 Q P hQ hP e2)
      have ec : nodeC D (En1 E P c) G Q = nodeC D E G Q := by unfold nodeC En1; rw [if_neg e]
      rw [ec]
      exact blk_set_other (blk_set_other q2 _ _ hne) _ _ hne
/-- All beginnings of a row of bits more. -/
def Dp (D : List Nat → Bool) (P : List Nat) : List Nat → Bool := fun Q => D Q || Q.isPrefixOf P
theorem dp_iff (D : List Nat → Bool) (P Q : List Nat) : Dp D P Q = true ↔ D Q = true ∨ Q <+: P := by unfold Dp; rw [Bool.or_eq_true, List.isPrefixOf_iff_prefix]
theorem dp_nil {D : List Nat → Bool} (h : D [] = true) : Dp D [] = D := by
  funext Q
  rw [Bool.eq_iff_iff, dp_iff]
  constructor
  · rintro (g | g)
    · exact g
    · rw [List.prefix_nil] at g; rw [g]; exact h
  · exact .inl
theorem pre_snoc {Q P : List Nat} {x : Nat} : Q <+: P ++ [x] ↔ Q <+: P ∨ Q = P ++ [x] := by
  constructor
  · intro h
    have hl := h.length_le
    rw [List.length_append, List.length_singleton] at hl
    by_cases e : Q.length = P.length + 1
    · exact .inr (h.eq_of_length (by simp [e]))
    · exact .inl (List.prefix_of_prefix_length_le h (List.prefix_append _ _) (by omega))
  · rintro (h | h)
    · exact h.trans (List.prefix_append _ _)
    · rw [h]; exact List.prefix_rfl
theorem dp_old {D : List Nat → Bool} {P : List Nat} {x : Nat} (h : Dp D P (P ++ [x]) = true) : Dp D (P ++ [x]) = Dp D P := by
  funext Q
  rw [Bool.eq_iff_iff, dp_iff, dp_iff, pre_snoc]
  constructor
  · rintro (g | g | g)
    · exact .inl g
    · exact .inr g
    · rw [g]; exact (dp_iff _ _ _).1 h
  · rintro (g | g)
    · exact .inl g
    · exact .inr (.inl g)
theorem dp_new (D : List Nat → Bool) (P : List Nat) (x : Nat) : Dp D (P ++ [x]) = Dn1 (Dp D P) (P ++ [x]) := by
  funext Q
  rw [Bool.eq_iff_iff, dn1_iff, dp_iff, dp_iff, pre_snoc, or_assoc]
/-- The tree of the codes of the first k classes. -/
def TSpec (C : Nat → List Nat) (k : Nat) (D : List Nat → Bool) (E : List Nat → Option Nat) : Prop :=
  (∀ Q, D Q = true ↔ Q = [] ∨ ∃ c, c < k ∧ C c ≠ [] ∧ Q <+: C c) ∧ (∀ Q c, E Q = some c ↔ c < k ∧ C c ≠ [] ∧ C c = Q)
theorem ts_zero (C : Nat → List Nat) : TSpec C 0 (fun Q => Q.isEmpty) (fun _ => none) :=
  ⟨fun Q => by simp, fun Q c => by simp⟩
theorem ts_none {C : Nat → List Nat} {k : Nat} {D : List Nat → Bool} {E : List Nat → Option Nat} (h : TSpec C k D E) (hk : C k = []) : TSpec C (k + 1) D E := by
  refine ⟨fun Q => ?_, fun Q c => ?_⟩
  · rw [h.1]
    constructor
    · rintro (g | ⟨c, h1, h2⟩)
      · exact .inl g
      · exact .inr ⟨c, by omega, h2⟩
    · rintro (g | ⟨c, h1, h2, h3⟩)
      · exact .inl g
      · refine .inr ⟨c, ?_, h2, h3⟩
        rcases Nat.lt_or_ge c k with g | g
        · exact g
        · exfalso; apply h2; rw [show c = k from by omega]; exact hk
  · rw [h.2]
    constructor
    · rintro ⟨h1, h2⟩; exact ⟨by omega, h2⟩
    · rintro ⟨h1, h2, h3⟩
      refine ⟨?_, h2, h3⟩
      rcases Nat.lt_or_ge c k with g | g
      · exact g
      · exfalso; apply h2; rw [show c = k from by omega]; exact hk
theorem ts_some {C : Nat → List Nat} (pf : PF C) {k : Nat} (hk65 : k < 65) {D : List Nat → Bool} {E : List Nat → Option Nat} (h : TSpec C k D E) (hk : C k ≠ []) : TSpec C (k + 1) (Dp D (C k)) (En1 E (C k) k) := by
  refine ⟨fun Q => ?_, fun Q c => ?_⟩
  · rw [dp_iff, h.1]
    constructor
    · rintro ((g | ⟨c, h1, h2⟩) | g)
      · exact .inl g
      · exact .inr ⟨c, by omega, h2⟩
      · exact .inr ⟨k, by omega, hk, g⟩
    · rintro (g | ⟨c, h1, h2, h3⟩)
      · exact .inl (.inl g)
      · rcases Nat.lt_or_ge c k with g | g
        · exact .inl (.inr ⟨c, g, h2, h3⟩)
        · rw [show c = k from by omega] at h3; exact .inr h3
  · unfold En1
    by_cases e : Q = C k
    · rw [if_pos e]
      constructor
      · intro g
        have : k = c := by simpa using g
        subst this
        exact ⟨by omega, hk, e.symm⟩
      · rintro ⟨h1, h2, h3⟩
        have := pf c k (by omega) hk65 h2 (by rw [h3, e]; exact List.prefix_rfl)
        rw [this]
    · rw [if_neg e, h.2]
      constructor
      · rintro ⟨h1, h2⟩; exact ⟨by omega, h2⟩
      · rintro ⟨h1, h2, h3⟩
        refine ⟨?_, h2, h3⟩
        rcases Nat.lt_or_ge c k with g | g
        · exact g
        · exfalso; apply e; rw [← h3, show c = k from by omega]
/-- A bit of a code. -/
theorem msb_get (n r i : Nat) (h : i < n) : (msb n r)[i]? = some (r / 2 ^ (n - 1 - i) % 2) := by
  induction n generalizing i with
  | zero => omega
  | succ n ih =>
    cases i with
    | zero => rfl
    | succ i => rw [msb, List.getElem?_cons_succ, ih i (by omega), show n + 1 - 1 - (i + 1) = n - 1 - i from by omega]
theorem take_succ_get {l : List Nat} {i x : Nat} (h : l[i]? = some x) : l.take (i + 1) = l.take i ++ [x] := by
  obtain ⟨hi, e⟩ := List.getElem?_eq_some_iff.1 h
  rw [List.take_succ_eq_append_getElem hi, e]

theorem bitOf_any (r n i : Nat) (w : World) (hr : r ≤ 100000) (hn : n ≤ 15) (hi : i < n) :
    Calls Try.prog 26 #[.agg #[.int .i64 r, .int .i64 n], .int .i64 i] w fun e w' => e = .returned (.int .u64 (r / 2 ^ (n - 1 - i) % 2 : Nat)) ∧ Below w.heap.size w w' := by
  have hb : Hid (Below w.heap.size w (w.alloc (.cells #[.int .i64 r, .int .i64 n] 68))) := (Below.refl _ _).alloc (Nat.le_refl _) _
  obtain ⟨k, hk⟩ : ∃ k, n - 1 - i = k := ⟨_, rfl⟩
  rw [hk]
  have hki : (n : Int) - 1 - (i : Int) = (k : Int) := by omega
  have hy : (r : Int) / 2 ^ k = ((r / 2 ^ k : Nat) : Int) := by simp
  have hle : r / 2 ^ k ≤ r := Nat.div_le_self _ _
  generalize r / 2 ^ k = y at *
  have ha := and_one y (by omega)
  go_enter Try.func26, Try.ntmps26
  go_wp2_with fail
  go_ret
  exact ⟨by simp, hb.out⟩
theorem further_any (c : Nat) (w : World) (hc : c ≤ 64) : Calls Try.prog 27 #[.int .i64 c] w fun e w' => e = .returned (.int .i64 (c - 1 : Nat)) ∧ w' = w := by
  by_cases h : c = 0
  · subst h
    go_enter Try.func27, Try.ntmps27
    go_wp2_with fail
    go_ret
    exact ⟨rfl, rfl⟩
  · obtain ⟨d, rfl⟩ : ∃ d, c = d + 1 := ⟨c - 1, by omega⟩
    rw [Nat.add_sub_cancel]
    obtain ⟨x, hx⟩ : ∃ x, d + 1 = x := ⟨_, rfl⟩
    rw [hx]
    have h1 : (x : Int) - 1 = (d : Int) := by omega
    by_cases h2 : 0 < d
    · go_enter Try.func27, Try.ntmps27
      go_wp2_with fail
      go_ret
      exact ⟨rfl, rfl⟩
    · obtain rfl : d = 0 := by omega
      go_enter Try.func27, Try.ntmps27
      go_wp2_with fail
      go_ret
      exact ⟨rfl, rfl⟩

/-- Where growing stands: behind i bits of the code. -/
def GrRel (C r n B0 : Nat) (G0 : List Nat → Nat) (D : List Nat → Bool) (E : List Nat → Option Nat) (w : World) (tv iv : Value) (wr : World) : Prop :=
  ∃ (i : Nat) (G : List Nat → Nat), i ≤ n ∧ iv = .int .i64 i ∧ tv = ptr (G ((msb n r).take i)) ∧ Tre wr B0 G (Dp D ((msb n r).take i)) E ∧ (∀ Q, D Q = true → G Q = G0 Q) ∧
    (∀ Q, Dp D ((msb n r).take i) Q = true → G Q ≠ C) ∧ Blk wr C #[.int .i64 r, .int .i64 n] 68 ∧ Below w.heap.size w wr
theorem ptr_eq (A : Nat) : ptr A = .pointer (some ⟨A, 0, none⟩) := rfl
set_option maxRecDepth 100000 in
set_option maxHeartbeats 1000000 in
theorem grow_any (G0 : List Nat → Nat) (D : List Nat → Bool) (E : List Nat → Option Nat) (B0 r n : Nat) (w W : World) (h : Tre W B0 G0 D E) (hB : B0 = w.heap.size) (hb : Below w.heap.size w W) (hr : r ≤ 100000) (hn : n ≤ 15) :
    Calls Try.prog 53 #[ptr (G0 []), .agg #[.int .i64 r, .int .i64 n]] W fun e W' => ∃ G, e = .returned (ptr (G (msb n r))) ∧ Tre W' B0 G (Dp D (msb n r)) E ∧ (∀ Q, D Q = true → G Q = G0 Q) ∧ Below w.heap.size w W' := by
  have hsz := hb.size
  obtain ⟨C, hC⟩ : ∃ C, W.heap.size = C := ⟨_, rfl⟩
  have ST : Hid (GrRel C r n B0 G0 D E w (ptr (G0 [])) (.int .i64 0) (W.alloc (.cells #[.int .i64 r, .int .i64 n] 68))) := by
    refine ⟨0, G0, Nat.zero_le _, rfl, rfl, ?_, fun _ _ => rfl, fun Q hQ => ?_, by rw [← hC]; exact blk_new _ _ _, hb.alloc hsz _⟩
    · rw [List.take_zero, dp_nil h.1]; exact tre_alloc h _
    · rw [List.take_zero, dp_nil h.1] at hQ
      have := (tre_lt h Q hQ).2
      omega
  have HB := Hid.intro hB
  have HC := Hid.intro hC
  obtain ⟨T0, hT0⟩ : ∃ T0, ptr (G0 []) = T0 := ⟨_, rfl⟩
  rw [hT0] at ST ⊢
  have cN : (W.alloc (.cells #[.int .i64 r, .int .i64 n] 68)).cell? ⟨C, 1, none⟩ = some (.int .i64 (n : Int)) := by rw [← hC, blk_cell (blk_new _ _ _)]; rfl
  clear h hb hsz hT0 hB
  go_enter Try.func53, Try.ntmps53
  go_wp2_with fail
  clear hC
  go_loopw [0, 9] (fun tv iv wr => GrRel C r n B0 G0 D E w tv iv wr) (fun _ iv _ => 16 - (intOf iv).toNat)
  case atStart => exact ST.out
  case round =>
    clear ST
    obtain ⟨i, G, hi, rfl, rfl, d1, d2, d3, d4, d5⟩ := hrel
    by_cases hlt : i < n
    · have BO := bitOf_any r n i wr hr hn hlt
      have TK := take_succ_get (msb_get n r i hlt)
      obtain ⟨x, hx⟩ : ∃ x, r / 2 ^ (n - 1 - i) % 2 = x := ⟨_, rfl⟩
      have hx2 : x < 2 := by omega
      rw [hx] at BO TK
      clear hx
      obtain ⟨P, hP⟩ : ∃ P, (msb n r).take i = P := ⟨_, rfl⟩
      rw [hP] at d1 d3 TK ⊢
      have HTK := Hid.intro TK
      have hPP : Dp D P P = true := (dp_iff _ _ _).2 (.inr List.prefix_rfl)
      have c0 : wr.cell? ⟨C, 0, none⟩ = some (.int .i64 (r : Int)) := by rw [blk_cell d4]; rfl
      have c1 : wr.cell? ⟨C, 1, none⟩ = some (.int .i64 (n : Int)) := by rw [blk_cell d4]; rfl
      unfold ptr
      clear hP TK cN
      go_wp2_with fail
      with_reducible refine BO.mono ?_
      rintro e w1 ⟨rfl, b1⟩
      have e1 := tre_below d1 b1
      have e4 := blk_below d4 b1 (blk_lt d4)
      have e5 := d5.trans (b1.mono d5.size)
      obtain ⟨n0, n1, -, -⟩ := tre_cells e1 P hPP
      have z0 := tre_free e1 P hPP 0
      have z1 := tre_free e1 P hPP 1
      have gl := (tre_lt e1 P hPP).2
      have E1 := Hid.intro e1
      have E4 := Hid.intro e4
      have E5 := Hid.intro e5
      have D2 := Hid.intro d2
      have D3 := Hid.intro d3
      have hsz : B0 ≤ w1.heap.size := by rw [HB.out]; exact e5.size
      have hC1 : C < w1.heap.size := blk_lt e4
      clear BO c0 c1 b1 d1 d2 d3 d4 d5 e1 e4 e5
      rcases (by omega : x = 0 ∨ x = 1) with rfl | rfl
      · by_cases hD : Dp D P (P ++ [0]) = true
        · rw [kid_yes hD] at n0
          have T2 := Hid.intro (dp_old hD)
          clear hD
          go_wp2_with fail
          go_roundw
          case rel =>
            exact ⟨i + 1, G, hlt, by go_num, by rw [HTK.out]; rfl, by rw [HTK.out, T2.out]; exact E1.out, D2.out, by rw [HTK.out, T2.out]; exact D3.out, E4.out, E5.out⟩
          case measure => simp [intOf]; omega
        · have hD' : Dp D P (P ++ [0]) = false := by simpa using hD
          rw [kid_no hD'] at n0
          have T2' := tre_grow E1.out hsz P 0 (by omega) hPP hD'
          rw [World.setCell_alloc_past _ _ _ _ gl] at T2'
          have T2 := Hid.intro T2'
          clear T2'
          have T3 := Hid.intro hD'
          clear hD hD'
          go_wp2_with fail
          go_roundw
          case rel =>
            refine ⟨i + 1, Gn1 G (P ++ [0]) w1.heap.size, hlt, by go_num, by rw [HTK.out, gn1_at]; rfl, by rw [HTK.out, dp_new]; exact T2.out, fun Q hQ => ?_, fun Q hQ => ?_, ?_, ?_⟩
            · rw [gn1_no G _ (fun e => by have := (dp_iff D P Q).2 (.inl hQ); rw [e, T3.out] at this; cases this)]; exact D2.out Q hQ
            · rw [HTK.out, dp_new, dn1_iff] at hQ
              by_cases e : Q = P ++ [0]
              · rw [e, gn1_at]; omega
              · rw [gn1_no G _ e]; exact D3.out Q (hQ.resolve_right e)
            · exact blk_alloc (blk_set_other E4.out _ _ (fun e => D3.out P hPP e.symm)) _
            · have hGB : w.heap.size ≤ G P := by have := (tre_lt E1.out P hPP).1; have := HB.out; omega
              exact (Below.setCell E5.out (p := ⟨G P, _, none⟩) hGB _).alloc (by have := E5.out.size; rw [Go.Deep.nblk_setCell]; exact this) _
          case measure => simp [intOf]; omega
      · by_cases hD : Dp D P (P ++ [1]) = true
        · rw [kid_yes hD] at n1
          have T2 := Hid.intro (dp_old hD)
          clear hD
          go_wp2_with fail
          go_roundw
          case rel =>
            exact ⟨i + 1, G, hlt, by go_num, by rw [HTK.out]; rfl, by rw [HTK.out, T2.out]; exact E1.out, D2.out, by rw [HTK.out, T2.out]; exact D3.out, E4.out, E5.out⟩
          case measure => simp [intOf]; omega
        · have hD' : Dp D P (P ++ [1]) = false := by simpa using hD
          rw [kid_no hD'] at n1
          have T2' := tre_grow E1.out hsz P 1 (by omega) hPP hD'
          rw [World.setCell_alloc_past _ _ _ _ gl] at T2'
          have T2 := Hid.intro T2'
          clear T2'
          have T3 := Hid.intro hD'
          clear hD hD'
          go_wp2_with fail
          go_roundw
          case rel =>
            refine ⟨i + 1, Gn1 G (P ++ [1]) w1.heap.size, hlt, by go_num, by rw [HTK.out, gn1_at]; rfl, by rw [HTK.out, dp_new]; exact T2.out, fun Q hQ => ?_, fun Q hQ => ?_, ?_, ?_⟩
            · rw [gn1_no G _ (fun e => by have := (dp_iff D P Q).2 (.inl hQ); rw [e, T3.out] at this; cases this)]; exact D2.out Q hQ
            · rw [HTK.out, dp_new, dn1_iff] at hQ
              by_cases e : Q = P ++ [1]
              · rw [e, gn1_at]; omega
              · rw [gn1_no G _ e]; exact D3.out Q (hQ.resolve_right e)
            · exact blk_alloc (blk_set_other E4.out _ _ (fun e => D3.out P hPP e.symm)) _
            · have hGB : w.heap.size ≤ G P := by have := (tre_lt E1.out P hPP).1; have := HB.out; omega
              exact (Below.setCell E5.out (p := ⟨G P, _, none⟩) hGB _).alloc (by have := E5.out.size; rw [Go.Deep.nblk_setCell]; exact this) _
          case measure => simp [intOf]; omega
    · obtain rfl : i = n := by omega
      have TK : (msb i r).take i = msb i r := List.take_of_length_le (by rw [msb_len]; exact Nat.le_refl _)
      rw [TK] at d1 ⊢
      have D1 := Hid.intro d1
      have D2 := Hid.intro d2
      have D5 := Hid.intro d5
      clear d1 d2 d3 d4 d5 TK
      unfold ptr
      go_wp2_with fail
      go_ret
      exact ⟨G, rfl, D1.out, D2.out, D5.out⟩
end Go.Proofs.Ytlkebkchbgpnpaa
