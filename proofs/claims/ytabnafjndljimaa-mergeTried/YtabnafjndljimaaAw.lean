/-
  The document's example: awake.
-/
import Derived.Test.YtabnafjndljimaaCo
namespace Go.Proofs.Ytabnafjndljimaa
open Go.ChangeShapes Go.WideShapes Go.ChangeAt Go.RowKit
open Go.ChangeMaps (open_string shut_string)

theorem prod_bd (z u : Int) (h1 : -1099511627776 ≤ z) (h2 : z ≤ 1099511627776) (h3 : -100 ≤ u) (h4 : u ≤ 100) : -140737488355328 ≤ z * u ∧ z * u ≤ 140737488355328 := by
  have e := Int.natAbs_mul z u
  have : z.natAbs * u.natAbs ≤ 1099511627776 * 100 := Nat.mul_le_mul (by omega) (by omega)
  omega
theorem dotB_of (f l : List Int) (hf : ∀ z ∈ f, -1099511627776 ≤ z ∧ z ≤ 1099511627776) (hl : ∀ z ∈ l, -100 ≤ z ∧ z ≤ 100) : DotB f l :=
  fun _i h h' => prod_bd _ _ (hf _ (List.getElem_mem h)).1 (hf _ (List.getElem_mem h)).2 (hl _ (List.getElem_mem h')).1 (hl _ (List.getElem_mem h')).2
/-! ### a chain, tried by program -/
def splB (A B : List Nat) (k a : Nat) : Bool :=
  decide (a ≤ A.length) && decide (a ≤ k) && decide (k - a ≤ B.length) && ((List.range a).all fun i => (List.range B.length).all fun j => decide (j < k - a) || decide (at0 A i < at0 B j)) && ((List.range A.length).all fun i => (List.range (k - a)).all fun j => decide (i < a) || decide (at0 B j ≤ at0 A i))
theorem splB_spl {A B : List Nat} {k a : Nat} (h : splB A B k a = true) : Spl A B k a := by
  unfold splB at h
  simp only [Bool.and_eq_true, decide_eq_true_eq, List.all_eq_true, List.mem_range, Bool.or_eq_true] at h
  obtain ⟨⟨⟨⟨h1, h2⟩, h3⟩, h4⟩, h5⟩ := h
  refine ⟨h1, h2, h3, fun i j hi hj hjl => ?_, fun i j hi hil hj => ?_⟩
  · rcases h4 i hi j hjl with h | h
    · omega
    · exact h
  · rcases h5 i hil j hj with h | h
    · omega
    · exact h
def chainB (s : List Nat) : Nat → Nat → List Nat → Bool
  | 0, k, ls => decide (k = 0) && ls.isEmpty
  | _ + 1, _, [] => false
  | d + 1, k, a :: r => splB s (prs (TL s d)) k a && chainB s d (2 * (k - a)) r
theorem chainB_chain (s : List Nat) : ∀ d k ls, chainB s d k ls = true → Chain s d k ls
  | 0, k, ls, h => by
    unfold chainB at h
    simp only [Bool.and_eq_true, decide_eq_true_eq, List.isEmpty_iff] at h
    exact ⟨h.1, h.2⟩
  | d + 1, k, [], h => by simp [chainB] at h
  | d + 1, k, a :: r, h => by
    unfold chainB at h
    simp only [Bool.and_eq_true] at h
    exact ⟨a, r, rfl, splB_spl h.1, chainB_chain s d _ r h.2⟩
/-! ### the document's example -/
def fA : List Int := (((List.replicate 65 (0 : Int)).set 0 5).set 1 3).set 2 2
theorem ordered_A : Ordered fA 65 [0, 1, 2] := by
  refine ⟨?_, ?_⟩
  · have : places fA 65 = [0, 1, 2] := by decide +kernel
    rw [this]
  · rw [List.pairwise_cons, List.pairwise_cons]
    refine ⟨fun a ha => ?_, fun a ha => ?_, List.pairwise_singleton _ _⟩
    · simp at ha
      rcases ha with rfl | rfl <;> (unfold ltf; decide +kernel)
    · simp at ha
      subst ha; unfold ltf; decide +kernel
theorem ranks_A (r : List Nat) (h : Ranks fA 7 [0, 1, 2] r) : r = [1, 2, 2] := by
  obtain ⟨ls, c1, c2⟩ := h.2.2 (by decide)
  have e : (cs fA [0, 1, 2]).reverse = [2, 3, 5] := by decide +kernel
  rw [e] at c1
  have c3 : Chain [2, 3, 5] 7 (2 * 3 - 2) [3, 2, 0, 0, 0, 0, 0] := chainB_chain _ _ _ _ (by decide +kernel)
  obtain rfl := chain_one _ _ _ _ c1 c3
  rw [c2]; decide +kernel
theorem put_A : put [0, 1, 2] [1, 2, 2] = [1, 2, 2] ++ List.replicate 62 0 := by decide +kernel
theorem dot_A : dot fA (([1, 2, 2] ++ List.replicate 62 0).map Int.ofNat) = 15 := by decide +kernel
theorem may_A : mayB fA 65 7 = true := by decide +kernel
theorem own_ri2 {W : World} {base e b n cap : Nat} {zs : List Int} (h : W.ownsRow base e 1 (.slice (some ⟨b, 0, none⟩) n cap) n (ivs zs)) : RI W (some ⟨b, 0, none⟩) n zs := by
  obtain ⟨a, c, hv, _, _, r⟩ := own_ri h
  injection hv with hv _ _
  rw [hv]; exact r
theorem made_at (n i : Nat) (h : i < n) : (madeCells #[Value.int .i64 0] n)[i]? = some (.int .i64 0) := by
  have h' : i < (madeCells #[Value.int .i64 0] n).size := by simp [madeCells]; exact h
  rw [Array.getElem?_eq_getElem h']
  simp [madeCells, Nat.mod_one]
set_option maxRecDepth 100000 in
set_option maxHeartbeats 1000000 in
theorem awake_any (w : World) : Calls Try.prog 9 #[] w fun e w' => e = .returned (.bool true) ∧ Below w.heap.size w w' := by
  have mk := make_ints 22 3 Try.underlying22 info3 65 (by omega) w
  rw [show ((65 : Nat) : Int) = 65 from rfl] at mk
  have om := own_set (own_set (own_set (own_made_ints w 3 65 (by omega)) 0 (.int .i64 5)) 1 (.int .i64 3)) 2 (.int .i64 2)
  rw [ivs_set, ivs_set, ivs_set, World.setCell_alloc_new, World.setCell_alloc_new, World.setCell_alloc_new] at om
  have b1 : Below w.heap.size w (w.alloc (.cells ((((madeCells #[.int .i64 0] 65).setIfInBounds 0 (.int .i64 5)).setIfInBounds 1 (.int .i64 3)).setIfInBounds 2 (.int .i64 2)) 3)) := (Below.refl _ _).alloc (Nat.le_refl _) _
  have hs : (madeCells #[Value.int .i64 0] 65).size = 65 := by simp [madeCells]
  have ri : RI _ (some ⟨w.heap.size, 0, none⟩) 65 fA := own_ri2 om
  have LE := lengths_yes (some ⟨w.heap.size, 0, none⟩) 65 fA 7 _ ri may_A
  rw [show ((7 : Nat) : Int) = 7 from rfl] at LE
  have RI1 := Hid.intro ri
  have B1 := Hid.intro b1
  have m0 := made_at 65 0 (by omega)
  have m1 := made_at 65 1 (by omega)
  have m2 := made_at 65 2 (by omega)
  clear om b1 ri
  go_enter Try.func9, Try.ntmps9
  go_wp2_with fail
  with_reducible refine LE.mono ?_
  rintro e w2 ⟨v, o, r, rfl, k1, k2, k3, k4⟩
  obtain rfl := ordered_one k1 ordered_A
  obtain rfl := ranks_A r k2
  rw [put_A] at k3
  clear LE k1 k2 m0 m1 m2 hs mk
  have ri2 := ri_below RI1.out (k4.mono (Nat.le_refl _))
  have b2 : Below w.heap.size w w2 := B1.out.trans (k4.mono B1.out.size)
  clear RI1 B1 k4
  obtain ⟨b, cap, rfl⟩ := own_slice k3 (by omega)
  have c0 : w2.cell? ⟨b, 0, none⟩ = some (.int .i64 1) := (own_there k3 0 (by omega)).1
  have c1 : w2.cell? ⟨b, 1, none⟩ = some (.int .i64 2) := (own_there k3 1 (by omega)).1
  have c2 : w2.cell? ⟨b, 2, none⟩ = some (.int .i64 2) := (own_there k3 2 (by omega)).1
  have ER := err_any 0 w2
  have CO := cost_any (some ⟨w.heap.size, 0, none⟩) (some ⟨b, 0, none⟩) 65 65 65 cap fA _ w2 ri2 (own_ri2 k3) (by omega) (by omega) (dotB_of _ _ (by decide +kernel) (by decide +kernel))
  rw [dot_A] at CO
  have B2 := Hid.intro b2
  clear k3 ri2 b2
  go_wp2_with fail
  with_reducible refine ER.mono ?_
  rintro e w3 ⟨rfl, rfl⟩
  clear ER
  go_wp2_with fail
  with_reducible refine CO.mono ?_
  rintro e w4 ⟨rfl, k5⟩
  have B3 := Hid.intro (B2.out.trans (k5.mono B2.out.size))
  clear CO k5
  go_wp2_with fail
  go_ret
  exact ⟨rfl, B3.out⟩
end Go.Proofs.Ytabnafjndljimaa
