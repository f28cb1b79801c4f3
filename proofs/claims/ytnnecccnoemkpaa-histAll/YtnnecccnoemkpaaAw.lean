/-
  The document's example: awake.
-/
import Derived.Test.YtnnecccnoemkpaaOf
namespace Go.Proofs.Ytnnecccnoemkpaa
open Go.ChangeShapes Go.WideShapes Go.ChangeAt Go.RowKit
open Go.ChangeMaps (open_string shut_string)

theorem ordered_doc : Ordered [2, 0, 5] 3 [2, 0] := by
  refine ⟨?_, ?_⟩
  · have : places [2, 0, 5] 3 = [0, 2] := by decide
    rw [this]; exact List.Perm.swap _ _ _
  · rw [List.pairwise_cons]
    refine ⟨fun a ha => ?_, List.pairwise_singleton _ _⟩
    rw [List.mem_singleton.1 ha]
    unfold ltf; decide
set_option maxRecDepth 100000 in
set_option maxHeartbeats 1000000 in
theorem awake_any (w : World) : Calls Try.prog 8 #[] w fun e w' => e = .returned (.bool true) ∧ Below w.heap.size w w' := by
  have bn : Below w.heap.size w (w.alloc (.cells #[.int .i64 2, .int .i64 0, .int .i64 5] 3)) := (Below.refl _ _).alloc (Nat.le_refl _) _
  have bb := blk_new w #[.int .i64 2, .int .i64 0, .int .i64 5] 3
  have OR := order_any (some ⟨w.heap.size, 0, none⟩) 3 3 [2, 0, 5] (w.alloc (.cells #[.int .i64 2, .int .i64 0, .int .i64 5] 3)) ⟨rfl, fun _ => ⟨_, rfl, fun i hi => by
    rw [Addr.add_lit, blk_cell bb, Nat.zero_add]
    match i, hi with
    | 0, _ => rfl
    | 1, _ => rfl
    | 2, _ => rfl⟩⟩ (by intro z hz; simp at hz; rcases hz with rfl | rfl | rfl <;> decide) (by omega)
  clear bb
  go_enter Try.func8, Try.ntmps8
  go_wp2_with fail
  with_reducible refine OR.mono ?_
  rintro e w1 ⟨v, o, rfl, ho, k1, k2⟩
  obtain rfl := ordered_one ho ordered_doc
  clear OR ho
  obtain ⟨b, cap, rfl⟩ := own_slice k1 (by decide)
  have c0 : w1.cell? ⟨b, 0, none⟩ = some (.int .i64 2) := (own_there k1 0 (by decide)).1
  have c1 : w1.cell? ⟨b, 1, none⟩ = some (.int .i64 0) := (own_there k1 1 (by decide)).1
  have b1 : Below w.heap.size w w1 := bn.trans (k2.mono (by simp))
  have OF := of_any none 0 0 [] w1 ⟨rfl, fun h => absurd h (by omega)⟩ (by omega)
  clear k1 k2 bn
  simp only [List.length_cons, List.length_nil, Nat.zero_add, Nat.reduceAdd]
  go_wp2_with fail
  with_reducible refine OF.mono ?_
  rintro e w2 ⟨v2, rfl, m1, m2⟩
  obtain ⟨b2, cap2, rfl⟩ := own_slice m1 (by decide)
  have b3 : Below w.heap.size w w2 := b1.trans (m2.mono b1.size)
  clear OF m1 m2 b1 c0 c1
  go_wp2_with fail
  go_ret
  exact ⟨rfl, b3⟩
end Go.Proofs.Ytnnecccnoemkpaa
