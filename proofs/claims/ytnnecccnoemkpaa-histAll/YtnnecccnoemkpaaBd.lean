/-
  A part set in among others: what the steps of it leave as it was.
-/
import Derived.Test.YtnnecccnoemkpaaPb
namespace Go.Proofs.Ytnnecccnoemkpaa
open Go.ChangeShapes Go.WideShapes Go.ChangeAt Go.RowKit
open Go.ChangeMaps (open_string shut_string)

theorem rp_take_cells {W : World} {base g n cap : Nat} {ps : List (Int × Int)} (h : W.ownsRow base 43 2 (.slice (some ⟨g, 0, none⟩) n cap) n (pvs ps)) (k : Nat) (x : Addr) (hx : some (⟨g, 0, none⟩ : Addr) = some x) :
    ∀ j u, (pvs (ps.take k))[j]? = some u → W.cell? (x.add j) = some u := by
  intro j u hu
  injection hx with hx
  subst hx
  have e : pvs ps = pvs (ps.take k) ++ pvs (ps.drop k) := by rw [← pvs_append, List.take_append_drop]
  refine h.cells (g := g) rfl j u ?_
  rw [e, List.getElem?_append_left (List.getElem?_eq_some_iff.1 hu).1]; exact hu
theorem rp_drop_cells {W : World} {base g n cap : Nat} {ps : List (Int × Int)} (h : W.ownsRow base 43 2 (.slice (some ⟨g, 0, none⟩) n cap) n (pvs ps)) (k : Nat) (hk : k ≤ ps.length) (x : Addr) (hx : some (⟨g, k * 2, none⟩ : Addr) = some x) :
    ∀ j u, (pvs (ps.drop k))[j]? = some u → W.cell? (x.add j) = some u := by
  intro j u hu
  injection hx with hx
  subst hx
  have e : pvs ps = pvs (ps.take k) ++ pvs (ps.drop k) := by rw [← pvs_append, List.take_append_drop]
  have hl : (pvs (ps.take k)).length = k * 2 := by rw [pvs_len, List.length_take, Nat.min_eq_left hk]
  have := h.cells (g := g) rfl (k * 2 + j) u (by rw [e, List.getElem?_append_right (by omega), hl, Nat.add_sub_cancel_left]; exact hu)
  rw [Addr.add_lit] at this ⊢
  rw [Nat.zero_add] at this
  exact this
theorem none_none {α : Type} {p q : Prop} {x : α} (h : some x = none) : p ∧ q := by cases h
/-- What is known of a world behind steps that left all blocks of w2 as they were: the part to be set in, the row of parts. -/
theorem later_facts {w2 W : World} {base g n cap bb : Nat} {c r : Int} {ps : List (Int × Int)} (kp : w2.ownsRow base 43 2 (.slice (some ⟨g, 0, none⟩) n cap) n (pvs ps)) (kb : Blk w2 bb #[.int .i64 c, .int .u64 r] 43) (D : Below w2.heap.size w2 W) :
    W.cell? ⟨bb, 0, none⟩ = some (.int .i64 c) ∧ W.cell? ⟨bb, 1, none⟩ = some (.int .u64 r) ∧ Hid (W.ownsRow base 43 2 (.slice (some ⟨g, 0, none⟩) n cap) n (pvs ps)) := by
  have kb' := blk_below kb D (blk_lt kb)
  exact ⟨by rw [blk_cell kb']; rfl, by rw [blk_cell kb']; rfl, own_later kp D⟩
theorem below_grown {B : Nat} {a b c : World} {row : Option Nat} (h : Below B a b) (g : b.grownBy c row) (hs : B ≤ b.heap.size) (hB : ∀ k, row = some k → B ≤ k) : Below B a c :=
  ⟨g.os.trans h.os, g.tape.trans h.tape, g.output.trans h.output, Nat.le_trans h.size g.size, fun k hk => (g.block k (by omega) (fun e => by have := hB k e.symm; omega)).trans (h.block k hk)⟩
theorem blk_grown {A : Nat} {cs : Array Value} {t : TypeId} {b c : World} {row : Option Nat} (h : Blk b A cs t) (g : b.grownBy c row) (hne : some A ≠ row) : Blk c A cs t := (g.block A (blk_lt h) hne).trans h
theorem two_at {W : World} {A : Nat} {x y : Value} {t : TypeId} (h : Blk W A #[x, y] t) : ∀ a, some (⟨A, 0, none⟩ : Addr) = some a → ∀ j u, [x, y][j]? = some u → W.cell? (a.add j) = some u := by
  intro a ha j u hj
  injection ha with ha
  subst ha
  rw [Addr.add_lit, blk_cell h, ← hj]
  simp
theorem pv_one (c r : Int) : ∀ u ∈ [Value.int .i64 c, Value.int .u64 r], u.oneCell' = true := by
  intro u hu
  simp at hu
  rcases hu with rfl | rfl <;> rfl
end Go.Proofs.Ytnnecccnoemkpaa
