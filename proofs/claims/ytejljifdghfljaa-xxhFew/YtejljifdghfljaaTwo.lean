/-
  Sums that all know; two rows of one's own, kept.
-/
import Derived.Test.YtejljifdghfljaaSum
namespace Go.Proofs.Ytejljifdghfljaa
open Go.ChangeShapes Go.WideShapes Go.ChangeAt Go.RowKit
open Go.ChangeMaps (open_string shut_string)

def Tail (w : World) (B : Nat) (W : World) : Prop := Below w.heap.size w W ∧ B + 1 < W.heap.size
theorem two_keep {w a b : World} {B j i : Nat} {p q : Value} (h : (a.cell? ⟨B, j, none⟩ = some p ∧ a.cell? ⟨B + 1, i, none⟩ = some q) ∧ Tail w B a) (k : Below a.heap.size a b) :
    (b.cell? ⟨B, j, none⟩ = some p ∧ b.cell? ⟨B + 1, i, none⟩ = some q) ∧ Tail w B b := by
  obtain ⟨⟨h0, h1⟩, hb, hl⟩ := h
  refine ⟨⟨?_, ?_⟩, hb.trans (k.mono hb.size), Nat.lt_of_lt_of_le hl k.size⟩
  · rw [k.cell (p := ⟨B, j, none⟩) (by show B < _; omega)]; exact h0
  · rw [k.cell (p := ⟨B + 1, i, none⟩) (by show B + 1 < _; omega)]; exact h1
theorem two_init (w : World) (xs ys : Array Value) (t u : TypeId) (j i : Nat) (p q : Value) (hp : xs[j]? = some p) (hq : ys[i]? = some q) :
    (((w.alloc (.cells xs t)).alloc (.cells ys u)).cell? ⟨w.heap.size, j, none⟩ = some p ∧ ((w.alloc (.cells xs t)).alloc (.cells ys u)).cell? ⟨w.heap.size + 1, i, none⟩ = some q) ∧ Tail w w.heap.size ((w.alloc (.cells xs t)).alloc (.cells ys u)) := by
  have H2 : Blk ((w.alloc (.cells xs t)).alloc (.cells ys u)) w.heap.size xs t := blk_alloc (blk_new w _ _) _
  have H3 : Blk ((w.alloc (.cells xs t)).alloc (.cells ys u)) (w.heap.size + 1) ys u := by have := blk_new (w.alloc (.cells xs t)) ys u; simpa using this
  exact ⟨⟨(blk_cell H2 j).trans hp, (blk_cell H3 i).trans hq⟩, ((Below.refl _ _).alloc (Nat.le_refl _) _).alloc (by simp) _, blk_lt H3⟩
theorem two_drew {w a : World} {B j i : Nat} {p q : Value} (h : (a.cell? ⟨B, j, none⟩ = some p ∧ a.cell? ⟨B + 1, i, none⟩ = some q) ∧ Tail w B a) :
    (a.drew.cell? ⟨B, j, none⟩ = some p ∧ a.drew.cell? ⟨B + 1, i, none⟩ = some q) ∧ Tail w B a.drew := ⟨h.1, h.2.1.drew, h.2.2⟩
theorem known0 : sum 0 [] = 17241709254077376921 := by decide +kernel
theorem known1 : sum 0 [97] = 15154266338359012955 := by decide +kernel
theorem known2 : sum 0 [97, 98, 99] = 4952883123889572249 := by decide +kernel
theorem known3 : sum 0 [67, 97, 108, 108, 32, 109, 101, 32, 73, 115, 104, 109, 97, 101, 108, 46, 32, 83, 111, 109, 101, 32, 121, 101, 97, 114, 115, 32, 97, 103, 111, 45, 45, 110, 101, 118, 101, 114, 32, 109, 105, 110, 100, 32, 104, 111, 119, 32, 108, 111, 110, 103, 32, 112, 114, 101, 99, 105, 115, 101, 108, 121, 45] = 189969583671016854 := by decide +kernel
theorem few0 : sum 0 [97, 115] = 2031985117650215289 := by decide +kernel
theorem few1 : sum 0 [97, 115, 100] = 7141644468929262483 := by decide +kernel
theorem few2 : sum 0 [97, 115, 100, 102] = 4708639809588864798 := by decide +kernel
theorem few0n : ¬ sum 1 [97, 115] = 2031985117650215289 := by decide +kernel
theorem few1n : ¬ sum 1 [97, 115, 100] = 7141644468929262483 := by decide +kernel
theorem few2n : ¬ sum 1 [97, 115, 100, 102] = 4708639809588864798 := by decide +kernel
end Go.Proofs.Ytejljifdghfljaa
