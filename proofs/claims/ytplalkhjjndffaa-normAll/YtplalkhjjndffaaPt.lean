/-
  What goes on at a place of a list that is told in bytes; slices, Builders kept.
-/
import Derived.Test.YtplalkhjjndffaaRn
import Derived.Test.YtplalkhjjndffaaNc
import Derived.Test.YtplalkhjjndffaaBl
import Derived.Test.YtplalkhjjndffaaOx
namespace Go.Proofs.Ytplalkhjjndffaa
open Go.ChangeShapes Go.WideShapes Go.ChangeAt Go.RowKit
open Go.ChangeMaps (open_string shut_string)

theorem add_add (x : Addr) (i j : Nat) : (x.add i).add j = x.add (i + j) := by
  unfold Addr.add
  by_cases hi : i = 0
  · subst hi; simp
  · by_cases hj : j = 0
    · subst hj; simp [hi]
    · have : ¬ (i + j = 0) := by omega
      simp [hi, hj]; omega
theorem ri_drop {W : World} {x : Addr} {n : Nat} {f : List Int} (h : RI W (some x) n f) (i : Nat) : RI W (some (x.add i)) (n - i) (f.drop i) := by
  refine ⟨by rw [List.length_drop, h.1], fun h0 => ⟨_, rfl, fun j hj => ?_⟩⟩
  obtain ⟨y, hy, hc⟩ := h.2 (by omega)
  cases hy
  rw [List.length_drop] at hj
  rw [add_add, hc (i + j) (by omega), List.getElem_drop]
theorem elem22 : Try.prog.elem 22 = 3 := by kernel_rfl
theorem size3 (W : World) : (sizeOf 3).run Try.prog W = .ok 1 W := by kernel_rfl
theorem slice_from (x : Addr) (n cap i : Nat) (hi : i ≤ n) (hne : ¬ cap = i) (W : World) : (Instr.slice 22 (.slice (some x) n cap) (some (.int .i64 (i : Int))) none none).run Try.prog W = .ok (.slice (some (x.add i)) (n - i) (cap - i)) W := by
  rw [run_slice_l (P := Try.prog) W 22 (some x) n cap (by rw [elem22]; exact Try.underlying22) .i64 (i : Int) (by omega) (by omega), elem22, size3]
  simp [Result.andThen, sliced, hne]
theorem bl_later {B b : Nat} {l : List UInt8} {W W' : World} (h : Bl B b l W) (g : Below W.heap.size W W') : Bl B b l W' := by
  have key : ∀ p, Lib.BuilderAt 62 5 B b p (Lib.byteCells l) W → Lib.BuilderAt 62 5 B b p (Lib.byteCells l) W' := fun p ⟨hB, v, hb, ho, hn⟩ =>
    ⟨hB, v, (g.block b (Array.getElem?_eq_some_iff.1 hb).1).trans hb, own_later ho g, hn⟩
  exact h.elim (fun h => .inl (key _ h)) (fun h => .inr (key _ h))
theorem bl_new (w : World) : Bl w.heap.size w.heap.size [] (w.alloc (.cells #[.pointer none, .slice none 0 0] 62)) := Lib.fresh_isBuilder 62 5 w
theorem fr_drop (f : List Int) (i j : Nat) : fr (f.drop i) j = fr f (i + j) := by
  unfold fr; rw [List.getD_eq_getElem?_getD, List.getD_eq_getElem?_getD, List.getElem?_drop]
theorem zI_nat (l : List Nat) : zI (l.map Int.ofNat) = zrow l := by
  induction l with
  | nil => rfl
  | cons x l ih =>
    simp only [List.map_cons, zI, zrow, ih]
    by_cases h : x = 0
    · subst h; rfl
    · rw [if_neg h, if_neg (by show ¬ (x : Int) = 0; omega)]
/-- What goes on at a place: the number, or nought and the row. -/
theorem enc_at (L : List Nat) (i : Nat) (h : i < L.length) : (0 < g L i → zrow (L.drop i) = 0 ∧ encN (L.drop i) = vb (g L i) ++ encN (L.drop (i + 1))) ∧
    (g L i = 0 → 0 < zrow (L.drop i) ∧ i + zrow (L.drop i) ≤ L.length ∧ encN (L.drop i) = vb 0 ++ (vb (zrow (L.drop i) - 1) ++ encN (L.drop (i + zrow (L.drop i))))) := by
  rw [g_eq L i h]
  have hd := List.drop_eq_getElem_cons h
  constructor
  · intro h0
    rw [hd]
    exact ⟨by simp only [zrow]; rw [if_neg (by omega)], encN_pos _ _ h0⟩
  · intro h0
    have hz : zrow (L.drop i) = zrow (L.drop (i + 1)) + 1 := by rw [hd]; simp only [zrow]; rw [if_pos h0]
    have hle := zrow_le (L.drop (i + 1))
    rw [List.length_drop] at hle
    refine ⟨by omega, by omega, ?_⟩
    have e : L.drop (i + (zrow (L.drop (i + 1)) + 1)) = (L.drop (i + 1)).drop (zrow (L.drop (i + 1))) := by rw [List.drop_drop]; congr 1; omega
    rw [hz, Nat.add_sub_cancel, e, ← encN_zero, hd, h0]
end Go.Proofs.Ytplalkhjjndffaa
