/-
  A slice of asks that came in.
-/
import Derived.Test.YtbmjehpkcelogaaRk
import Derived.Deep.SlicePairs
import Derived.ChangeOld
namespace Go.Proofs.Ytbmjehpkcelogaa
open Go.ChangeShapes Go.WideShapes Go.ChangeAt Go.RowKit
open Go.ChangeMaps (open_string shut_string)

open Go.Deep
/-- What a slice of asks that came in leads to: chance, bit, count, number each. -/
def IsAsks (w : World) (a : Option Addr) (len cap : Nat) (l : List (Int × Int × Int × Nat)) : Prop :=
  l.length = len ∧ len ≤ maxLen ∧ len ≤ cap ∧ (a = none → cap = 0 ∧ len = 0) ∧ ∀ x, a = some x → ∀ (i : Nat) (q : Int × Int × Int × Nat), l[i]? = some q →
    w.cell? (x.add (i * 4)) = some (.int .i64 q.1) ∧ w.cell? (x.add (i * 4 + 1)) = some (.int .i64 q.2.1) ∧ w.cell? (x.add (i * 4 + 2)) = some (.int .i64 q.2.2.1) ∧ w.cell? (x.add (i * 4 + 3)) = some (.int .u64 (q.2.2.2 : Int)) ∧ q.2.2.2 < 18446744073709551616
theorem open_asks {H : Type} {enc : TypeId × Value → H} {w : World} {base : Nat} {spare : Nat → Bool} {held : Bool} {fuel : Nat} {a : Option Addr} {len cap : Nat} {x : DataW H × List MemPlace}
    (h : DataW.trod enc Try.prog w base spare held fuel 22 [.slice a len cap] = some x) : ∃ l, IsAsks w a len cap l := by
  rcases open_slice Try.underlying22 h with ⟨hcs, _⟩ | ⟨x, l, c, m, n, D, Pl, hcs, _, hl, hm, hmm, _, hx⟩
  · simp at hcs
    obtain ⟨rfl, rfl, rfl⟩ := hcs
    exact ⟨[], rfl, Nat.zero_le _, Nat.le_refl _, fun _ => ⟨rfl, rfl⟩, fun x hx => by cases hx⟩
  · simp at hcs
    obtain ⟨rfl, rfl, rfl⟩ := hcs
    have hle : len ≤ m := by rw [hmm]; split <;> omega
    have ce : Try.prog.cellsOf 30 = 4 := by kernel_rfl
    have k3 : Try.prog.cellsOf 3 = 1 := by kernel_rfl
    have k28 : Try.prog.cellsOf 28 = 1 := by kernel_rfl
    have each : ∀ i, i < len → ∃ q : Int × Int × Int × Nat,
        w.cell? (x.add (i * 4)) = some (.int .i64 q.1) ∧ w.cell? (x.add (i * 4 + 1)) = some (.int .i64 q.2.1) ∧ w.cell? (x.add (i * 4 + 2)) = some (.int .i64 q.2.2.1) ∧ w.cell? (x.add (i * 4 + 3)) = some (.int .u64 (q.2.2.2 : Int)) ∧ q.2.2.2 < 18446744073709551616 := by
      intro i hi
      obtain ⟨cs', h1, h2⟩ := hx i (by omega)
      rw [ce] at h1
      obtain ⟨_, hlen, hcell⟩ := World.cells?_some h1
      obtain ⟨xs, k, hk, hxy, _, hxl, hf⟩ := DataW.trod_struct Try.underlying30 h2
      match xs, hxl, cs', hlen with
      | [y0, y1, y2, y3], _, [v0, v1, v2, v3], _ =>
        have g0 := hf 0 _ rfl
        have g1 := hf 1 _ rfl
        have g2 := hf 2 _ rfl
        have g3 := hf 3 _ rfl
        simp [k3, k28] at g0 g1 g2 g3
        have e0 := hcell 0 (by omega)
        have e1 := hcell 1 (by omega)
        have e2 := hcell 2 (by omega)
        have e3 := hcell 3 (by omega)
        rw [add_add] at e0 e1 e2 e3
        obtain ⟨n0, r0, _, _⟩ := DataW.trod_int Try.underlying3 g0
        obtain ⟨n1, r1, _, _⟩ := DataW.trod_int Try.underlying3 g1
        obtain ⟨n2, r2, _, _⟩ := DataW.trod_int Try.underlying3 g2
        obtain ⟨n3, r3, _, wf3⟩ := DataW.trod_int Try.underlying28 g3
        have b3 := bounds_u64 wf3
        simp only [List.cons.injEq, and_true] at r0 r1 r2 r3
        subst r0 r1 r2 r3
        refine ⟨(n0, n1, n2, n3.toNat), by simpa using e0, by simpa using e1, by simpa using e2, ?_, by simp only; omega⟩
        rw [Int.toNat_of_nonneg b3.1]
        simpa using e3
    obtain ⟨q, hq⟩ := choose_lt each
    refine ⟨(List.range len).map q, by simp, Nat.le_trans hl hm, hl, fun hx => (by cases hx), fun y hy i p hp => ?_⟩
    injection hy with hy
    subst hy
    have hi : i < len := by
      rcases Nat.lt_or_ge i len with h | h
      · exact h
      · rw [List.getElem?_eq_none (by simpa using h)] at hp; cases hp
    rw [List.getElem?_map, List.getElem?_range hi] at hp
    simp at hp
    subst hp
    exact hq i hi
theorem asks_kept {w W : World} {a : Option Addr} {len cap : Nat} {l : List (Int × Int × Int × Nat)} (h : IsAsks w a len cap l) (b : Below w.heap.size w W) : IsAsks W a len cap l := by
  obtain ⟨h1, h2, h3, h4, h5⟩ := h
  refine ⟨h1, h2, h3, h4, fun x hx i q hq => ?_⟩
  obtain ⟨e0, e1, e2, e3, e4⟩ := h5 x hx i q hq
  have ha : ∀ j, (x.add j).block = x.block := fun j => by unfold Addr.add; split <;> rfl
  have hlt := World.block_lt_of_cell? _ (x.add (i * 4)) e0
  rw [ha] at hlt
  have hb : ∀ j, W.heap[(x.add j).block]? = w.heap[(x.add j).block]? := fun j => by rw [ha]; exact b.block _ hlt
  refine ⟨?_, ?_, ?_, ?_, e4⟩
  · rw [World.cell?_of_block (hb _)]; exact e0
  · rw [World.cell?_of_block (hb _)]; exact e1
  · rw [World.cell?_of_block (hb _)]; exact e2
  · rw [World.cell?_of_block (hb _)]; exact e3
/-- A place of the asks: where they lie, and the four cells. -/
theorem asks_at {w : World} {a : Option Addr} {len cap : Nat} {l : List (Int × Int × Int × Nat)} (h : IsAsks w a len cap l) (i : Nat) (hi : i < len) :
    ∃ x q, a = some x ∧ l[i]? = some q ∧ w.cell? (x.add (i * 4)) = some (.int .i64 q.1) ∧ w.cell? (x.add (i * 4 + 1)) = some (.int .i64 q.2.1) ∧ w.cell? (x.add (i * 4 + 2)) = some (.int .i64 q.2.2.1) ∧ w.cell? (x.add (i * 4 + 3)) = some (.int .u64 (q.2.2.2 : Int)) ∧ q.2.2.2 < 18446744073709551616 := by
  obtain ⟨h1, h2, h3, h4, h5⟩ := h
  cases a with
  | none => have := (h4 rfl).2; omega
  | some x => exact ⟨x, l[i]'(by omega), rfl, List.getElem?_eq_getElem (by omega), h5 x rfl i _ (List.getElem?_eq_getElem (by omega))⟩
end Go.Proofs.Ytbmjehpkcelogaa
