/-
  Texts set together, and a text as a row of bytes; a byte turned.
-/
import Derived.Test.YtlkebkchbgpnpaaAl
import Derived.ArgAppend
import Derived.Laws.IdiomStrings
namespace Go.Proofs.Ytlkebkchbgpnpaa
open Go.ChangeShapes Go.WideShapes Go.ChangeAt Go.RowKit
open Go.ChangeMaps (open_string shut_string)

/-- A block B of the call's own, of 'cap' cells, none frozen, whose first ones are the bytes l; below B all is as in w. -/
def Room (B : Nat) (w wr : World) (cap : Nat) (l : List UInt8) : Prop :=
  (∀ j, j < cap → (wr.cell? ⟨B, j, none⟩).isSome = true ∧ wr.frozen? ⟨B, j, none⟩ = false) ∧
  (∀ j (h : j < l.length), wr.cell? ⟨B, j, none⟩ = some (.int .u8 (l[j].toNat : Int))) ∧ Below B w wr ∧ B < wr.heap.size

theorem app_list (a b : ByteArray) : (a ++ b).data.toList = a.data.toList ++ b.data.toList := by rw [ByteArray.data_append]; simp
/-- A number's bytes in the midst of others. -/
theorem mid_drop (s : ByteArray) (l : List UInt8) (t : ByteArray) : (s ++ bs l ++ t).data.toList.drop s.size = l ++ t.data.toList := by
  rw [app_list, app_list, List.append_assoc, List.drop_append_of_le_length (by rw [len_data]; exact Nat.le_refl _), List.drop_of_length_le (by rw [len_data]; exact Nat.le_refl _)]
  rfl
theorem mid_size (s : ByteArray) (l : List UInt8) (t : ByteArray) : (s ++ bs l ++ t).size = s.size + l.length + t.size := by
  simp [ByteArray.size_append, size_bs]

/-- '[]byte(s)': a row of its own, with the text's bytes. -/
theorem bytes_of (s : ByteArray) (w : World) : ∃ cap W3, (convert 9 48 (.string s)).run Try.prog w = .ok (.slice (some ⟨w.heap.size, 0, none⟩) s.size cap) W3 ∧ Room w.heap.size w W3 s.size s.data.toList := by
  refine ⟨_, _, run_bytes_of_string w 9 48 5 s Try.underlying9 Try.underlying48 Try.underlying5, ?_⟩
  have hsz : s.size ≤ (bytesRow s (grownCap w s.size 0 5)).size := by
    unfold bytesRow
    rw [Array.size_append, Array.size_map]
    exact Nat.le_add_right _ _
  refine ⟨fun j hj => ⟨?_, ?_⟩, fun j hj => ?_, ?_, ?_⟩
  · rw [show w.heap.size = w.drew.heap.size from rfl, World.cell?_alloc_mark, bytesRow_at _ _ _ hj]; rfl
  · rw [show w.heap.size = w.drew.heap.size from rfl, World.frozen?_alloc_mark]
    simp; omega
  · rw [len_data] at hj
    rw [show w.heap.size = w.drew.heap.size from rfl, World.cell?_alloc_mark, bytesRow_at _ _ _ hj]
    rfl
  · exact ((Below.refl _ w).drew).alloc (Nat.le_refl _) _
  · simp

theorem room_upd {B : Nat} {w wr : World} {cap : Nat} {l : List UInt8} (h : Room B w wr cap l) (k : Nat) (hk : k < l.length) (c : UInt8) (v : Int) (hv : v = (c.toNat : Int)) :
    Room B w (wr.setCell ⟨B, k, none⟩ (.int .u8 v)) cap (l.set k c) := by
  obtain ⟨h1, h2, h3, h4⟩ := h
  subst hv
  have same := World.cell?_setCell_same wr ⟨B, k, none⟩ (.int .u8 (c.toNat : Int)) (h2 k hk)
  have other : ∀ j, j ≠ k → (wr.setCell ⟨B, k, none⟩ (.int .u8 (c.toNat : Int))).cell? ⟨B, j, none⟩ = wr.cell? ⟨B, j, none⟩ := fun j hj => by
    rw [World.cell?_setCell_other _ _ _ _ (by intro e; injection e; omega)]
  refine ⟨fun j hj => ⟨?_, ?_⟩, fun j hj => ?_, h3.setCell (Nat.le_refl _) _, by simp; omega⟩
  · by_cases e : j = k
    · rw [e, same]; rfl
    · rw [other j e]; exact (h1 j hj).1
  · simpa using (h1 j hj).2
  · by_cases e : j = k
    · subst e; simpa using same
    · rw [other j e, h2 j (by simpa using hj), List.getElem_set_ne (by omega)]
theorem room_str {B : Nat} {w wr : World} {cap : Nat} {l : List UInt8} (h : Room B w wr cap l) (n c : Nat) (hn : n = l.length) :
    (convert 48 9 (.slice (some ⟨B, 0, none⟩) n c)).run Try.prog wr = .ok (.string (bs l)) wr := by
  subst hn
  exact run_convert_bytes_back wr 48 9 5 ⟨B, 0, none⟩ c l Try.underlying48 Try.underlying5 Try.underlying9 (fun j hj => by rw [Addr.add_lit, Nat.zero_add]; exact h.2.1 j hj)

theorem set_ne {l : List UInt8} {i : Nat} {c : UInt8} (h : i < l.length) (hc : c ≠ l[i]) : l.set i c ≠ l := by
  intro e
  have : (l.set i c)[i]? = l[i]? := by rw [e]
  rw [List.getElem?_set_self h, List.getElem?_eq_getElem h] at this
  injection this with this
  exact hc this
end Go.Proofs.Ytlkebkchbgpnpaa
