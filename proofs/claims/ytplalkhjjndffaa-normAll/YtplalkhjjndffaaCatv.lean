/-
  Texts set together and cut, a text as a row of bytes: what Get and GetWord say of them.
-/
import Derived.Test.YtplalkhjjndffaaGetv
import Derived.Test.YtplalkhjjndffaaJm
namespace Go.Proofs.Ytplalkhjjndffaa
open Go.ChangeShapes Go.WideShapes Go.ChangeAt Go.RowKit

theorem app_list (a b : ByteArray) : (a ++ b).data.toList = a.data.toList ++ b.data.toList := by rw [ByteArray.data_append]; simp
theorem cut_list (s : ByteArray) (k : Nat) : (s.extract 0 k).data.toList = s.data.toList.take k := by
  rw [ByteArray.data_extract, Array.toList_extract]
  show (s.data.toList.drop 0).take (k - 0) = _
  simp
theorem bs_data (l : List UInt8) : (bs l).data.toList = l := rfl
theorem len_data (s : ByteArray) : s.data.toList.length = s.size := Array.length_toList

/-- A number's bytes in the midst of others. -/
theorem mid_drop (s : ByteArray) (l : List UInt8) (t : ByteArray) : (s ++ bs l ++ t).data.toList.drop s.size = l ++ t.data.toList := by
  rw [app_list, app_list, List.append_assoc, List.drop_append_of_le_length (by rw [len_data]; exact Nat.le_refl _), List.drop_of_length_le (by rw [len_data]; exact Nat.le_refl _)]
  rfl
theorem mid_size (s : ByteArray) (l : List UInt8) (t : ByteArray) : (s ++ bs l ++ t).size = s.size + l.length + t.size := by
  simp [ByteArray.size_append, size_bs]

theorem vbF_ge128 (f : Nat) : ∀ (n k : Nat), k < (vbF f n).length → ∀ c ∈ (vbF f n).take k, 128 ≤ c.toNat := by
  induction f with
  | zero => intro n k hk c hc; simp [vbF] at hk; subst hk; simp at hc
  | succ f ih =>
    intro n k hk c hc
    by_cases h : n < 128
    · rw [vbF_lt _ _ h] at hk hc; simp at hk; subst hk; simp at hc
    · rw [vbF_ge _ _ (by omega)] at hk hc
      cases k with
      | zero => simp at hc
      | succ k =>
        rw [List.take_succ_cons, List.mem_cons] at hc
        rcases hc with rfl | hc
        · rw [u8_of _ (by omega)]; omega
        · exact ih (n / 128) k (by simpa using hk) c hc

/-- '[]byte(s)': a row of its own, with the text's bytes. -/
theorem bytes_of (s : ByteArray) (w : World) : ∃ cap W3, (convert 9 43 (.string s)).run Try.prog w = .ok (.slice (some ⟨w.heap.size, 0, none⟩) s.size cap) W3 ∧ Room w.heap.size w W3 s.size s.data.toList := by
  refine ⟨_, _, run_bytes_of_string w 9 43 5 s Try.underlying9 Try.underlying43 Try.underlying5, ?_⟩
  have hsz : s.size ≤ (bytesRow s (grownCap w s.size 0 5)).size := by
    unfold bytesRow
    rw [Array.size_append, Array.size_map]
    exact Nat.le_add_right _ _
  refine ⟨fun j hj => ⟨?_, ?_⟩, fun j hj => ?_, ?_, ?_⟩
  · rw [show w.heap.size = w.drew.heap.size from rfl, World.cell?_alloc_mark, bytesRow_at _ _ _ hj]; rfl
  · rw [show w.heap.size = w.drew.heap.size from rfl, World.frozen?_alloc_mark]
    simp; omega
  · rw [len_data] at hj
    rw [show w.heap.size = w.drew.heap.size from rfl, World.cell?_alloc_mark, bytesRow_at _ _ _ hj]
    rfl
  · exact ((Below.refl _ w).drew).alloc (Nat.le_refl _) _
  · simp

theorem room_upd {B : Nat} {w wr : World} {cap : Nat} {l : List UInt8} (h : Room B w wr cap l) (k : Nat) (hk : k < l.length) (c : UInt8) (v : Int) (hv : v = (c.toNat : Int)) :
    Room B w (wr.setCell ⟨B, k, none⟩ (.int .u8 v)) cap (l.set k c) := by
  obtain ⟨h1, h2, h3, h4⟩ := h
  subst hv
  have same := World.cell?_setCell_same wr ⟨B, k, none⟩ (.int .u8 (c.toNat : Int)) (h2 k hk)
  have other : ∀ j, j ≠ k → (wr.setCell ⟨B, k, none⟩ (.int .u8 (c.toNat : Int))).cell? ⟨B, j, none⟩ = wr.cell? ⟨B, j, none⟩ := fun j hj => by
    rw [World.cell?_setCell_other _ _ _ _ (by intro e; injection e; omega)]
  refine ⟨fun j hj => ⟨?_, ?_⟩, fun j hj => ?_, h3.setCell (Nat.le_refl _) _, by simp; omega⟩
  · by_cases e : j = k
    · rw [e, same]; rfl
    · rw [other j e]; exact (h1 j hj).1
  · simpa using (h1 j hj).2
  · by_cases e : j = k
    · subst e; simpa using same
    · rw [other j e, h2 j (by simpa using hj), List.getElem_set_ne (by omega)]
theorem room_str {B : Nat} {w wr : World} {cap : Nat} {l : List UInt8} (h : Room B w wr cap l) (n c : Nat) (hn : n = l.length) :
    (convert 43 9 (.slice (some ⟨B, 0, none⟩) n c)).run Try.prog wr = .ok (.string (bs l)) wr := by
  subst hn
  exact run_convert_bytes_back wr 43 9 5 ⟨B, 0, none⟩ c l Try.underlying43 Try.underlying5 Try.underlying9 (fun j hj => by rw [Addr.add_lit, Nat.zero_add]; exact h.2.1 j hj)

end Go.Proofs.Ytplalkhjjndffaa
