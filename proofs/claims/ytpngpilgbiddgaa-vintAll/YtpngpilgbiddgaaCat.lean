/-
  Texts set together and cut, a text as a row of bytes: what Get and GetWord say of them.
-/
import Derived.Test.YtpngpilgbiddgaaGet
namespace Go.Proofs.Ytpngpilgbiddgaa
open Go.ChangeShapes Go.WideShapes Go.ChangeAt Go.RowKit

theorem app_list (a b : ByteArray) : (a ++ b).data.toList = a.data.toList ++ b.data.toList := by rw [ByteArray.data_append]; simp
theorem cut_list (s : ByteArray) (k : Nat) : (s.extract 0 k).data.toList = s.data.toList.take k := by
  rw [ByteArray.data_extract, Array.toList_extract]
  show (s.data.toList.drop 0).take (k - 0) = _
  simp
theorem bs_data (l : List UInt8) : (bs l).data.toList = l := rfl
theorem len_data (s : ByteArray) : s.data.toList.length = s.size := Array.length_toList

theorem err_z (e : Int) (w : World) (h1 : 0 ≤ e) (h2 : e ≤ 100) : Calls Try.prog 18 #[.int .i64 e] w fun x w' => x = .returned (.int .i64 e) ∧ w' = w := by
  obtain ⟨n, rfl⟩ := Int.eq_ofNat_of_zero_le h1
  exact err_any n w

/-- A number's bytes in the midst of others. -/
theorem mid_drop (s : ByteArray) (l : List UInt8) (t : ByteArray) : (s ++ bs l ++ t).data.toList.drop s.size = l ++ t.data.toList := by
  rw [app_list, app_list, List.append_assoc, List.drop_append_of_le_length (by rw [len_data]; exact Nat.le_refl _), List.drop_of_length_le (by rw [len_data]; exact Nat.le_refl _)]
  rfl
theorem mid_size (s : ByteArray) (l : List UInt8) (t : ByteArray) : (s ++ bs l ++ t).size = s.size + l.length + t.size := by
  simp [ByteArray.size_append, size_bs]

theorem get_mid (n : Nat) (hn : n < 18446744073709551616) (s t : ByteArray) (hs : s.size ≤ 50) (ht : t.size ≤ 50) (w : World) :
    Calls Try.prog 10 #[.string (s ++ bs (vb n) ++ t), .int .i64 s.size] w fun e w' => e = .returned (.tuple #[.int .u64 n, .int .i64 ((s.size + (vb n).length : Nat) : Int), .int .i64 0]) ∧ w' = w := by
  have hl := vb_len n
  have hz := mid_size s (vb n) t
  refine get_any _ s.size w (by omega) n (s.size + (vb n).length) 0 ?_
  have h := numb_vb n t.data.toList hn
  rw [← mid_drop s (vb n) t] at h
  exact getAt_ok numb _ s.size (by omega) (by rw [hz]; omega) _ _ h
theorem getw_mid (n : Nat) (hn : n < 18446744073709551616) (s t : ByteArray) (hs : s.size ≤ 50) (ht : t.size ≤ 50) (w : World) :
    Calls Try.prog 11 #[.string (s ++ bs (wd n) ++ t), .int .i64 s.size] w fun e w' => e = .returned (.tuple #[.int .u64 n, .int .i64 ((s.size + 8 : Nat) : Int), .int .i64 0]) ∧ w' = w := by
  have hl := wd_len n
  have hz := mid_size s (wd n) t
  refine getword_any _ s.size w (by omega) n (s.size + 8) 0 ?_
  have h := getw_wd n t.data.toList hn
  rw [← mid_drop s (wd n) t] at h
  exact getAt_ok getw _ s.size (by omega) (by rw [hz]; omega) _ _ h

theorem vbF_ge128 (f : Nat) : ∀ (n k : Nat), k < (vbF f n).length → ∀ c ∈ (vbF f n).take k, 128 ≤ c.toNat := by
  induction f with
  | zero => intro n k hk c hc; simp [vbF] at hk; subst hk; simp at hc
  | succ f ih =>
    intro n k hk c hc
    by_cases h : n < 128
    · rw [vbF_lt _ _ h] at hk hc; simp at hk; subst hk; simp at hc
    · rw [vbF_ge _ _ (by omega)] at hk hc
      cases k with
      | zero => simp at hc
      | succ k =>
        rw [List.take_succ_cons, List.mem_cons] at hc
        rcases hc with rfl | hc
        · rw [u8_of _ (by omega)]; omega
        · exact ih (n / 128) k (by simpa using hk) c hc

theorem get_cut (n k : Nat) (hk : k < (vb n).length) (w : World) :
    Calls Try.prog 10 #[.string ((bs (vb n)).extract 0 k), .int .i64 0] w fun e w' => e = .returned (.tuple #[.int .u64 0, .int .i64 0, .int .i64 2]) ∧ w' = w := by
  have hl := vb_len n
  have hp := vbF_ge128 9 n k hk
  have hlen : ((vb n).take k).length = k := by rw [List.length_take]; omega
  have hz : ((bs (vb n)).extract 0 k).size = k := by rw [← len_data, cut_list, bs_data, hlen]
  refine get_any _ 0 w (by omega) 0 0 2 ?_
  refine getAt_no numb _ 0 (by decide) (by omega) 0 0 2 ?_ (by decide)
  rw [cut_list, bs_data]
  have h := numb_at ((vb n).take k) [] hp (by omega)
  rw [List.append_nil, hlen] at h
  show numb ((vb n).take k) = _
  rw [h]
  obtain ⟨f, hf⟩ : ∃ f, 10 - k = f + 1 := ⟨9 - k, by omega⟩
  rw [hf, numF]
theorem getw_cut (n k : Nat) (hk : k < 8) (w : World) :
    Calls Try.prog 11 #[.string ((bs (wd n)).extract 0 k), .int .i64 0] w fun e w' => e = .returned (.tuple #[.int .u64 0, .int .i64 0, .int .i64 2]) ∧ w' = w := by
  have hl := wd_len n
  have hlen : ((wd n).take k).length = k := by rw [List.length_take]; omega
  have hz : ((bs (wd n)).extract 0 k).size = k := by rw [← len_data, cut_list, bs_data, hlen]
  refine getword_any _ 0 w (by omega) 0 0 2 ?_
  refine getAt_no getw _ 0 (by decide) (by omega) 0 0 2 ?_ (by decide)
  rw [cut_list, bs_data]
  show getw ((wd n).take k) = _
  rw [getw, if_pos (by omega)]

theorem get_long (l : List UInt8) (h1 : 1 ≤ l.length) (h2 : l.length ≤ 10) (hp : ∀ c ∈ l, 128 ≤ c.toNat) (w : World) :
    Calls Try.prog 10 #[.string (bs l ++ ⟨#[0]⟩), .int .i64 0] w fun e w' => e = .returned (.tuple #[.int .u64 0, .int .i64 0, .int .i64 3]) ∧ w' = w := by
  have hz : (bs l ++ ⟨#[0]⟩ : ByteArray).size = l.length + 1 := by rw [ByteArray.size_append, size_bs]; rfl
  refine get_any _ 0 w (by omega) 0 0 3 ?_
  refine getAt_no numb _ 0 (by decide) (by omega) 0 0 3 ?_ (by decide)
  rw [app_list, bs_data]
  have h := numb_at l [0] hp h2
  show numb (l ++ [0]) = _
  rw [h]
  by_cases e : l.length = 10
  · rw [e, numF]
  · obtain ⟨f, hf⟩ : ∃ f, 10 - l.length = f + 1 := ⟨9 - l.length, by omega⟩
    rw [hf, numF, if_pos (by decide), endd_bad _ _ _ (.inl ⟨by omega, by decide⟩)]

theorem get_out (s : ByteArray) (hs : s.size ≤ 1000) (w : World) :
    Calls Try.prog 10 #[.string s, .int .i64 (s.size + 1)] w fun e w' => e = .returned (.tuple #[.int .u64 0, .int .i64 0, .int .i64 1]) ∧ w' = w :=
  get_any s (s.size + 1) w (by omega) 0 0 1 (getAt_lo numb s _ (.inr (by omega)))

/-- '[]byte(s)': a row of its own, with the text's bytes. -/
theorem bytes_of (s : ByteArray) (w : World) : ∃ cap W3, (convert 9 33 (.string s)).run Try.prog w = .ok (.slice (some ⟨w.heap.size, 0, none⟩) s.size cap) W3 ∧ Room w.heap.size w W3 s.size s.data.toList := by
  refine ⟨_, _, run_bytes_of_string w 9 33 5 s Try.underlying9 Try.underlying33 Try.underlying5, ?_⟩
  have hsz : s.size ≤ (bytesRow s (grownCap w s.size 0 5)).size := by
    unfold bytesRow
    rw [Array.size_append, Array.size_map]
    exact Nat.le_add_right _ _
  refine ⟨fun j hj => ⟨?_, ?_⟩, fun j hj => ?_, ?_, ?_⟩
  · rw [show w.heap.size = w.drew.heap.size from rfl, World.cell?_alloc_mark, bytesRow_at _ _ _ hj]; rfl
  · rw [show w.heap.size = w.drew.heap.size from rfl, World.frozen?_alloc_mark]
    simp; omega
  · rw [len_data] at hj
    rw [show w.heap.size = w.drew.heap.size from rfl, World.cell?_alloc_mark, bytesRow_at _ _ _ hj]
    rfl
  · exact ((Below.refl _ w).drew).alloc (Nat.le_refl _) _
  · simp

theorem room_upd {B : Nat} {w wr : World} {cap : Nat} {l : List UInt8} (h : Room B w wr cap l) (k : Nat) (hk : k < l.length) (c : UInt8) (v : Int) (hv : v = (c.toNat : Int)) :
    Room B w (wr.setCell ⟨B, k, none⟩ (.int .u8 v)) cap (l.set k c) := by
  obtain ⟨h1, h2, h3, h4⟩ := h
  subst hv
  have same := World.cell?_setCell_same wr ⟨B, k, none⟩ (.int .u8 (c.toNat : Int)) (h2 k hk)
  have other : ∀ j, j ≠ k → (wr.setCell ⟨B, k, none⟩ (.int .u8 (c.toNat : Int))).cell? ⟨B, j, none⟩ = wr.cell? ⟨B, j, none⟩ := fun j hj => by
    rw [World.cell?_setCell_other _ _ _ _ (by intro e; injection e; omega)]
  refine ⟨fun j hj => ⟨?_, ?_⟩, fun j hj => ?_, h3.setCell (Nat.le_refl _) _, by simp; omega⟩
  · by_cases e : j = k
    · rw [e, same]; rfl
    · rw [other j e]; exact (h1 j hj).1
  · simpa using (h1 j hj).2
  · by_cases e : j = k
    · subst e; simpa using same
    · rw [other j e, h2 j (by simpa using hj), List.getElem_set_ne (by omega)]
theorem room_str {B : Nat} {w wr : World} {cap : Nat} {l : List UInt8} (h : Room B w wr cap l) (n c : Nat) (hn : n = l.length) :
    (convert 33 9 (.slice (some ⟨B, 0, none⟩) n c)).run Try.prog wr = .ok (.string (bs l)) wr := by
  subst hn
  exact run_convert_bytes_back wr 33 9 5 ⟨B, 0, none⟩ c l Try.underlying33 Try.underlying5 Try.underlying9 (fun j hj => by rw [Addr.add_lit, Nat.zero_add]; exact h.2.1 j hj)

/-- The last byte of a number's, with 128 added: then none is below 128. -/
theorem long_all (n m : Nat) (hm : (vb n).length = m + 1) (c : UInt8) (hc : 128 ≤ c.toNat) : ∀ d ∈ (vb n).set m c, 128 ≤ d.toNat := by
  have e : (vb n).set m c = (vb n).take m ++ [c] := by
    rw [List.set_eq_take_append_cons_drop, if_pos (by omega), List.drop_of_length_le (by omega)]
  rw [e]
  intro d hd
  rw [List.mem_append] at hd
  rcases hd with hd | hd
  · exact vbF_ge128 9 n m (by show m < (vb n).length; omega) d hd
  · simp at hd; subst hd; exact hc

theorem or128' (b : UInt8) : bits .or .u8 (b.toNat : Int) 128 = ((UInt8.ofNat (b.toNat % 128 + 128)).toNat : Int) := by
  have h := or128 b.toNat
  have hb := b.toNat_lt
  rw [show ((b.toNat : Int) % 256) = (b.toNat : Int) from by omega] at h
  exact h
end Go.Proofs.Ytpngpilgbiddgaa
