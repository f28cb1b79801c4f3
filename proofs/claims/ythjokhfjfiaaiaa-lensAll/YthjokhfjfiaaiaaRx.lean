/-
  What the reference's Get of lengths asks; noughts appended to any row of the call's own.
-/
import Derived.Test.YthjokhfjfiaaiaaKb
import Derived.Test.YthjokhfjfiaaiaaPz
import Derived.Test.YthjokhfjfiaaiaaRu
namespace Go.Proofs.Ythjokhfjfiaaiaa
open Go.ChangeShapes Go.WideShapes Go.ChangeAt Go.RowKit
open Go.ChangeMaps (open_string shut_string)

theorem nbs_drop (l : List UInt8) (i : Nat) : nbs (l.drop i) = (nbs l).drop (2 * i) := by
  induction l generalizing i with
  | nil => simp [nbs_nil]
  | cons c l ih =>
    cases i with
    | zero => rfl
    | succ i => rw [List.drop_succ_cons, ih, nbs_cons, show 2 * (i + 1) = 2 * i + 1 + 1 from by omega, List.drop_succ_cons, List.drop_succ_cons]
theorem rg_end (l : List UInt8) (i q : Nat) (acc : List Nat) (h : dec 65 [] ((nbs l).drop (2 * i)) = some (acc, (nbs l).drop q)) (h2 : 2 * i ≤ q) (hq : q ≤ (nbs l).length) :
    (putN acc ≠ [] ∧ (l.drop i).take (putN acc).length = putN acc) ↔ (mayL (acc.map Int.ofNat) = true ∧ putN acc = (l.drop i).take ((q + 1) / 2 - i)) := by
  rw [← nbs_drop] at h
  have e := get_ask h (q - 2 * i) (by rw [nbs_drop, List.drop_drop, show 2 * i + (q - 2 * i) = q from by omega]) (by rw [nbs_drop, List.length_drop]; omega)
  rw [show (q - 2 * i + 1) / 2 = (q + 1) / 2 - i from by omega] at e
  exact e
theorem rg_yes (l : List UInt8) (i q : Nat) (acc : List Nat) (h : dec 65 [] ((nbs l).drop (2 * i)) = some (acc, (nbs l).drop q)) (hi : i ≤ l.length) (h2 : 2 * i ≤ q) (hq : q ≤ (nbs l).length)
    (hm : mayL (acc.map Int.ofNat) = true) (hp : putN acc = (l.drop i).take ((q + 1) / 2 - i)) : getA l i = (0, acc, (q + 1) / 2) := by
  obtain ⟨g1, g2⟩ := (rg_end l i q acc h h2 hq).2 ⟨hm, hp⟩
  rw [← nbs_drop] at h
  rw [getA_of l i hi 0 _ acc (get_yes h g1 g2), if_pos rfl]
  have : (putN acc).length = (q + 1) / 2 - i := by
    conv => lhs; rw [hp]
    have n := nbs_len l
    simp; omega
  rw [this, show i + ((q + 1) / 2 - i) = (q + 1) / 2 from by omega]
theorem rg_no (l : List UInt8) (i q : Nat) (acc : List Nat) (h : dec 65 [] ((nbs l).drop (2 * i)) = some (acc, (nbs l).drop q)) (hi : i ≤ l.length) (h2 : 2 * i ≤ q) (hq : q ≤ (nbs l).length)
    (hn : ¬ (mayL (acc.map Int.ofNat) = true ∧ putN acc = (l.drop i).take ((q + 1) / 2 - i))) : getA l i = (3, [], 0) := by
  have e := rg_end l i q acc h h2 hq
  rw [← nbs_drop] at h
  rw [getA_of l i hi 3 0 [] (get_no h (fun c => hn (e.1 c)))]; rfl
theorem rg_more (l : List UInt8) (i : Nat) (h : dec 65 [] ((nbs l).drop (2 * i)) = none) (hi : i ≤ l.length) : getA l i = (2, [], 0) := by
  rw [← nbs_drop] at h
  rw [getA_of l i hi 2 0 [] (get_none h)]; rfl
theorem cut_data (s : ByteArray) (i j : Nat) : (s.extract i j).data.toList = (s.data.toList.drop i).take (j - i) := by
  rw [ByteArray.data_extract, Array.toList_extract, List.extract_eq_take_drop]
/-- As many noughts as a number says, appended to a row of the call's own, nil too. -/
theorem run_pushZ2 (w : World) (ty : TypeId) (v : Value) (n m : Nat) (xs : List Value) (hown : w.ownsRow 0 3 1 v n xs) (hm : 0 < m) (hn : n + m ≤ 100000) :
    ∃ v' w', (Builtin.append_ #[22, 3] ty #[v, .int .i64 m]).run Try.prog w = .ok v' w' ∧ w'.ownsRow 0 3 1 v' (n + m) (xs ++ ivs (List.replicate m 0)) ∧ w.grownBy w' v.ownBlock ∧ Moved w v v' := by
  rcases hown.2 with ⟨hv, hn0⟩ | ⟨g, cap, cur, hv, _⟩
  · subst hv hn0
    have hx : xs = [] := by have := hown.1; simpa using this
    subst hx
    obtain ⟨i, hi, hz, hs, hb⟩ := info_all info3
    have hr := Lib.run_append_nil_zeros (P := Try.prog) w 22 3 ty 3 i _ .i64 .i64 Try.underlying22 Try.underlying3 hi hz m hm (by omega) (by omega) (by rw [hb]; omega)
    have hge := grownCap_ge w m 0 3
    have hcm2 : grownCap w m 0 3 ≤ maxLen := grownCap_le_maxLen w m 0 3 (by simp only [maxLen]; omega)
    have hzs : (Value.int IntKind.i64 0).cells.size = 1 := rfl
    rw [Nat.zero_add]
    refine ⟨_, _, hr, ⟨by simp [ivs], .inr ⟨w.heap.size, _, _, rfl, Nat.zero_le _, heap_alloc_new w.drew _, by omega, hcm2, ?_, ?_⟩⟩, ⟨rfl, rfl, rfl, by simp, fun k hk _ => Below.heap_alloc w.drew _ k hk⟩, fun k hk => .inr (by simp [Value.ownBlock] at hk; omega)⟩
    · simp only [Array.size_append, size_zeroCells, hzs]
      omega
    · simp only [Array.toList_append, zeros_ints, Nat.mul_one, List.nil_append]
      have hlz : (ivs (List.replicate m 0)).length = m := by simp [ivs]
      exact List.take_left' hlz
  · subst hv
    exact run_pushZ w ty g cap n m xs hown hm hn
theorem res3 (w w1 : World) (h : Below w.heap.size w w1) (bk : Blk w1 w.heap.size #[.slice none 0 0, .int .i64 0, .int .i64 0] 28) (u0 u1 u2 : Value) :
    Below w.heap.size w (((w1.setCell ⟨w.heap.size, 0, none⟩ u0).setCell ⟨w.heap.size, 1, none⟩ u1).setCell ⟨w.heap.size, 2, none⟩ u2) ∧ ((w1.setCell ⟨w.heap.size, 0, none⟩ u0).cell? ⟨w.heap.size, 0, none⟩ = some u0) ∧ (((w1.setCell ⟨w.heap.size, 0, none⟩ u0).setCell ⟨w.heap.size, 1, none⟩ u1).cell? ⟨w.heap.size, 1, none⟩ = some u1) ∧ ((((w1.setCell ⟨w.heap.size, 0, none⟩ u0).setCell ⟨w.heap.size, 1, none⟩ u1).setCell ⟨w.heap.size, 2, none⟩ u2).cell? ⟨w.heap.size, 2, none⟩ = some u2) ∧
    Chg (· = w.heap.size) w1 (((w1.setCell ⟨w.heap.size, 0, none⟩ u0).setCell ⟨w.heap.size, 1, none⟩ u1).setCell ⟨w.heap.size, 2, none⟩ u2) := by
  have c : Chg (· = w.heap.size) w1 (((w1.setCell ⟨w.heap.size, 0, none⟩ u0).setCell ⟨w.heap.size, 1, none⟩ u1).setCell ⟨w.heap.size, 2, none⟩ u2) := chg_in (chg_in (chg_in (chg_refl _ _) _ _) _ _) _ _
  exact ⟨h.trans (chg_below c h.size (fun k hk => by omega)), by rw [blk_cell (blk_set bk 0 _)]; rfl, by rw [blk_cell (blk_set (blk_set bk 0 _) 1 _)]; rfl, by rw [blk_cell (blk_set (blk_set (blk_set bk 0 _) 1 _) 2 _)]; rfl, c⟩
end Go.Proofs.Ythjokhfjfiaaiaa
