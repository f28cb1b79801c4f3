/-
  What the reference's Get asks; noughts appended to any row of the call's own.
-/
import Derived.Test.YtplalkhjjndffaaSo
import Derived.Test.YtplalkhjjndffaaBd
import Derived.Test.YtplalkhjjndffaaOr
import Derived.Test.YtplalkhjjndffaaNr
import Derived.Lib.AppendZerosOnto
import Derived.Lib.AppendZeros
namespace Go.Proofs.Ytplalkhjjndffaa
open Go.ChangeShapes Go.WideShapes Go.ChangeAt Go.RowKit
open Go.ChangeMaps (open_string shut_string)

theorem zeros_ints (n : Nat) : (Builtin.zeroCells (Value.int .i64 0).cells n).toList = ivs (List.replicate n 0) := by
  apply List.ext_getElem?
  intro i
  simp only [Builtin.zeroCells, Value.cells, ivs, Array.toList_map, Array.toList_range, List.getElem?_map, List.getElem?_replicate]
  by_cases h : i < n
  · simp [h, Nat.mod_one, iv]
  · simp [h]
/-- As many noughts as a number says, appended to a row of the call's own. -/
theorem run_pushZ (w : World) (ty : TypeId) (g cap n m : Nat) (xs : List Value) (hown : w.ownsRow 0 3 1 (.slice (some ⟨g, 0, none⟩) n cap) n xs) (hm : 0 < m) (hn : n + m ≤ 100000) :
    ∃ v' w', (Builtin.append_ #[22, 56] ty #[.slice (some ⟨g, 0, none⟩) n cap, .int .u64 m]).run Try.prog w = .ok v' w' ∧ w'.ownsRow 0 3 1 v' (n + m) (xs ++ ivs (List.replicate m 0)) ∧ w.grownBy w' (some g) ∧ Moved w (.slice (some ⟨g, 0, none⟩) n cap) v' := by
  obtain ⟨i, hi, hz, hs, hb⟩ := info_all info3
  have hzs : (Value.int IntKind.i64 0).cells.size = 1 := rfl
  have hlz : (ivs (List.replicate m 0)).length = m := by simp [ivs]
  have hxl : xs.length = n := by have := hown.1; simpa using this
  have hlen : (xs ++ ivs (List.replicate m 0)).length = n + m := by rw [List.length_append, hxl, hlz]
  rcases hown.2 with ⟨h0, _⟩ | ⟨g', cap', cur, hv, _, hg, hnc, hcm, hcs, htake⟩
  · cases h0
  · injection hv with e1 e2 e3
    injection e1 with e1
    injection e1 with e1
    subst e1 e3
    by_cases hroom : n + m ≤ cap
    · have hst := run_storeCells_at Try.prog g n 3 (ivs (List.replicate m 0)) 0 cur w hg (by rw [hlz]; omega) (ivs_one _)
      simp only [Nat.add_zero] at hst
      have hw : IntKind.i64.wrap (m : Int) = m := by rw [IntKind.wrap_i64]; omega
      have hneg : ¬ ((m : Int) < 0) := by omega
      have h48i : ¬ (281474976710656 < (m : Int) * 8) := by omega
      have hm0 : ¬ m = 0 := by omega
      have hr : (Builtin.append_ #[22, 56] ty #[.slice (some ⟨g, 0, none⟩) n cap, .int .u64 m]).run Try.prog w = .ok (.slice (some ⟨g, 0, none⟩) (n + m) cap) (w.setRow g (cur.toList.take n ++ ivs (List.replicate m 0) ++ cur.toList.drop (n + (ivs (List.replicate m 0)).length)).toArray) := by
        simp [Builtin.append_, run_underlying Try.underlying22, run_underlying Try.underlying56, sizeOf, typeInfo, zeroValue, hi, hz, hs, hb, asInt, asIntOf, hw, hneg, h48i, hm0, hroom, Addr.add_lit, zeros_ints, hst]
      refine ⟨_, _, hr, ⟨by rw [hlen]; omega, .inr ⟨g, cap, _, rfl, Nat.zero_le _, setRow_heap w g cur _ 3 _ hg, hroom, hcm, ?_, ?_⟩⟩, ⟨rfl, rfl, rfl, by simp, fun k _ hk => setRow_other w g k _ (fun e => hk (by simp [e]))⟩, fun k hk => .inl hk⟩
      · simp only [List.size_toArray, List.length_append, List.length_take, List.length_drop, Array.length_toList, hlz]
        omega
      · have ht : cur.toList.take n = xs := by have := htake; simpa using this
        rw [ht]
        show List.take ((n + m) * 1) ((xs ++ ivs (List.replicate m 0)) ++ _) = _
        rw [Nat.mul_one, ← hlen]
        exact List.take_left
    · have holds : ∀ j u, xs[j]? = some u → w.cell? ((⟨g, 0, none⟩ : Addr).add j) = some u := hown.cells (g := g) rfl
      have hf := run_firstCells_some (P := Try.prog) w.drew i.size n ⟨g, 0, none⟩ n cap xs (by rw [hxl, hs, Nat.mul_one]) (by simpa using holds)
      have hr := Lib.run_append_grow_zeros (P := Try.prog) w 22 56 ty 3 i (.int .i64 0) .i64 .u64 Try.underlying22 Try.underlying56 hi hz (some ⟨g, 0, none⟩) n cap xs hf m hm (by omega) (by omega) (by omega) (by rw [hb]; omega) (growslice_fits (by omega) (by rw [hb]; omega))
      have hge := grownCap_ge w (n + m) cap 3
      have hcm2 : grownCap w (n + m) cap 3 ≤ maxLen := grownCap_le_maxLen w (n + m) cap 3 (by simp only [maxLen]; omega)
      refine ⟨_, _, hr, ⟨by rw [hlen]; omega, .inr ⟨w.heap.size, _, _, rfl, Nat.zero_le _, heap_alloc_new w.drew _, hge, hcm2, ?_, ?_⟩⟩, ⟨rfl, rfl, rfl, by simp, fun k hk _ => Below.heap_alloc w.drew _ k hk⟩, fun k hk => .inr (by simp [Value.ownBlock] at hk; omega)⟩
      · simp only [Array.size_append, List.size_toArray, size_zeroCells, hzs, hxl]
        omega
      · simp only [Array.toList_append, zeros_ints, Nat.mul_one]
        rw [← hlen]
        exact List.take_left
theorem cut_data (s : ByteArray) (i j : Nat) : (s.extract i j).data.toList = (s.data.toList.drop i).take (j - i) := by
  rw [ByteArray.data_extract, Array.toList_extract, List.extract_eq_take_drop]
/-- As many noughts as a number says, appended to a row of the call's own, nil too. -/
theorem run_pushZ2 (w : World) (ty : TypeId) (v : Value) (n m : Nat) (xs : List Value) (hown : w.ownsRow 0 3 1 v n xs) (hm : 0 < m) (hn : n + m ≤ 100000) :
    ∃ v' w', (Builtin.append_ #[22, 56] ty #[v, .int .u64 m]).run Try.prog w = .ok v' w' ∧ w'.ownsRow 0 3 1 v' (n + m) (xs ++ ivs (List.replicate m 0)) ∧ w.grownBy w' v.ownBlock ∧ Moved w v v' := by
  rcases hown.2 with ⟨hv, hn0⟩ | ⟨g, cap, cur, hv, _⟩
  · subst hv hn0
    have hx : xs = [] := by have := hown.1; simpa using this
    subst hx
    obtain ⟨i, hi, hz, hs, hb⟩ := info_all info3
    have hr := Lib.run_append_nil_zeros (P := Try.prog) w 22 56 ty 3 i _ .i64 .u64 Try.underlying22 Try.underlying56 hi hz m hm (by omega) (by omega) (by rw [hb]; omega)
    have hge := grownCap_ge w m 0 3
    have hcm2 : grownCap w m 0 3 ≤ maxLen := grownCap_le_maxLen w m 0 3 (by simp only [maxLen]; omega)
    have hzs : (Value.int IntKind.i64 0).cells.size = 1 := rfl
    rw [Nat.zero_add]
    refine ⟨_, _, hr, ⟨by simp [ivs], .inr ⟨w.heap.size, _, _, rfl, Nat.zero_le _, heap_alloc_new w.drew _, by omega, hcm2, ?_, ?_⟩⟩, ⟨rfl, rfl, rfl, by simp, fun k hk _ => Below.heap_alloc w.drew _ k hk⟩, fun k hk => .inr (by simp [Value.ownBlock] at hk; omega)⟩
    · simp only [Array.size_append, size_zeroCells, hzs]
      omega
    · simp only [Array.toList_append, zeros_ints, Nat.mul_one, List.nil_append]
      have hlz : (ivs (List.replicate m 0)).length = m := by simp [ivs]
      exact List.take_left' hlz
  · subst hv
    exact run_pushZ w ty g cap n m xs hown hm hn
theorem res3 (w w1 : World) (h : Below w.heap.size w w1) (bk : Blk w1 w.heap.size #[.slice none 0 0, .int .i64 0, .int .i64 0] 33) (u0 u1 u2 : Value) :
    Below w.heap.size w (((w1.setCell ⟨w.heap.size, 0, none⟩ u0).setCell ⟨w.heap.size, 1, none⟩ u1).setCell ⟨w.heap.size, 2, none⟩ u2) ∧ ((w1.setCell ⟨w.heap.size, 0, none⟩ u0).cell? ⟨w.heap.size, 0, none⟩ = some u0) ∧ (((w1.setCell ⟨w.heap.size, 0, none⟩ u0).setCell ⟨w.heap.size, 1, none⟩ u1).cell? ⟨w.heap.size, 1, none⟩ = some u1) ∧ ((((w1.setCell ⟨w.heap.size, 0, none⟩ u0).setCell ⟨w.heap.size, 1, none⟩ u1).setCell ⟨w.heap.size, 2, none⟩ u2).cell? ⟨w.heap.size, 2, none⟩ = some u2) ∧
    Chg (· = w.heap.size) w1 (((w1.setCell ⟨w.heap.size, 0, none⟩ u0).setCell ⟨w.heap.size, 1, none⟩ u1).setCell ⟨w.heap.size, 2, none⟩ u2) := by
  have c : Chg (· = w.heap.size) w1 (((w1.setCell ⟨w.heap.size, 0, none⟩ u0).setCell ⟨w.heap.size, 1, none⟩ u1).setCell ⟨w.heap.size, 2, none⟩ u2) := chg_in (chg_in (chg_in (chg_refl _ _) _ _) _ _) _ _
  exact ⟨h.trans (chg_below c h.size (fun k hk => by omega)), by rw [blk_cell (blk_set bk 0 _)]; rfl, by rw [blk_cell (blk_set (blk_set bk 0 _) 1 _)]; rfl, by rw [blk_cell (blk_set (blk_set (blk_set bk 0 _) 1 _) 2 _)]; rfl, c⟩
/-- What the reference's Get leaves. -/
def RgPost (g : Nat × List Nat × Nat) (w : World) (e : Ending) (w' : World) : Prop :=
  ∃ a n cap, e = .returned (.agg #[.slice a n cap, .int .i64 (g.2.2 : Nat), .int .i64 (g.1 : Nat)]) ∧ RI w' a n (g.2.1.map Int.ofNat) ∧ Below w.heap.size w w'
theorem rgp_none {er : Nat} {w w' : World} (h : Below w.heap.size w w') : RgPost (er, [], 0) w (.returned (.agg #[.slice none 0 0, .int .i64 0, .int .i64 (er : Nat)])) w' :=
  ⟨none, 0, 0, rfl, ⟨rfl, fun h => by omega⟩, h⟩
def cz : Array Value := #[.slice none 0 0, .int .i64 0, .int .i64 0]
theorem blk_grown {A : Nat} {cs : Array Value} {t : TypeId} {b c : World} {row : Option Nat} (h : Blk b A cs t) (g : b.grownBy c row) (hne : some A ≠ row) : Blk c A cs t := (g.block A (blk_lt h) hne).trans h
theorem rg_step {w W1 w2 : World} {lv v2 : Value} (d2 : From (w.heap.size + 1) lv) (b1 : Below w.heap.size w W1) (bk : Blk W1 w.heap.size cz 33) (g2 : W1.grownBy w2 lv.ownBlock) (g3 : Moved W1 lv v2) :
    From (w.heap.size + 1) v2 ∧ Blk w2 w.heap.size cz 33 ∧ Below w.heap.size w w2 :=
  ⟨from_moved d2 g3 (blk_lt bk), blk_grown bk g2 (fun e => by have := d2 _ e.symm; omega), below_grown b1 g2 b1.size (fun k hk => by have := d2 k hk; omega)⟩
theorem ri_own_kept {w W W' : World} {a : Option Addr} {cap n : Nat} {acc : List Nat} (h : W.ownsRow 0 3 1 (.slice a n cap) n (ivs (acc.map rc))) (c : Chg (· = w.heap.size) W W') (d : From (w.heap.size + 1) (.slice a n cap)) : RI W' a n (acc.map rc) := by
  obtain ⟨a', cap', e, -, -, r⟩ := own_ri (zs := acc.map rc) (own_kept h c (fun k hk e => by have := d k hk; omega))
  injection e with e1 e2 e3
  subst e1
  exact r
theorem below_keep {w8 a b : World} (h : Below w8.heap.size w8 a) (k : Below a.heap.size a b) : Below w8.heap.size w8 b := h.trans (k.mono h.size)
theorem ri_drewN {W : World} {a : Option Addr} {n : Nat} {f : List Int} (h : RI W a n f) (k : Nat) : RI (W.drewN k) a n f := ri_below h (below_drewN (Below.refl _ _) k)
theorem blk_drewN {W : World} {A : Nat} {cs : Array Value} {t : TypeId} (h : Blk W A cs t) (k : Nat) : Blk (W.drewN k) A cs t := blk_below h (below_drewN (Below.refl W.heap.size W) k) (blk_lt h)
def RgRel (D : Nat × List Nat × List UInt8) (sl : List UInt8) (i : Nat) (w : World) (lv kv : Value) (wr : World) : Prop :=
  ∃ (p f : Nat) (acc : List Nat), i ≤ p ∧ p ≤ sl.length ∧ kv = .int .i64 p ∧ wr.ownsRow 0 3 1 lv acc.length (ivs (acc.map rc)) ∧ From (w.heap.size + 1) lv ∧ Blk wr w.heap.size cz 33 ∧ Below w.heap.size w wr ∧ (acc.length ≤ 65 → decB f acc (sl.drop p) = D) ∧ (65 < acc.length → D = (3, [], [])) ∧ 65 ≤ f + acc.length ∧ acc.length ≤ 130
theorem rc_zero (m : Nat) : (List.replicate m 0).map rc = List.replicate m 0 := by rw [List.map_replicate]; rfl
/-- What one round does: an error of the first number; one number; an error of the second; noughts too many by far; noughts. -/
theorem way (D : Nat × List Nat × List UInt8) (sl : List UInt8) (p f : Nat) (acc : List Nat) (hD : decB f acc (sl.drop p) = D) (hl : acc.length < 65) (hf : 65 ≤ f + acc.length) (hp : p ≤ sl.length) (x k z : Nat) (hR : numb (sl.drop p) = (x, k, z)) :
    (z ≠ 0 ∧ D = (z, [], [])) ∨ (z = 0 ∧ 0 < x ∧ p + k ≤ sl.length ∧ x < 18446744073709551616 ∧ decB (f - 1) (acc ++ [x]) (sl.drop (p + k)) = D) ∨
    (z = 0 ∧ x = 0 ∧ p + k ≤ sl.length ∧ ∀ m j z2, numb (sl.drop (p + k)) = (m, j, z2) → (z2 ≠ 0 ∧ D = (z2, [], [])) ∨ (z2 = 0 ∧ p + k + j ≤ sl.length ∧ m < 18446744073709551616 ∧ (65 ≤ m → D = (3, [], [])) ∧ (65 < acc.length + (m + 1) → D = (3, [], [])) ∧ (acc.length + (m + 1) ≤ 65 → decB (f - 1) (acc ++ List.replicate (m + 1) 0) (sl.drop (p + k + j)) = D))) := by
  obtain ⟨f, rfl⟩ : ∃ f', f = f' + 1 := ⟨f - 1, by omega⟩
  simp only [decB, hR] at hD
  rw [if_neg (by omega)] at hD
  by_cases hz : z = 0
  · subst hz
    obtain ⟨kl, x64⟩ := numb_le hR
    rw [List.length_drop] at kl
    simp only [ne_eq, not_true_eq_false, if_false] at hD
    by_cases hx : 0 < x
    · rw [if_pos hx, List.drop_drop] at hD
      exact .inr (.inl ⟨rfl, hx, by omega, x64, hD⟩)
    · rw [if_neg hx] at hD
      refine .inr (.inr ⟨rfl, by omega, by omega, fun m j z2 hR2 => ?_⟩)
      have hR2' : numb ((sl.drop p).drop k) = (m, j, z2) := by rw [List.drop_drop]; exact hR2
      simp only [hR2'] at hD
      by_cases hz2 : z2 = 0
      · subst hz2
        obtain ⟨jl, m64⟩ := numb_le hR2
        rw [List.length_drop] at jl
        simp only [not_true_eq_false, if_false] at hD
        refine .inr ⟨rfl, by omega, m64, fun h => ?_, fun h => ?_, fun h => ?_⟩
        · rw [if_pos (by omega)] at hD; exact hD.symm
        · rw [if_pos (by omega)] at hD; exact hD.symm
        · rw [if_neg (by omega), List.drop_drop, List.drop_drop, ← Nat.add_assoc] at hD; exact hD
      · rw [if_pos hz2] at hD
        exact .inl ⟨hz2, hD.symm⟩
  · rw [if_pos hz] at hD
    exact .inl ⟨hz, hD.symm⟩
end Go.Proofs.Ytplalkhjjndffaa
