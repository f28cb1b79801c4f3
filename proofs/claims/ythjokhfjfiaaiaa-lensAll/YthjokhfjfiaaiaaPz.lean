/-
  Noughts, as many as a number says, appended to a row of the call's own.
-/
import Derived.Test.YthjokhfjfiaaiaaJm
import Derived.Lib.AppendZerosOnto
namespace Go.Proofs.Ythjokhfjfiaaiaa
open Go.ChangeShapes Go.WideShapes Go.ChangeAt Go.RowKit
open Go.ChangeMaps (open_string shut_string)

theorem zeros_ints (n : Nat) : (Builtin.zeroCells (Value.int .i64 0).cells n).toList = ivs (List.replicate n 0) := by
  apply List.ext_getElem?
  intro i
  simp only [Builtin.zeroCells, Value.cells, ivs, Array.toList_map, Array.toList_range, List.getElem?_map, List.getElem?_replicate]
  by_cases h : i < n
  · simp [h, Nat.mod_one, iv]
  · simp [h]
/-- As many noughts as a number says, appended to a row of the call's own. -/
theorem run_pushZ (w : World) (ty : TypeId) (g cap n m : Nat) (xs : List Value) (hown : w.ownsRow 0 3 1 (.slice (some ⟨g, 0, none⟩) n cap) n xs) (hm : 0 < m) (hn : n + m ≤ 100000) :
    ∃ v' w', (Builtin.append_ #[22, 3] ty #[.slice (some ⟨g, 0, none⟩) n cap, .int .i64 m]).run Try.prog w = .ok v' w' ∧ w'.ownsRow 0 3 1 v' (n + m) (xs ++ ivs (List.replicate m 0)) ∧ w.grownBy w' (some g) ∧ Moved w (.slice (some ⟨g, 0, none⟩) n cap) v' := by
  obtain ⟨i, hi, hz, hs, hb⟩ := info_all info3
  have hzs : (Value.int IntKind.i64 0).cells.size = 1 := rfl
  have hlz : (ivs (List.replicate m 0)).length = m := by simp [ivs]
  have hxl : xs.length = n := by have := hown.1; simpa using this
  have hlen : (xs ++ ivs (List.replicate m 0)).length = n + m := by rw [List.length_append, hxl, hlz]
  rcases hown.2 with ⟨h0, _⟩ | ⟨g', cap', cur, hv, _, hg, hnc, hcm, hcs, htake⟩
  · cases h0
  · injection hv with e1 e2 e3
    injection e1 with e1
    injection e1 with e1
    subst e1 e3
    by_cases hroom : n + m ≤ cap
    · have hst := run_storeCells_at Try.prog g n 3 (ivs (List.replicate m 0)) 0 cur w hg (by rw [hlz]; omega) (ivs_one _)
      simp only [Nat.add_zero] at hst
      have hw : IntKind.i64.wrap (m : Int) = m := by rw [IntKind.wrap_i64]; omega
      have hneg : ¬ ((m : Int) < 0) := by omega
      have h48i : ¬ (281474976710656 < (m : Int) * 8) := by omega
      have hm0 : ¬ m = 0 := by omega
      have hr : (Builtin.append_ #[22, 3] ty #[.slice (some ⟨g, 0, none⟩) n cap, .int .i64 m]).run Try.prog w = .ok (.slice (some ⟨g, 0, none⟩) (n + m) cap) (w.setRow g (cur.toList.take n ++ ivs (List.replicate m 0) ++ cur.toList.drop (n + (ivs (List.replicate m 0)).length)).toArray) := by
        simp [Builtin.append_, run_underlying Try.underlying22, run_underlying Try.underlying3, sizeOf, typeInfo, zeroValue, hi, hz, hs, hb, asInt, asIntOf, hw, hneg, h48i, hm0, hroom, Addr.add_lit, zeros_ints, hst]
      refine ⟨_, _, hr, ⟨by rw [hlen]; omega, .inr ⟨g, cap, _, rfl, Nat.zero_le _, setRow_heap w g cur _ 3 _ hg, hroom, hcm, ?_, ?_⟩⟩, ⟨rfl, rfl, rfl, by simp, fun k _ hk => setRow_other w g k _ (fun e => hk (by simp [e]))⟩, fun k hk => .inl hk⟩
      · simp only [List.size_toArray, List.length_append, List.length_take, List.length_drop, Array.length_toList, hlz]
        omega
      · have ht : cur.toList.take n = xs := by have := htake; simpa using this
        rw [ht]
        show List.take ((n + m) * 1) ((xs ++ ivs (List.replicate m 0)) ++ _) = _
        rw [Nat.mul_one, ← hlen]
        exact List.take_left
    · have holds : ∀ j u, xs[j]? = some u → w.cell? ((⟨g, 0, none⟩ : Addr).add j) = some u := hown.cells (g := g) rfl
      have hf := run_firstCells_some (P := Try.prog) w.drew i.size n ⟨g, 0, none⟩ n cap xs (by rw [hxl, hs, Nat.mul_one]) (by simpa using holds)
      have hr := Lib.run_append_grow_zeros (P := Try.prog) w 22 3 ty 3 i (.int .i64 0) .i64 .i64 Try.underlying22 Try.underlying3 hi hz (some ⟨g, 0, none⟩) n cap xs hf m hm (by omega) (by omega) (by omega) (by rw [hb]; omega) (growslice_fits (by omega) (by rw [hb]; omega))
      have hge := grownCap_ge w (n + m) cap 3
      have hcm2 : grownCap w (n + m) cap 3 ≤ maxLen := grownCap_le_maxLen w (n + m) cap 3 (by simp only [maxLen]; omega)
      refine ⟨_, _, hr, ⟨by rw [hlen]; omega, .inr ⟨w.heap.size, _, _, rfl, Nat.zero_le _, heap_alloc_new w.drew _, hge, hcm2, ?_, ?_⟩⟩, ⟨rfl, rfl, rfl, by simp, fun k hk _ => Below.heap_alloc w.drew _ k hk⟩, fun k hk => .inr (by simp [Value.ownBlock] at hk; omega)⟩
      · simp only [Array.size_append, List.size_toArray, size_zeroCells, hzs, hxl]
        omega
      · simp only [Array.toList_append, zeros_ints, Nat.mul_one]
        rw [← hlen]
        exact List.take_left
end Go.Proofs.Ythjokhfjfiaaiaa
