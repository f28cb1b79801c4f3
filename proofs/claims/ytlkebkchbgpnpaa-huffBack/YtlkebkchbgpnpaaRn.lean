/-
  The reference's Lengths, where they may not be asked for.
-/
import Derived.Test.YtlkebkchbgpnpaaLm
import Derived.Test.YtlkebkchbgpnpaaRo
namespace Go.Proofs.Ytlkebkchbgpnpaa
open Go.ChangeShapes Go.WideShapes Go.ChangeAt Go.RowKit
open Go.ChangeMaps (open_string shut_string)

theorem make_big (W : World) :
    (Instr.makeSlice 23 (.int .i64 166600) (.int .i64 166600)).run Try.prog W = .ok (.slice (some ⟨W.heap.size, 0, none⟩) 166600 166600) (W.alloc (.cells (madeCells #[.int .i64 0] 166600) 3)) := by
  obtain ⟨i, hi, hz, hs, hb⟩ := info_all info3
  have hr := run_make (P := Try.prog) W 23 3 i _ Try.underlying23 hi hz .i64 .i64 166600 166600 (by omega) (Int.le_refl _) (by rw [hb]; omega) (by omega)
  simp only [hs] at hr
  exact hr
theorem own_made_big (W : World) (n : Nat) (hn : n ≤ 1000000) : (W.alloc (.cells (madeCells #[.int .i64 0] n) 3)).ownsRow W.heap.size 3 1 (.slice (some ⟨W.heap.size, 0, none⟩) n n) n (ivs (List.replicate n 0)) :=
  ⟨by simp [ivs], .inr ⟨_, n, _, rfl, Nat.le_refl _, blk_new _ _ _, Nat.le_refl _, by simp only [maxLen]; omega, by simp [madeCells], by rw [made_ints, List.take_of_length_le (by simp [ivs])]⟩⟩
theorem res_bad (w w1 : World) (h : Below w.heap.size w w1) (bk : Blk w1 w.heap.size #[.slice none 0 0, .int .i64 0] 45) (u v : Value) :
    Below w.heap.size w ((w1.setCell ⟨w.heap.size, 0, none⟩ u).setCell ⟨w.heap.size, 1, none⟩ v) ∧ ((w1.setCell ⟨w.heap.size, 0, none⟩ u).cell? ⟨w.heap.size, 0, none⟩ = some u) ∧ (((w1.setCell ⟨w.heap.size, 0, none⟩ u).setCell ⟨w.heap.size, 1, none⟩ v).cell? ⟨w.heap.size, 1, none⟩ = some v) :=
  ⟨h.trans (chg_below (S := (· = w.heap.size)) (chg_in (chg_in (chg_refl _ _) _ _) _ _) h.size (fun k hk => by omega)), by rw [blk_cell (blk_set bk 0 _)]; rfl, by rw [blk_cell (blk_set (blk_set bk 0 _) 1 _)]; rfl⟩
end Go.Proofs.Ytlkebkchbgpnpaa
