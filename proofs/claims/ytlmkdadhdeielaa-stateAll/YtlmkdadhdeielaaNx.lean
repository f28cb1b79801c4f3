/-
  next, of the four: what it returns.
-/
import Derived.Test.YtlmkdadhdeielaaFour
import Derived.Deep.RegionWith
namespace Go.Proofs.Ytlmkdadhdeielaa
open Go.ChangeShapes Go.WideShapes Go.ChangeAt Go.RowKit
open Go.ChangeMaps (open_string shut_string)

theorem keep4 {w W W' : World} {A : Nat} (h : Below w.heap.size w W) (hA : Blk W A nil4 60) (g : Below W.heap.size W W') :
    Below w.heap.size w W' ∧ W'.cell? ⟨A, 0, none⟩ = some (.int .u64 0) ∧ W'.cell? ⟨A, 1, none⟩ = some (.int .u64 0) ∧ W'.cell? ⟨A, 2, none⟩ = some (.int .u64 0) ∧ W'.cell? ⟨A, 3, none⟩ = some (.int .u64 0) ∧ (∀ j, W'.frozen? ⟨A, j, none⟩ = false) ∧ A < W'.heap.size := by
  have hB := blk_below hA g
  exact ⟨h.trans (g.mono h.size), blk_cell hB 0, blk_cell hB 1, blk_cell hB 2, blk_cell hB 3, blk_free hB, blk_lt hB⟩

set_option maxRecDepth 100000 in
set_option maxHeartbeats 1000000 in
theorem next25 (f : F4) (s : ByteArray) (hs : 32 ≤ s.size) (w : World) :
    Calls Try.prog 40 #[agg4 f, .string s, .int .i64 32, .func (.func 34) #[] #[]] w fun e w' => e = .returned (.tuple #[agg4 (step4 f (s.data.toList.take 32)), .string (s.extract 32 s.size)]) ∧ Below w.heap.size w w' := by
  have c : ∀ W, Below w.heap.size w W → Blk W (w.heap.size + 1) nil4 60 → Calls Try.prog 34 #[agg4 f, .string (s.extract 0 32)] W fun e W' => e = .returned (agg4 (step4 f (s.data.toList.take 32))) ∧ 
     (Below w.heap.size w W' ∧ W'.cell? ⟨w.heap.size + 1, 0, none⟩ = some (.int .u64 0) ∧ W'.cell? ⟨w.heap.size + 1, 1, none⟩ = some (.int .u64 0) ∧ W'.cell? ⟨w.heap.size + 1, 2, none⟩ = some (.int .u64 0) ∧ W'.cell? ⟨w.heap.size + 1, 3, none⟩ = some (.int .u64 0) ∧ (∀ j, W'.frozen? ⟨w.heap.size + 1, j, none⟩ = false) ∧ w.heap.size + 1 < W'.heap.size) := by
    intro W hb hB
    refine (step4_any f (s.extract 0 32) (cut_size s 32 hs) W).mono ?_
    rintro e W' ⟨rfl, hb'⟩
    rw [cut_list]
    exact ⟨rfl, keep4 hb hB hb'⟩
  generalize step4 f (s.data.toList.take 32) = z at *
  have H1 : Below w.heap.size w ((w.alloc (.cells (cells4 f) 60)).alloc (.cells nil4 60)) := ((Below.refl _ _).alloc (Nat.le_refl _) _).alloc (by simp) _
  have H2 : Blk ((w.alloc (.cells (cells4 f) 60)).alloc (.cells nil4 60)) w.heap.size (cells4 f) 60 := blk_alloc (blk_new w _ _) _
  have H3 : Blk ((w.alloc (.cells (cells4 f) 60)).alloc (.cells nil4 60)) (w.heap.size + 1) nil4 60 := by have := blk_new (w.alloc (.cells (cells4 f) 60)) nil4 60; simpa using this
  have b0 : World.cell? _ ⟨w.heap.size, 0, none⟩ = some (.int .u64 (f.a : Nat)) := blk_cell H2 0
  have b1 : World.cell? _ ⟨w.heap.size, 1, none⟩ = some (.int .u64 (f.b : Nat)) := blk_cell H2 1
  have b2 : World.cell? _ ⟨w.heap.size, 2, none⟩ = some (.int .u64 (f.c : Nat)) := blk_cell H2 2
  have b3 : World.cell? _ ⟨w.heap.size, 3, none⟩ = some (.int .u64 (f.d : Nat)) := blk_cell H2 3
  have hsz := blk_lt H3
  clear H2
  unfold agg4 at *
  go_enter Try.func40, Try.ntmps40
  go_wp2
  unfold cells4 nil4 at *
  generalize (w.alloc (.cells #[.int .u64 (f.a : Int), .int .u64 (f.b : Int), .int .u64 (f.c : Int), .int .u64 (f.d : Int)] 60)).alloc (.cells #[.int .u64 0, .int .u64 0, .int .u64 0, .int .u64 0] 60) = W at *
  have P := c W.drew (Below.drew H1) H3
  clear H1 H3 c
  go_region_with (go_at_call 34; refine P.mono ?_; rintro e w4 ⟨rfl, hb4, d0, d1, d2, d3, d4, d5⟩; replace hb4 := hidI hb4)
  all_goals
    clear P
    go_wp2
    exact bodyPost_ret (v := .tuple #[agg4 z, .string (s.extract 32 s.size)]) (by simp [results, Try.results40, go_sem, agg4, d0, d1, d2, d3]) rfl ⟨rfl, (((hb4.out.setCell (by simp) _).setCell (by simp) _).setCell (by simp) _).setCell (by simp) _⟩
end Go.Proofs.Ytlmkdadhdeielaa
