/-
  each, of the four: what it returns.
-/
import Derived.Test.YtlmkdadhdeielaaNx
namespace Go.Proofs.Ytlmkdadhdeielaa
open Go.ChangeShapes Go.WideShapes Go.ChangeAt Go.RowKit
open Go.ChangeMaps (open_string shut_string)

theorem each_endF (f : F4) (l : List UInt8) (k : Nat) (t : ByteArray) (hk : 32 * k ≤ l.length) (ht : t.data.toList = l.drop (32 * k)) (hlt : t.size < 32) :
    pieces step4 32 l f k = (each step4 32 f l).1 ∧ t = bs (each step4 32 f l).2 := by
  have e := left_size l t _ ht
  have q : l.length / 32 = k := by omega
  unfold each
  rw [q]
  refine ⟨rfl, ?_⟩
  show t = bs (l.drop (32 * k))
  rw [← ht]; rfl
theorem pieces_atF (f : F4) (l : List UInt8) (k : Nat) (t : ByteArray) (ht : t.data.toList = l.drop (32 * k)) :
    Hid (pieces step4 32 l f (k + 1) = step4 (pieces step4 32 l f k) (t.data.toList.take 32)) := by
  show _ = _
  rw [ht]; rfl
def FRel (f : F4) (l : List UInt8) (w : World) (sv : Value) (wr : World) : Prop :=
  ∃ (k : Nat) (t : ByteArray), 32 * k ≤ l.length ∧ sv = .string t ∧ t.data.toList = l.drop (32 * k) ∧
    Blk wr w.heap.size (cells4 (pieces step4 32 l f k)) 60 ∧ Blk wr (w.heap.size + 1) nil4 60 ∧ Below w.heap.size w wr
theorem set_all (y z : F4) : ((((cells4 y).setIfInBounds 0 (.int .u64 (z.a : Int))).setIfInBounds 1 (.int .u64 (z.b : Int))).setIfInBounds 2 (.int .u64 (z.c : Int))).setIfInBounds 3 (.int .u64 (z.d : Int)) = cells4 z := rfl
theorem blk_all {W : World} {A : Nat} {y : F4} {t : TypeId} (h : Blk W A (cells4 y) t) (z : F4) :
    Blk ((((W.setCell ⟨A, 0, none⟩ (.int .u64 (z.a : Int))).setCell ⟨A, 1, none⟩ (.int .u64 (z.b : Int))).setCell ⟨A, 2, none⟩ (.int .u64 (z.c : Int))).setCell ⟨A, 3, none⟩ (.int .u64 (z.d : Int))) A (cells4 z) t := by
  have := blk_set (blk_set (blk_set (blk_set h 0 (.int .u64 (z.a : Int))) 1 (.int .u64 (z.b : Int))) 2 (.int .u64 (z.c : Int))) 3 (.int .u64 (z.d : Int))
  rwa [set_all] at this
theorem below_all {W w : World} {A : Nat} (h : Below w.heap.size w W) (hA : w.heap.size ≤ A) (z : F4) :
    Below w.heap.size w ((((W.setCell ⟨A, 0, none⟩ (.int .u64 (z.a : Int))).setCell ⟨A, 1, none⟩ (.int .u64 (z.b : Int))).setCell ⟨A, 2, none⟩ (.int .u64 (z.c : Int))).setCell ⟨A, 3, none⟩ (.int .u64 (z.d : Int))) :=
  (((h.setCell hA _).setCell hA _).setCell hA _).setCell hA _

set_option maxRecDepth 100000 in
set_option maxHeartbeats 1000000 in
theorem each25 (f : F4) (s : ByteArray) (w : World) :
    Calls Try.prog 32 #[agg4 f, .string s, .int .i64 32, .func (.func 34) #[] #[]] w fun e w' => e = .returned (.tuple #[agg4 (each step4 32 f s.data.toList).1, .string (bs (each step4 32 f s.data.toList).2)]) ∧ Below w.heap.size w w' := by
  unfold agg4
  go_enter Try.func32, Try.ntmps32
  go_wp2
  go_loopw [1] (fun sv wr => FRel f s.data.toList w sv wr) (fun sv _ => strOf sv)
  case atStart => exact ⟨0, s, by omega, rfl, rfl, blk_alloc (blk_new w _ _) _, by have h : Blk ((w.alloc (.cells (cells4 f) 60)).alloc (.cells nil4 60)) (w.heap.size + 1) nil4 60 := by { have := blk_new (w.alloc (.cells (cells4 f) 60)) nil4 60; simpa using this }; exact h, ((Below.refl _ _).alloc (Nat.le_refl _) _).alloc (by simp) _⟩
  case round =>
    obtain ⟨k, t, hk', rfl, ht', hB, hC, hb⟩ := hrel
    have hk : Hid (32 * k ≤ s.data.toList.length) := hk'
    have ht : Hid (t.data.toList = s.data.toList.drop (32 * k)) := ht'
    have HS := hidI (And.intro hB (And.intro hC hb))
    have hsz := blk_lt hC
    have b0 := blk_cell hB 0
    have b1 := blk_cell hB 1
    have b2 := blk_cell hB 2
    have b3 := blk_cell hB 3
    have fr := fun j => blk_free hB j
    clear hk' ht'
    by_cases hlt : t.size < 32
    · have E := hidI (each_endF f s.data.toList k t hk.out ht.out hlt)
      have d0 : wr.cell? ⟨w.heap.size + 1, 0, none⟩ = some (.int .u64 0) := blk_cell hC 0
      have d1 : wr.cell? ⟨w.heap.size + 1, 1, none⟩ = some (.int .u64 0) := blk_cell hC 1
      have d2 : wr.cell? ⟨w.heap.size + 1, 2, none⟩ = some (.int .u64 0) := blk_cell hC 2
      have d3 : wr.cell? ⟨w.heap.size + 1, 3, none⟩ = some (.int .u64 0) := blk_cell hC 3
      have g := fun j => blk_free hC j
      clear hB hC hb
      obtain ⟨y, hy⟩ : ∃ y, pieces step4 32 s.data.toList f k = y := ⟨_, rfl⟩
      rw [hy] at b0 b1 b2 b3 HS E
      clear hy
      replace b0 : wr.cell? ⟨w.heap.size, 0, none⟩ = some (.int .u64 (y.a : Nat)) := b0
      replace b1 : wr.cell? ⟨w.heap.size, 1, none⟩ = some (.int .u64 (y.b : Nat)) := b1
      replace b2 : wr.cell? ⟨w.heap.size, 2, none⟩ = some (.int .u64 (y.c : Nat)) := b2
      replace b3 : wr.cell? ⟨w.heap.size, 3, none⟩ = some (.int .u64 (y.d : Nat)) := b3
      go_wp2
      exact bodyPost_ret (v := .tuple #[agg4 y, .string t]) (by simp [results, Try.results32, go_sem, agg4, d0, d1, d2, d3]) rfl ⟨by rw [← E.out.1, ← E.out.2]; rfl, below_all HS.out.2.2 (by simp) y⟩
    · have E := hidI (each_step 32 k s.data.toList t hk.out ht.out hlt)
      have c := fun w => next25 (pieces step4 32 s.data.toList f k) t (by omega) w
      have P := pieces_atF f s.data.toList k t ht.out
      clear hB hC hb
      obtain ⟨z, hz⟩ : ∃ z, step4 (pieces step4 32 s.data.toList f k) (t.data.toList.take 32) = z := ⟨_, rfl⟩
      rw [hz] at P
      simp only [hz] at c
      clear hz
      obtain ⟨y, hy⟩ : ∃ y, pieces step4 32 s.data.toList f k = y := ⟨_, rfl⟩
      rw [hy] at b0 b1 b2 b3 HS
      simp only [hy] at c
      clear hy
      replace b0 : wr.cell? ⟨w.heap.size, 0, none⟩ = some (.int .u64 (y.a : Nat)) := b0
      replace b1 : wr.cell? ⟨w.heap.size, 1, none⟩ = some (.int .u64 (y.b : Nat)) := b1
      replace b2 : wr.cell? ⟨w.heap.size, 2, none⟩ = some (.int .u64 (y.c : Nat)) := b2
      replace b3 : wr.cell? ⟨w.heap.size, 3, none⟩ = some (.int .u64 (y.d : Nat)) := b3
      unfold agg4 at c
      go_wp2_with fail
      refine (c _).mono ?_
      rintro e w4 ⟨rfl, h4⟩
      have hB := blk_below HS.out.1 h4
      have hC := blk_below HS.out.2.1 h4
      have hb := HS.out.2.2.trans (h4.mono HS.out.2.2.size)
      have HT := hidI (And.intro hB (And.intro hC hb))
      clear b0 b1 b2 b3 fr hsz h4 c HS
      have hsz := blk_lt hC
      have fr := fun j => blk_free hB j
      have b0 : w4.cell? ⟨w.heap.size, 0, none⟩ = some (.int .u64 (y.a : Nat)) := blk_cell hB 0
      have b1 : w4.cell? ⟨w.heap.size, 1, none⟩ = some (.int .u64 (y.b : Nat)) := blk_cell hB 1
      have b2 : w4.cell? ⟨w.heap.size, 2, none⟩ = some (.int .u64 (y.c : Nat)) := blk_cell hB 2
      have b3 : w4.cell? ⟨w.heap.size, 3, none⟩ = some (.int .u64 (y.d : Nat)) := blk_cell hB 3
      clear hB hC hb
      go_wp2
      go_roundw
      case rel => exact ⟨k + 1, t.extract 32 t.size, E.out.1, rfl, E.out.2, by rw [P.out]; exact blk_all HT.out.1 z, blk_set_other (blk_set_other (blk_set_other (blk_set_other HT.out.2.1 _ _ (by simp)) _ _ (by simp)) _ _ (by simp)) _ _ (by simp), below_all HT.out.2.2 (Nat.le_refl _) z⟩
      case measure => have es := rest_size t 32; simp only [strOf, es]; omega
end Go.Proofs.Ytlmkdadhdeielaa
