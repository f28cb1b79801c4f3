/-
  step of the four, of package state: what it returns.
-/
import Derived.Test.YtlmkdadhdeielaaFo
namespace Go.Proofs.Ytlmkdadhdeielaa
open Go.ChangeShapes Go.WideShapes Go.ChangeAt Go.RowKit
open Go.ChangeMaps (open_string shut_string)


theorem alloc_sz (w : World) (o : Obj) : (w.alloc o).heap.size = w.heap.size + 1 := by simp
theorem num_at {W : World} {B : Nat} {k : List UInt8} (hB : Blk W B (k.map byteV).toArray 37) (hk : k.length = 32) (o cap : Nat) (ho : o + 8 ≤ 32) (hcap : 8 ≤ cap) (V : World) (hV : V.heap = W.heap) :
    Calls Try.prog 31 #[.slice (some ⟨B, o, none⟩) 8 cap] V fun e w' => e = .returned (.int .u64 (wval ((k.drop o).take 8) : Nat)) ∧ w' = V := by
  refine numb_any B o cap ((k.drop o).take 8) (by rw [List.length_take, List.length_drop]; omega) hcap V fun j hj => ?_
  have hB' : Blk V B (k.map byteV).toArray 37 := by unfold Blk; rw [hV]; exact hB
  rw [List.length_take, List.length_drop] at hj
  have ho2 : o + j < k.length := by omega
  rw [blk_cell hB', List.getElem?_toArray, List.getElem?_map, List.getElem_take, List.getElem_drop, List.getElem?_eq_getElem ho2]
  rfl

def SRelF (f : F4) (k : List UInt8) (w : World) (iv : Value) (wr : World) : Prop :=
  ∃ i : Nat, i ≤ 4 ∧ iv = .int .i64 i ∧ Blk wr w.heap.size (cells4 (st f k i)) 36 ∧ Blk wr (w.heap.size + 1) (k.map byteV).toArray 37 ∧ Blk wr (w.heap.size + 1 + 1) nil4 36 ∧ Below w.heap.size w wr
theorem srelF_step {f : F4} {k : List UInt8} {w wr : World} {i : Nat} {z : Nat} {u : Nat} (hi : i + 1 ≤ 4) (hA : Blk wr w.heap.size (cells4 (st f k i)) 36) (hB : Blk wr (w.heap.size + 1) (k.map byteV).toArray 37) (hC : Blk wr (w.heap.size + 1 + 1) nil4 36) (hb : Below w.heap.size w wr)
    (hu : (cells4 (st f k i)).setIfInBounds u (.int .u64 (z : Int)) = cells4 (st f k (i + 1))) : SRelF f k w (.int .i64 ((i + 1 : Nat) : Int)) (wr.setCell ⟨w.heap.size, u, none⟩ (.int .u64 (z : Int))).drew := by
  refine ⟨i + 1, hi, rfl, ?_, blk_set_other hB _ _ (by simp), blk_set_other hC _ _ (by show w.heap.size + 1 + 1 ≠ w.heap.size; omega), (hb.setCell (by simp) _).drew⟩
  have := blk_set hA u (.int .u64 (z : Int))
  rw [hu] at this
  exact this

set_option maxRecDepth 100000 in
set_option maxHeartbeats 1000000 in
theorem stepF_any (f : F4) (k : List UInt8) (hk : k.length = 32) (w : World) :
    Calls Try.prog 22 #[agg4 f, .agg (k.map byteV).toArray] w fun e w' => e = .returned (agg4 (step4 f k)) ∧ Below w.heap.size w w' := by
  have H1 : Below w.heap.size w (((w.alloc (.cells (cells4 f) 36)).alloc (.cells (k.map byteV).toArray 37)).alloc (.cells nil4 36)) := (((Below.refl _ _).alloc (Nat.le_refl _) _).alloc (by simp) _).alloc (by simp; omega) _
  have H2 : Blk (((w.alloc (.cells (cells4 f) 36)).alloc (.cells (k.map byteV).toArray 37)).alloc (.cells nil4 36)) w.heap.size (cells4 f) 36 := blk_alloc (blk_alloc (blk_new w _ _) _) _
  have H3 : Blk (((w.alloc (.cells (cells4 f) 36)).alloc (.cells (k.map byteV).toArray 37)).alloc (.cells nil4 36)) (w.heap.size + 1) (k.map byteV).toArray 37 := by
    have := blk_new (w.alloc (.cells (cells4 f) 36)) (k.map byteV).toArray 37
    rw [alloc_sz] at this
    exact blk_alloc this _
  have H4 : Blk (((w.alloc (.cells (cells4 f) 36)).alloc (.cells (k.map byteV).toArray 37)).alloc (.cells nil4 36)) (w.heap.size + 1 + 1) nil4 36 := by
    have := blk_new ((w.alloc (.cells (cells4 f) 36)).alloc (.cells (k.map byteV).toArray 37)) nil4 36
    rw [alloc_sz, alloc_sz] at this
    exact this
  replace H1 := hidI H1
  replace H2 := hidI H2
  replace H3 := hidI H3
  replace H4 := hidI H4
  unfold agg4
  go_enter Try.func22, Try.ntmps22
  go_wp2
  unfold cells4 nil4 at H1 H2 H3 H4
  generalize (((w.alloc (.cells #[.int .u64 (f.a : Int), .int .u64 (f.b : Int), .int .u64 (f.c : Int), .int .u64 (f.d : Int)] 36)).alloc (.cells (k.map byteV).toArray 37)).alloc (.cells #[.int .u64 0, .int .u64 0, .int .u64 0, .int .u64 0] 36)) = W at *
  go_loopw [6] (fun iv wr => SRelF f k w iv wr) (fun iv _ => 4 - (intOf iv).toNat)
  case atStart => exact ⟨0, by omega, rfl, H2.out, H3.out, H4.out, H1.out⟩
  case round =>
    clear H1 H2 H3 H4
    obtain ⟨i, hi, rfl, hA, hB, hC, hb⟩ := hrel
    have HS := hidI (And.intro hA (And.intro hB (And.intro hC hb)))
    have hsz := blk_lt hC
    have d0 : wr.cell? ⟨w.heap.size + 1 + 1, 0, none⟩ = some (.int .u64 0) := blk_cell hC 0
    have d1 : wr.cell? ⟨w.heap.size + 1 + 1, 1, none⟩ = some (.int .u64 0) := blk_cell hC 1
    have d2 : wr.cell? ⟨w.heap.size + 1 + 1, 2, none⟩ = some (.int .u64 0) := blk_cell hC 2
    have d3 : wr.cell? ⟨w.heap.size + 1 + 1, 3, none⟩ = some (.int .u64 0) := blk_cell hC 3
    have g := fun j => blk_free hC j
    have b0 : wr.cell? ⟨w.heap.size, 0, none⟩ = some (.int .u64 ((st f k i).a : Nat)) := blk_cell hA 0
    have b1 : wr.cell? ⟨w.heap.size, 1, none⟩ = some (.int .u64 ((st f k i).b : Nat)) := blk_cell hA 1
    have b2 : wr.cell? ⟨w.heap.size, 2, none⟩ = some (.int .u64 ((st f k i).c : Nat)) := blk_cell hA 2
    have b3 : wr.cell? ⟨w.heap.size, 3, none⟩ = some (.int .u64 ((st f k i).d : Nat)) := blk_cell hA 3
    have fr := fun j => blk_free hA j
    have hc : i = 0 ∨ i = 1 ∨ i = 2 ∨ i = 3 ∨ i = 4 := by omega
    rcases hc with rfl | rfl | rfl | rfl | rfl
    · have cn := num_at hB hk 0 32 (by decide) (by decide) wr.drew rfl
      have V : Hid ((cells4 (st f k 0)).setIfInBounds 0 (.int .u64 (rnd (st f k 0).a (wval ((k.drop 0).take 8)) : Nat)) = cells4 (st f k (0 + 1))) := by
        show _ = _
        rw [set_a, st1, List.drop_zero]
      replace V := fun (_ : Unit) => V
      have cr := fun w => round_any (st f k 0).a (wval ((k.drop 0).take 8)) w
      generalize rnd (st f k 0).a (wval ((k.drop 0).take 8)) = z at *
      generalize wval ((k.drop 0).take 8) = y at *
      clear hA hB hC hb
      have w0 : IntKind.i64.wrap 0 = 0 := by decide
      have w1 : IntKind.i64.wrap 0 = 0 := by decide
      have w2 : IntKind.i64.wrap 1 = 1 := by decide
      have w3 : IntKind.i64.wrap 8 = 8 := by decide
      go_wp2
      go_region_with (first | (go_at_call 31; refine cn.mono ?_; rintro e w4 ⟨rfl, rfl⟩) | (go_at_call 30; refine (cr _).mono ?_; rintro e w4 ⟨rfl, rfl⟩) | go_in)
      all_goals
        clear cn cr w0 w1 w2 w3
        go_wp2
        go_roundw
        case rel => exact srelF_step (by omega) HS.out.1 HS.out.2.1 HS.out.2.2.1 HS.out.2.2.2 (V ()).out
        case measure => simp [intOf]
    · have cn := num_at hB hk 8 24 (by decide) (by decide) wr.drew rfl
      have V : Hid ((cells4 (st f k 1)).setIfInBounds 1 (.int .u64 (rnd (st f k 1).b (wval ((k.drop 8).take 8)) : Nat)) = cells4 (st f k (1 + 1))) := by
        show _ = _
        rw [set_b, st2]
      replace V := fun (_ : Unit) => V
      have cr := fun w => round_any (st f k 1).b (wval ((k.drop 8).take 8)) w
      generalize rnd (st f k 1).b (wval ((k.drop 8).take 8)) = z at *
      generalize wval ((k.drop 8).take 8) = y at *
      clear hA hB hC hb
      have w0 : IntKind.i64.wrap 1 = 1 := by decide
      have w1 : IntKind.i64.wrap 8 = 8 := by decide
      have w2 : IntKind.i64.wrap 2 = 2 := by decide
      have w3 : IntKind.i64.wrap 16 = 16 := by decide
      go_wp2
      go_region_with (first | (go_at_call 31; refine cn.mono ?_; rintro e w4 ⟨rfl, rfl⟩) | (go_at_call 30; refine (cr _).mono ?_; rintro e w4 ⟨rfl, rfl⟩) | go_in)
      all_goals
        clear cn cr w0 w1 w2 w3
        go_wp2
        go_roundw
        case rel => exact srelF_step (by omega) HS.out.1 HS.out.2.1 HS.out.2.2.1 HS.out.2.2.2 (V ()).out
        case measure => simp [intOf]
    · have cn := num_at hB hk 16 16 (by decide) (by decide) wr.drew rfl
      have V : Hid ((cells4 (st f k 2)).setIfInBounds 2 (.int .u64 (rnd (st f k 2).c (wval ((k.drop 16).take 8)) : Nat)) = cells4 (st f k (2 + 1))) := by
        show _ = _
        rw [set_c, st3]
      replace V := fun (_ : Unit) => V
      have cr := fun w => round_any (st f k 2).c (wval ((k.drop 16).take 8)) w
      generalize rnd (st f k 2).c (wval ((k.drop 16).take 8)) = z at *
      generalize wval ((k.drop 16).take 8) = y at *
      clear hA hB hC hb
      have w0 : IntKind.i64.wrap 2 = 2 := by decide
      have w1 : IntKind.i64.wrap 16 = 16 := by decide
      have w2 : IntKind.i64.wrap 3 = 3 := by decide
      have w3 : IntKind.i64.wrap 24 = 24 := by decide
      go_wp2
      go_region_with (first | (go_at_call 31; refine cn.mono ?_; rintro e w4 ⟨rfl, rfl⟩) | (go_at_call 30; refine (cr _).mono ?_; rintro e w4 ⟨rfl, rfl⟩) | go_in)
      all_goals
        clear cn cr w0 w1 w2 w3
        go_wp2
        go_roundw
        case rel => exact srelF_step (by omega) HS.out.1 HS.out.2.1 HS.out.2.2.1 HS.out.2.2.2 (V ()).out
        case measure => simp [intOf]
    · have cn := num_at hB hk 24 8 (by decide) (by decide) wr.drew rfl
      have V : Hid ((cells4 (st f k 3)).setIfInBounds 3 (.int .u64 (rnd (st f k 3).d (wval ((k.drop 24).take 8)) : Nat)) = cells4 (st f k (3 + 1))) := by
        show _ = _
        rw [set_d, st4]
      replace V := fun (_ : Unit) => V
      have cr := fun w => round_any (st f k 3).d (wval ((k.drop 24).take 8)) w
      generalize rnd (st f k 3).d (wval ((k.drop 24).take 8)) = z at *
      generalize wval ((k.drop 24).take 8) = y at *
      clear hA hB hC hb
      have w0 : IntKind.i64.wrap 3 = 3 := by decide
      have w1 : IntKind.i64.wrap 24 = 24 := by decide
      have w2 : IntKind.i64.wrap 4 = 4 := by decide
      have w3 : IntKind.i64.wrap 32 = 32 := by decide
      go_wp2
      go_region_with (first | (go_at_call 31; refine cn.mono ?_; rintro e w4 ⟨rfl, rfl⟩) | (go_at_call 30; refine (cr _).mono ?_; rintro e w4 ⟨rfl, rfl⟩) | go_in)
      all_goals
        clear cn cr w0 w1 w2 w3
        go_wp2
        go_roundw
        case rel => exact srelF_step (by omega) HS.out.1 HS.out.2.1 HS.out.2.2.1 HS.out.2.2.2 (V ()).out
        case measure => simp [intOf]
    · have E : st f k 4 = step4 f k := by simp only [st]
      rw [E] at b0 b1 b2 b3 HS
      clear E hA hB hC hb
      obtain ⟨y, hy'⟩ : ∃ y, step4 f k = y := ⟨_, rfl⟩
      rw [hy'] at b0 b1 b2 b3 HS
      have hy := hidI hy'
      clear hy'
      go_wp2
      exact bodyPost_ret (v := agg4 y) (by simp [results, Try.results22, go_sem, agg4, d0, d1, d2, d3]) rfl ⟨by show Ending.returned (agg4 y) = .returned (agg4 (step4 f k)); rw [hy.out], ((((HS.out.2.2.2).setCell (by simp; omega) _).setCell (by simp; omega) _).setCell (by simp; omega) _).setCell (by simp; omega) _⟩

end Go.Proofs.Ytlmkdadhdeielaa
