/-
  How many parts are of each class, for every list of a thousand at the most.
-/
import Derived.Test.YtnnecccnoemkpaaOr
namespace Go.Proofs.Ytnnecccnoemkpaa
open Go.ChangeShapes Go.WideShapes Go.ChangeAt Go.RowKit
open Go.ChangeMaps (open_string shut_string)

def cl (ps : List (Int × Int)) (c : Nat) : Nat := ps.countP (fun p => p.1 == (c : Int))
def cnt (ps : List (Int × Int)) : List Int := (List.range 65).map (fun c => (cl ps c : Int))
theorem cnt_len (ps : List (Int × Int)) : (cnt ps).length = 65 := by simp [cnt]
theorem cnt_at (ps : List (Int × Int)) (c : Nat) (h : c < 65) : (cnt ps)[c]? = some (cl ps c : Int) := by
  unfold cnt; rw [List.getElem?_map, List.getElem?_range h]; rfl
theorem cl_le (ps : List (Int × Int)) (c : Nat) : cl ps c ≤ ps.length := List.countP_le_length
theorem cl_snoc (ps : List (Int × Int)) (p : Int × Int) (c : Nat) : cl (ps ++ [p]) c = cl ps c + (if p.1 = (c : Int) then 1 else 0) := by
  unfold cl; rw [List.countP_append, List.countP_singleton]; simp
theorem cnt_in (ps : List (Int × Int)) (p : Int × Int) (k : Nat) (hk : k < 65) (hp : p.1 = (k : Int)) : (cnt ps).set k ((cl ps k : Int) + 1) = cnt (ps ++ [p]) := by
  apply List.ext_getElem?
  intro i
  by_cases hi : i < 65
  · rw [cnt_at _ i hi, List.getElem?_set, cnt_len]
    by_cases e : k = i
    · subst e; rw [if_pos rfl, if_pos hk, cl_snoc, if_pos hp]; rfl
    · rw [if_neg e, cnt_at _ i hi, cl_snoc, if_neg (by rw [hp]; omega)]; rfl
  · rw [List.getElem?_eq_none (by rw [List.length_set, cnt_len]; omega), List.getElem?_eq_none (by rw [cnt_len]; omega)]
theorem cnt_out (ps : List (Int × Int)) (p : Int × Int) (hp : p.1 < 0 ∨ 65 ≤ p.1) : cnt (ps ++ [p]) = cnt ps := by
  unfold cnt
  apply List.map_congr_left
  intro c hc
  rw [List.mem_range] at hc
  rw [cl_snoc, if_neg (by omega)]; rfl
theorem cnt_nil : cnt [] = List.replicate 65 0 := by decide
theorem take_snoc {α : Type} (l : List α) (i : Nat) (h : i < l.length) : l.take (i + 1) = l.take i ++ [l[i]] := by rw [List.take_succ_eq_append_getElem h]
theorem add_next (x : Addr) (i : Nat) : x.add (i * 2 + 1) = ⟨(x.add (i * 2)).block, (x.add (i * 2)).off + 1, none⟩ := by
  unfold Addr.add
  by_cases h : i * 2 = 0
  · simp [h]
  · simp [h]; omega
def OfRel (ps : List (Int × Int)) (w : World) (sv : Value) (wr : World) : Prop :=
  ∃ i : Nat, i ≤ ps.length ∧ sv = .int .i64 i ∧ wr.ownsRow w.heap.size 3 1 (.slice (some ⟨w.heap.size, 0, none⟩) 65 65) 65 (ivs (cnt (ps.take i))) ∧ Below w.heap.size w wr
set_option maxRecDepth 100000 in
set_option maxHeartbeats 1000000 in
theorem of_any (a : Option Addr) (n cap : Nat) (ps : List (Int × Int)) (w : World) (h : RP w a n ps) (hn : n ≤ 1000) :
    Calls Try.prog 16 #[.slice a n cap] w fun e w' => ∃ v, e = .returned v ∧ w'.ownsRow w.heap.size 3 1 v 65 (ivs (cnt ps)) ∧ Below w.heap.size w w' := by
  obtain ⟨h1, h2⟩ := h
  subst h1
  have mk : (Instr.makeSlice 24 (.int .i64 65) (.int .i64 65)).run Try.prog w = .ok (.slice (some ⟨w.heap.size, 0, none⟩) 65 65) (w.alloc (.cells (madeCells #[.int .i64 0] 65) 3)) := make_ints 24 3 Try.underlying24 info3 65 (by omega) w
  have ow := own_made_ints w 3 65 (by omega)
  rw [← cnt_nil] at ow
  have bl : Below w.heap.size w (w.alloc (.cells (madeCells #[.int .i64 0] 65) 3)) := (Below.refl _ _).alloc (Nat.le_refl _) _
  have HX : Hid (0 < ps.length → ∃ x, a = some x ∧ ∀ i (h : i < ps.length), w.cell? (x.add (i * 2)) = some (.int .i64 ps[i].1) ∧ w.cell? (x.add (i * 2 + 1)) = some (.int .u64 ps[i].2)) := h2
  clear h2
  generalize w.alloc (.cells (madeCells #[.int .i64 0] 65) 3) = w1 at *
  go_enter Try.func16, Try.ntmps16
  go_wp2_with fail
  go_loopw [9] (fun sv wr => OfRel ps w sv wr) (fun sv _ => ps.length - (intOf sv).toNat)
  case atStart => exact ⟨0, by omega, rfl, ow, bl⟩
  case round =>
    clear mk ow bl
    obtain ⟨i, hi, rfl, d1, d2⟩ := hrel
    by_cases hlt : i < ps.length
    · obtain ⟨x, rfl, hx⟩ := HX.out (by omega)
      obtain ⟨cx, cy⟩ := hx i hlt
      rw [← d2.cell (World.block_lt_of_cell? _ _ cx)] at cx
      rw [← d2.cell (World.block_lt_of_cell? _ _ cy)] at cy
      rw [add_next] at cy
      have ts := Hid.intro (take_snoc ps i hlt)
      generalize ps[i] = p at *
      clear hx
      by_cases h0 : p.1 < 0
      · obtain ⟨q1, q2⟩ := p
        simp only at h0 cx cy
        have CO := Hid.intro (cnt_out (ps.take i) (q1, q2) (by simp only; omega))
        have o2 : Hid ((wr.alloc (.cells #[.int .i64 q1, .int .u64 q2] 43)).ownsRow w.heap.size 3 1 (.slice (some ⟨w.heap.size, 0, none⟩) 65 65) 65 (ivs (cnt (ps.take (i + 1))))) := by
          show World.ownsRow _ _ _ _ _ _ _
          rw [ts.out, CO.out]; exact World.ownsRow.alloc d1 _
        have b2 : Hid (Below w.heap.size w (wr.alloc (.cells #[.int .i64 q1, .int .u64 q2] 43))) := d2.alloc d2.size _
        clear d1 d2
        go_wp2_with fail
        go_roundw
        case rel => exact ⟨i + 1, by omega, by go_num, o2.out, b2.out⟩
        case measure => simp [intOf]; omega
      · by_cases h65 : 65 ≤ p.1
        · obtain ⟨q1, q2⟩ := p
          simp only at h0 cx cy h65
          have CO := Hid.intro (cnt_out (ps.take i) (q1, q2) (by simp only; omega))
          have o2 : Hid ((wr.alloc (.cells #[.int .i64 q1, .int .u64 q2] 43)).ownsRow w.heap.size 3 1 (.slice (some ⟨w.heap.size, 0, none⟩) 65 65) 65 (ivs (cnt (ps.take (i + 1))))) := by
            show World.ownsRow _ _ _ _ _ _ _
            rw [ts.out, CO.out]; exact World.ownsRow.alloc d1 _
          have b2 : Hid (Below w.heap.size w (wr.alloc (.cells #[.int .i64 q1, .int .u64 q2] 43))) := d2.alloc d2.size _
          clear d1 d2
          go_wp2_with fail
          go_roundw
          case rel => exact ⟨i + 1, by omega, by go_num, o2.out, b2.out⟩
          case measure => simp [intOf]; omega
        · obtain ⟨k, hk⟩ : ∃ k : Nat, p.1 = (k : Int) := ⟨p.1.toNat, by omega⟩
          obtain ⟨q1, q2⟩ := p
          simp only at hk h0 h65 cx cy
          subst hk
          have hk65 : k < 65 := by omega
          have hle := cl_le (ps.take i) k
          rw [List.length_take] at hle
          have ck : wr.cell? ⟨w.heap.size, k, none⟩ = some (.int .i64 (cl (ps.take i) k : Int)) := by
            rw [(own_there d1 k (by omega)).1]; unfold ivs; rw [List.getElem?_map, cnt_at _ k hk65]; rfl
          have fk := (own_there d1 k (by omega)).2.2
          have hs := (d1.lt w.heap.size rfl).2
          have o1 := own_set d1 k (.int .i64 ((cl (ps.take i) k : Int) + 1))
          rw [ivs_set, cnt_in (ps.take i) ((k : Int), q2) k hk65 rfl, ← ts.out] at o1
          have o2 := Hid.intro (World.ownsRow.alloc o1 (.cells #[.int .i64 (k : Int), .int .u64 q2] 43))
          have b2 : Hid (Below w.heap.size w ((wr.setCell ⟨w.heap.size, k, none⟩ (.int .i64 ((cl (ps.take i) k : Int) + 1))).alloc (.cells #[.int .i64 (k : Int), .int .u64 q2] 43))) := (d2.setCell (Nat.le_refl _) _).alloc (by have := d2.size; simp; omega) _
          generalize cl (ps.take i) k = y at *
          clear d1 d2 o1
          go_wp2_with fail
          go_roundw
          case rel => exact ⟨i + 1, by omega, by go_num, o2.out, b2.out⟩
          case measure => simp [intOf]; omega
    · obtain rfl : i = ps.length := by omega
      rw [List.take_length] at d1
      go_wp2_with fail
      go_ret
      exact ⟨_, rfl, d1, d2⟩
end Go.Proofs.Ytnnecccnoemkpaa
