/-
  Lists of packages set together.
-/
import Derived.Test.YtabnafjndljimaaIp
import Derived.Lib.AppendZeros
import Derived.Test.YtabnafjndljimaaJm
namespace Go.Proofs.Ytabnafjndljimaa
open Go.ChangeShapes Go.WideShapes Go.ChangeAt Go.RowKit
open Go.ChangeMaps (open_string shut_string)

theorem info63 : (Try.prog.info? 63).map (fun i => (i.zero, i.size, i.bytes)) = some (some (.agg #[.int .i64 0, .slice none 0 0]), 2, 32) := by kernel_rfl
set_option maxRecDepth 100000 in
set_option maxHeartbeats 1000000 in
theorem grow_any (n : Nat) (w : World) (h0 : 0 < n) (hn : n ≤ 1000) :
    Calls Try.prog 46 #[.slice none 0 0, .int .i64 (n : Int)] w fun e w' => ∃ v, e = .returned v ∧ w'.ownsRow w.heap.size 63 2 v 0 [] ∧ Below w.heap.size w w' := by
  obtain ⟨i, hi, hz, hs, hb⟩ := info_all info63
  have hr := Lib.run_append_nil_zeros (P := Try.prog) w 61 3 61 63 i _ .i64 .i64 Try.underlying61 Try.underlying3 hi hz n h0 (by omega) (by omega) (by rw [hb]; omega)
  have hge := grownCap_ge w n 0 63
  have hcm : grownCap w n 0 63 ≤ maxLen := grownCap_le_maxLen w n 0 63 (by simp only [maxLen]; omega)
  have ow : (w.drew.alloc (.cells (Builtin.zeroCells (Value.agg #[.int .i64 0, .slice none 0 0]).cells n ++ Builtin.zeroCells (Value.agg #[.int .i64 0, .slice none 0 0]).cells (grownCap w n 0 63 - n)) 63)).ownsRow w.heap.size 63 2 (.slice (some ⟨w.heap.size, 0, none⟩) 0 (grownCap w n 0 63)) 0 [] := by
    refine ⟨rfl, .inr ⟨w.heap.size, _, _, rfl, Nat.le_refl _, blk_new w.drew _ _, Nat.zero_le _, hcm, ?_, by simp⟩⟩
    rw [Array.size_append, size_zeroCells, size_zeroCells]
    have e : (Value.agg #[.int .i64 0, .slice none 0 0]).cells.size = 2 := rfl
    rw [e, ← Nat.add_mul]; congr 1; omega
  have bw : Below w.heap.size w (w.drew.alloc (.cells (Builtin.zeroCells (Value.agg #[.int .i64 0, .slice none 0 0]).cells n ++ Builtin.zeroCells (Value.agg #[.int .i64 0, .slice none 0 0]).cells (grownCap w n 0 63 - n)) 63)) := (Below.refl _ _).drew.alloc (Nat.le_refl _) _
  have OW := Hid.intro (And.intro ow bw)
  have hc0 : (0 : Int) ≤ (grownCap w n 0 63 : Nat) := by omega
  generalize Builtin.zeroCells (Value.agg #[.int .i64 0, .slice none 0 0]).cells n ++ Builtin.zeroCells (Value.agg #[.int .i64 0, .slice none 0 0]).cells (grownCap w n 0 63 - n) = cs at *
  generalize grownCap w n 0 63 = C at *
  clear ow bw hi hz hs hb hcm hge
  go_enter Try.func46, Try.ntmps46
  go_wp2_with (at_builtin; refine Lib.wpList_append_run _ rfl (.tmp 20) (.tmp 21) 61 3 rfl _ _ rfl rfl _ _ hr ?_)
  go_wp2_with fail
  go_ret
  exact ⟨_, rfl, OW.out.1, OW.out.2⟩
def CcRel1 (n1 n2 : Nat) (w : World) (sz sv : Value) (wr : World) : Prop :=
  ((sv = .int .i64 0 ∧ sz = .int .i64 0) ∨ (sv = .int .i64 1 ∧ sz = .int .i64 (n1 : Int)) ∨ (sv = .int .i64 2 ∧ sz = .int .i64 ((n1 + n2 : Nat) : Int))) ∧ w = wr
def CcRel2 (n1 n2 : Nat) (xs ys : List Value) (w : World) (rv sv : Value) (wr : World) : Prop :=
  ((sv = .int .i64 0 ∧ wr.ownsRow w.heap.size 63 2 rv 0 []) ∨ (sv = .int .i64 1 ∧ wr.ownsRow w.heap.size 63 2 rv n1 xs) ∨ (sv = .int .i64 2 ∧ wr.ownsRow w.heap.size 63 2 rv (n1 + n2) (xs ++ ys))) ∧ Below w.heap.size w wr
set_option maxRecDepth 100000 in
set_option maxHeartbeats 2000000 in
theorem concat_any (B n1 n2 c1 c2 : Nat) (a1 a2 : Option Addr) (xs ys : List Value) (w : World) (hB : Blk w B #[.slice a1 n1 c1, .slice a2 n2 c2] 61) (h0 : 0 < n1) (hn : n1 + n2 ≤ 1000)
    (lx : xs.length = n1 * 2) (ly : ys.length = n2 * 2) (hx1 : ∀ u ∈ xs, u.oneCell' = true) (hy1 : ∀ u ∈ ys, u.oneCell' = true) (e1 : a1 = none → c1 = 0 ∧ n1 = 0) (e2 : a2 = none → c2 = 0 ∧ n2 = 0)
    (hx : ∀ x, a1 = some x → ∀ j u, xs[j]? = some u → w.cell? (x.add j) = some u) (hy : ∀ x, a2 = some x → ∀ j u, ys[j]? = some u → w.cell? (x.add j) = some u) :
    Calls Try.prog 42 #[.slice (some ⟨B, 0, none⟩) 2 2] w fun e w' => ∃ v, e = .returned v ∧ w'.ownsRow w.heap.size 63 2 v (n1 + n2) (xs ++ ys) ∧ Below w.heap.size w w' := by
  obtain ⟨i0, hi, hz, hs, hb⟩ := info_all info63
  have c0 : w.cell? ⟨B, 0, none⟩ = some (.slice a1 n1 c1) := by rw [blk_cell hB]; rfl
  have c1' : w.cell? ⟨B, 1, none⟩ = some (.slice a2 n2 c2) := by rw [blk_cell hB]; rfl
  have hlt := blk_lt hB
  have C0 := Hid.intro c0
  have C1 := Hid.intro c1'
  have GR := grow_any (n1 + n2) w (by omega) hn
  have HX := Hid.intro hx
  have HY := Hid.intro hy
  have LX := Hid.intro lx
  have LY := Hid.intro ly
  have HX1 := Hid.intro hx1
  have HY1 := Hid.intro hy1
  have E1 := Hid.intro e1
  have E2 := Hid.intro e2
  have en : ((n1 + n2 : Nat) : Int) = (n1 : Int) + (n2 : Int) := by omega
  clear hx hy lx ly hx1 hy1 e1 e2 hB
  go_enter Try.func42, Try.ntmps42
  go_wp2_with fail
  go_loopw [3, 11] (fun sz sv wr => CcRel1 n1 n2 w sz sv wr) (fun _ sv _ => 2 - (intOf sv).toNat)
  case atStart => exact ⟨.inl ⟨rfl, rfl⟩, rfl⟩
  case round =>
    obtain ⟨hr, rfl⟩ := hrel
    rcases hr with ⟨rfl, rfl⟩ | ⟨rfl, rfl⟩ | ⟨rfl, rfl⟩
    · clear GR
      go_wp2_with fail
      go_roundw
      case rel => exact ⟨.inr (.inl ⟨rfl, by simp⟩), rfl⟩
      case measure => decide
    · clear GR
      go_wp2_with fail
      go_roundw
      case rel => exact ⟨.inr (.inr ⟨rfl, by simp⟩), rfl⟩
      case measure => decide
    · rw [en] at GR ⊢
      clear en
      go_wp2_with fail
      with_reducible refine GR.mono ?_
      rintro e w2 ⟨v2, rfl, k1, k2⟩
      have c0 : w2.cell? ⟨B, 0, none⟩ = some (.slice a1 n1 c1) := by rw [k2.cell (p := ⟨B, 0, none⟩) hlt]; exact c0
      have c1' : w2.cell? ⟨B, 1, none⟩ = some (.slice a2 n2 c2) := by rw [k2.cell (p := ⟨B, 1, none⟩) hlt]; exact c1'
      have ST : Hid (CcRel2 n1 n2 xs ys w v2 (.int .i64 0) w2) := ⟨.inl ⟨rfl, k1⟩, k2⟩
      clear GR k1 k2
      go_wp2_with fail
      go_loopw [6, 27] (fun rv sv wr => CcRel2 n1 n2 xs ys w rv sv wr) (fun _ sv _ => 2 - (intOf sv).toNat)
      case atStart => exact ST.out
      case round =>
        clear ST c0 c1'
        obtain ⟨hr, d2⟩ := hrel
        have c0 : wr.cell? ⟨B, 0, none⟩ = some (.slice a1 n1 c1) := by rw [d2.cell (p := ⟨B, 0, none⟩) hlt]; exact C0.out
        have c1' : wr.cell? ⟨B, 1, none⟩ = some (.slice a2 n2 c2) := by rw [d2.cell (p := ⟨B, 1, none⟩) hlt]; exact C1.out
        rcases hr with ⟨rfl, d1⟩ | ⟨rfl, d1⟩ | ⟨rfl, d1⟩
        · have cl : Hid (∀ x, a1 = some x → ∀ j u, xs[j]? = some u → wr.cell? (x.add j) = some u) := fun x hx j u hu => by
            have c := HX.out x hx j u hu
            rw [d2.cell (World.block_lt_of_cell? _ _ c)]; exact c
          have D1 := Hid.intro d1
          have D2 := Hid.intro d2
          clear d1 d2
          go_wp2_with (at_builtin; refine wpList_pushS _ rfl (.tmp 31) (.tmp 32) 61 rfl 63 i0 (.agg #[.int .i64 0, .slice none 0 0]) 2 32 Try.underlying61 hi hz hs hb rfl (by decide) (by decide) u6 0 [] rfl (own_low D1.out (Nat.zero_le _)) a1 n1 c1 xs rfl LX.out E1.out cl.out HX1.out (by omega) ?_)
          intro v3 w3 g1 g2 g3
          have R : Hid (CcRel2 n1 n2 xs ys w v3 (.int .i64 1) w3) := ⟨.inr (.inl ⟨rfl, own_up (by simpa using g1) (fun k hk => (g3 k hk).elim (fun e => (D1.out.lt k e).1) (fun e => Nat.le_trans D2.out.size e))⟩), below_grown D2.out g2 D2.out.size (fun k hk => (D1.out.lt k hk).1)⟩
          clear g1 g2 g3
          go_wp2_with fail
          go_roundw
          case rel => exact R.out
          case measure => decide
        · have cl : Hid (∀ x, a2 = some x → ∀ j u, ys[j]? = some u → wr.cell? (x.add j) = some u) := fun x hx j u hu => by
            have c := HY.out x hx j u hu
            rw [d2.cell (World.block_lt_of_cell? _ _ c)]; exact c
          have D1 := Hid.intro d1
          have D2 := Hid.intro d2
          clear d1 d2
          go_wp2_with (at_builtin; refine wpList_pushS _ rfl (.tmp 31) (.tmp 32) 61 rfl 63 i0 (.agg #[.int .i64 0, .slice none 0 0]) 2 32 Try.underlying61 hi hz hs hb rfl (by decide) (by decide) u6 n1 xs rfl (own_low D1.out (Nat.zero_le _)) a2 n2 c2 ys rfl LY.out E2.out cl.out HY1.out (by omega) ?_)
          intro v3 w3 g1 g2 g3
          have R : Hid (CcRel2 n1 n2 xs ys w v3 (.int .i64 2) w3) := ⟨.inr (.inr ⟨rfl, own_up g1 (fun k hk => (g3 k hk).elim (fun e => (D1.out.lt k e).1) (fun e => Nat.le_trans D2.out.size e))⟩), below_grown D2.out g2 D2.out.size (fun k hk => (D1.out.lt k hk).1)⟩
          clear g1 g2 g3
          go_wp2_with fail
          go_roundw
          case rel => exact R.out
          case measure => decide
        · have D1 := Hid.intro (And.intro d1 d2)
          clear d1 d2
          go_wp2_with fail
          go_ret
          exact ⟨_, rfl, D1.out.1, D1.out.2⟩
end Go.Proofs.Ytabnafjndljimaa
