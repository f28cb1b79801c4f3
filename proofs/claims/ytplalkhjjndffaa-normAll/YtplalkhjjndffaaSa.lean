/-
  Whether two lists of numbers are one; parts of numbers are told again, and all are counted.
-/
import Derived.Test.YtplalkhjjndffaaOf
import Derived.Test.YtplalkhjjndffaaRw
import Derived.Deep.QuietTactic
import Derived.BigQuiet
import Derived.Deep.RegionHeld3
namespace Go.Proofs.Ytplalkhjjndffaa
open Go.ChangeShapes Go.WideShapes Go.ChangeAt Go.RowKit
open Go.ChangeMaps (open_string shut_string)
def SaRelI (zs ys : List Int) (w : World) (sv : Value) (wr : World) : Prop :=
  ∃ i : Nat, i ≤ zs.length ∧ sv = .int .i64 i ∧ zs.take i = ys.take i ∧ Below w.heap.size w wr
set_option maxRecDepth 100000 in
set_option maxHeartbeats 1000000 in
theorem sameI_any (a b : Option Addr) (n m cap cap' : Nat) (zs ys : List Int) (w : World) (h : RI w a n zs) (h' : RI w b m ys) (hn : n ≤ 100000) (hm : m ≤ 9223372036854775807) :
    Calls Try.prog 14 #[.slice a n cap, .slice b m cap'] w fun e w' => e = .returned (.bool (decide (zs = ys))) ∧ Below w.heap.size w w' := by
  obtain ⟨h1, h2⟩ := h
  obtain ⟨h1', h2'⟩ := h'
  subst h1 h1'
  have HX : Hid (0 < zs.length → ∃ x, a = some x ∧ ∀ i (h : i < zs.length), w.cell? (x.add i) = some (.int .i64 zs[i])) := h2
  have HY : Hid (0 < ys.length → ∃ x, b = some x ∧ ∀ i (h : i < ys.length), w.cell? (x.add i) = some (.int .i64 ys[i])) := h2'
  clear h2 h2'
  by_cases hl : zs.length = ys.length
  · have HL := Hid.intro hl
    obtain ⟨k, hk⟩ : ∃ k, ys.length = k := ⟨_, rfl⟩
    rw [hk] at hl
    rw [hk, hl]
    rw [hl] at hn
    have t0 : ((k : Int) == (k : Int)) = true := by simp
    have HK := Hid.intro hk
    have HZ := Hid.intro hl
    clear hk hl hm
    go_enter Try.func14, Try.ntmps14
    go_wp2_with fail
    go_loopw [5] (fun sv wr => SaRelI zs ys w sv wr) (fun sv _ => k - (intOf sv).toNat)
    case atStart => exact ⟨0, by omega, rfl, rfl, Below.refl _ _⟩
    case round =>
      obtain ⟨i, hi, rfl, d0, d1⟩ := hrel
      have hi' : i ≤ k := by rw [← HZ.out]; exact hi
      clear hi
      by_cases hlt : i < k
      · have lz : i < zs.length := by rw [HZ.out]; exact hlt
        have ly : i < ys.length := by rw [HK.out]; exact hlt
        obtain ⟨x, rfl, hx⟩ := HX.out (by omega)
        obtain ⟨y, rfl, hy⟩ := HY.out (by omega)
        have cx := hx i lz
        have cy := hy i ly
        rw [← d1.cell (World.block_lt_of_cell? _ _ cx)] at cx
        rw [← d1.cell (World.block_lt_of_cell? _ _ cy)] at cy
        have B1 : Hid (∀ k, Below w.heap.size w (wr.drewN k)) := fun k => below_drewN d1 k
        have TS : Hid (zs[i] = ys[i] → zs.take (i + 1) = ys.take (i + 1)) := fun e => by rw [take_snoc zs i lz, take_snoc ys i ly, d0, e]
        have NE : Hid (¬ zs[i] = ys[i] → ¬ zs = ys) := fun e h => by subst h; exact e rfl
        generalize zs[i] = u at *
        generalize ys[i] = v at *
        clear hx hy d0 d1 lz ly
        by_cases he : u = v
        · have T := Hid.intro (TS.out he)
          have t1 : (u == v) = true := by simp [he]
          have t2 : (u != v) = false := by simp [he]
          clear TS NE he
          go_wp2_with fail
          go_quiet (fail)
          clear t1 t2
          go_wp2_with fail
          go_roundw
          case rel => exact ⟨i + 1, by rw [HZ.out]; exact hlt, by go_num, T.out, B1.out nq⟩
          case measure => simp [intOf]; omega
        · have N := Hid.intro (NE.out he)
          have t1 : (u == v) = false := by simp [he]
          have t2 : (u != v) = true := by simp [he]
          clear TS NE he
          go_wp2_with fail
          go_quiet (fail)
          clear t1 t2
          go_wp2_with fail
          go_ret
          exact ⟨by rw [decide_eq_false N.out]; rfl, B1.out nq⟩
      · have E : Hid (zs = ys) := by
          have e : i = k := by omega
          subst e
          rwa [List.take_of_length_le (by rw [HZ.out]; exact Nat.le_refl _), List.take_of_length_le (by rw [HK.out]; exact Nat.le_refl _)] at d0
        clear d0
        go_wp2_with fail
        go_ret
        exact ⟨by rw [decide_eq_true E.out]; rfl, d1⟩
  · have N : Hid (¬ zs = ys) := fun h => hl (by rw [h])
    have t0 : ((zs.length : Int) == (ys.length : Int)) = false := by simp; omega
    go_enter Try.func14, Try.ntmps14
    go_wp2_with fail
    go_ret
    exact ⟨by rw [decide_eq_false N.out]; rfl, Below.refl _ _⟩
end Go.Proofs.Ytplalkhjjndffaa
