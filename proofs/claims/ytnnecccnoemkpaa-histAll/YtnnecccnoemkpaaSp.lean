/-
  Whether two lists of parts are one.
-/
import Derived.Test.YtnnecccnoemkpaaBd
import Derived.Deep.QuietTactic
import Derived.BigQuiet
namespace Go.Proofs.Ytnnecccnoemkpaa
open Go.ChangeShapes Go.WideShapes Go.ChangeAt Go.RowKit
open Go.ChangeMaps (open_string shut_string)


def SaRelP (zs ys : List (Int × Int)) (w : World) (sv : Value) (wr : World) : Prop :=
  ∃ i : Nat, i ≤ zs.length ∧ sv = .int .i64 i ∧ zs.take i = ys.take i ∧ Below w.heap.size w wr
set_option maxRecDepth 100000 in
set_option maxHeartbeats 1000000 in
theorem sameP_any (a b : Option Addr) (n m cap cap' : Nat) (zs ys : List (Int × Int)) (w : World) (h : RP w a n zs) (h' : RP w b m ys) (hn : n ≤ 100000) (hm : m ≤ 9223372036854775807) :
    Calls Try.prog 11 #[.slice a n cap, .slice b m cap'] w fun e w' => e = .returned (.bool (decide (zs = ys))) ∧ Below w.heap.size w w' := by
  obtain ⟨h1, h2⟩ := h
  obtain ⟨h1', h2'⟩ := h'
  subst h1 h1'
  have HX : Hid (0 < zs.length → ∃ x, a = some x ∧ ∀ i (h : i < zs.length), w.cell? (x.add (i * 2)) = some (.int .i64 zs[i].1) ∧ w.cell? (x.add (i * 2 + 1)) = some (.int .u64 zs[i].2)) := h2
  have HY : Hid (0 < ys.length → ∃ x, b = some x ∧ ∀ i (h : i < ys.length), w.cell? (x.add (i * 2)) = some (.int .i64 ys[i].1) ∧ w.cell? (x.add (i * 2 + 1)) = some (.int .u64 ys[i].2)) := h2'
  clear h2 h2'
  by_cases hl : zs.length = ys.length
  · have HL := Hid.intro hl
    obtain ⟨k, hk⟩ : ∃ k, ys.length = k := ⟨_, rfl⟩
    rw [hk] at hl
    rw [hk, hl]
    rw [hl] at hn
    have t0 : ((k : Int) == (k : Int)) = true := by simp
    have HK := Hid.intro hk
    have HZ := Hid.intro hl
    clear hk hl hm
    go_enter Try.func11, Try.ntmps11
    go_wp2_with fail
    go_loopw [5] (fun sv wr => SaRelP zs ys w sv wr) (fun sv _ => k - (intOf sv).toNat)
    case atStart => exact ⟨0, by omega, rfl, rfl, Below.refl _ _⟩
    case round =>
      obtain ⟨i, hi, rfl, d0, d1⟩ := hrel
      have hi' : i ≤ k := by rw [← HZ.out]; exact hi
      clear hi
      by_cases hlt : i < k
      · have lz : i < zs.length := by rw [HZ.out]; exact hlt
        have ly : i < ys.length := by rw [HK.out]; exact hlt
        obtain ⟨x, rfl, hx⟩ := HX.out (by omega)
        obtain ⟨y, rfl, hy⟩ := HY.out (by omega)
        obtain ⟨cx, cx'⟩ := hx i lz
        obtain ⟨cy, cy'⟩ := hy i ly
        rw [← d1.cell (World.block_lt_of_cell? _ _ cx)] at cx
        rw [← d1.cell (World.block_lt_of_cell? _ _ cy)] at cy
        rw [← d1.cell (World.block_lt_of_cell? _ _ cx'), add_next] at cx'
        rw [← d1.cell (World.block_lt_of_cell? _ _ cy'), add_next] at cy'
        have B1 : Hid (∀ k, Below w.heap.size w (wr.drewN k)) := fun k => below_drewN d1 k
        have TS : Hid (zs[i] = ys[i] → zs.take (i + 1) = ys.take (i + 1)) := fun e => by rw [take_snoc zs i lz, take_snoc ys i ly, d0, e]
        have NE : Hid (¬ zs[i] = ys[i] → ¬ zs = ys) := fun e h => by subst h; exact e rfl
        generalize zs[i] = u at *
        generalize ys[i] = v at *
        clear hx hy d0 d1 lz ly
        by_cases he : u = v
        · have T := Hid.intro (TS.out he)
          subst he
          obtain ⟨u1, u2⟩ := u
          simp only at cx cx' cy cy'
          clear TS NE
          go_wp2_with fail
          go_quiet (fail)
          go_wp2_with fail
          go_roundw
          case rel => exact ⟨i + 1, by rw [HZ.out]; exact hlt, by go_num, T.out, B1.out nq⟩
          case measure => simp [intOf]; omega
        · have N := Hid.intro (NE.out he)
          obtain ⟨u1, u2⟩ := u
          obtain ⟨v1, v2⟩ := v
          simp only at cx cx' cy cy'
          by_cases h1 : u1 = v1
          · have h2 : ¬ u2 = v2 := fun h2 => he (by rw [h1, h2])
            subst h1
            have t1 : (u2 == v2) = false := by simp [h2]
            clear TS NE he h2
            go_wp2_with fail
            go_quiet (fail)
            clear t1
            go_wp2_with fail
            go_ret
            exact ⟨by rw [decide_eq_false N.out]; rfl, B1.out nq⟩
          · have t1 : (u1 == v1) = false := by simp [h1]
            clear TS NE he h1
            go_wp2_with fail
            go_quiet (fail)
            clear t1
            go_wp2_with fail
            go_ret
            exact ⟨by rw [decide_eq_false N.out]; rfl, B1.out nq⟩
      · have E : Hid (zs = ys) := by
          have e : i = k := by omega
          subst e
          rwa [List.take_of_length_le (by rw [HZ.out]; exact Nat.le_refl _), List.take_of_length_le (by rw [HK.out]; exact Nat.le_refl _)] at d0
        clear d0
        go_wp2_with fail
        go_ret
        exact ⟨by rw [decide_eq_true E.out]; rfl, d1⟩
  · have N : Hid (¬ zs = ys) := fun h => hl (by rw [h])
    have t0 : ((zs.length : Int) == (ys.length : Int)) = false := by simp; omega
    go_enter Try.func11, Try.ntmps11
    go_wp2_with fail
    go_ret
    exact ⟨by rw [decide_eq_false N.out]; rfl, Below.refl _ _⟩

end Go.Proofs.Ytnnecccnoemkpaa
