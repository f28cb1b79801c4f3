/-
  Whether two lists of numbers are one; parts of numbers are told again, and all are counted.
-/
import Derived.Test.YtnnecccnoemkpaaVa
import Derived.Deep.QuietTactic
import Derived.BigQuiet
import Derived.Deep.RegionHeld3
namespace Go.Proofs.Ytnnecccnoemkpaa
open Go.ChangeShapes Go.WideShapes Go.ChangeAt Go.RowKit
open Go.ChangeMaps (open_string shut_string)


def SaRelN (zs ys : List Int) (w : World) (sv : Value) (wr : World) : Prop :=
  ∃ i : Nat, i ≤ zs.length ∧ sv = .int .i64 i ∧ zs.take i = ys.take i ∧ Below w.heap.size w wr
set_option maxRecDepth 100000 in
set_option maxHeartbeats 1000000 in
theorem sameN_any (a b : Option Addr) (n m cap cap' : Nat) (zs ys : List Int) (w : World) (h : RI w a n zs) (h' : RI w b m ys) (hn : n ≤ 100000) (hm : m ≤ 9223372036854775807) :
    Calls Try.prog 14 #[.slice a n cap, .slice b m cap'] w fun e w' => e = .returned (.bool (decide (zs = ys))) ∧ Below w.heap.size w w' := by
  obtain ⟨h1, h2⟩ := h
  obtain ⟨h1', h2'⟩ := h'
  subst h1 h1'
  have HX : Hid (0 < zs.length → ∃ x, a = some x ∧ ∀ i (h : i < zs.length), w.cell? (x.add i) = some (.int .i64 zs[i])) := h2
  have HY : Hid (0 < ys.length → ∃ x, b = some x ∧ ∀ i (h : i < ys.length), w.cell? (x.add i) = some (.int .i64 ys[i])) := h2'
  clear h2 h2'
  by_cases hl : zs.length = ys.length
  · have HL := Hid.intro hl
    obtain ⟨k, hk⟩ : ∃ k, ys.length = k := ⟨_, rfl⟩
    rw [hk] at hl
    rw [hk, hl]
    rw [hl] at hn
    have t0 : ((k : Int) == (k : Int)) = true := by simp
    have HK := Hid.intro hk
    have HZ := Hid.intro hl
    clear hk hl hm
    go_enter Try.func14, Try.ntmps14
    go_wp2_with fail
    go_loopw [5] (fun sv wr => SaRelN zs ys w sv wr) (fun sv _ => k - (intOf sv).toNat)
    case atStart => exact ⟨0, by omega, rfl, rfl, Below.refl _ _⟩
    case round =>
      obtain ⟨i, hi, rfl, d0, d1⟩ := hrel
      have hi' : i ≤ k := by rw [← HZ.out]; exact hi
      clear hi
      by_cases hlt : i < k
      · have lz : i < zs.length := by rw [HZ.out]; exact hlt
        have ly : i < ys.length := by rw [HK.out]; exact hlt
        obtain ⟨x, rfl, hx⟩ := HX.out (by omega)
        obtain ⟨y, rfl, hy⟩ := HY.out (by omega)
        have cx := hx i lz
        have cy := hy i ly
        rw [← d1.cell (World.block_lt_of_cell? _ _ cx)] at cx
        rw [← d1.cell (World.block_lt_of_cell? _ _ cy)] at cy
        have B1 : Hid (∀ k, Below w.heap.size w (wr.drewN k)) := fun k => below_drewN d1 k
        have TS : Hid (zs[i] = ys[i] → zs.take (i + 1) = ys.take (i + 1)) := fun e => by rw [take_snoc zs i lz, take_snoc ys i ly, d0, e]
        have NE : Hid (¬ zs[i] = ys[i] → ¬ zs = ys) := fun e h => by subst h; exact e rfl
        generalize zs[i] = u at *
        generalize ys[i] = v at *
        clear hx hy d0 d1 lz ly
        by_cases he : u = v
        · have T := Hid.intro (TS.out he)
          have t1 : (u == v) = true := by simp [he]
          have t2 : (u != v) = false := by simp [he]
          clear TS NE he
          go_wp2_with fail
          go_quiet (fail)
          clear t1 t2
          go_wp2_with fail
          go_roundw
          case rel => exact ⟨i + 1, by rw [HZ.out]; exact hlt, by go_num, T.out, B1.out nq⟩
          case measure => simp [intOf]; omega
        · have N := Hid.intro (NE.out he)
          have t1 : (u == v) = false := by simp [he]
          have t2 : (u != v) = true := by simp [he]
          clear TS NE he
          go_wp2_with fail
          go_quiet (fail)
          clear t1 t2
          go_wp2_with fail
          go_ret
          exact ⟨by rw [decide_eq_false N.out]; rfl, B1.out nq⟩
      · have E : Hid (zs = ys) := by
          have e : i = k := by omega
          subst e
          rwa [List.take_of_length_le (by rw [HZ.out]; exact Nat.le_refl _), List.take_of_length_le (by rw [HK.out]; exact Nat.le_refl _)] at d0
        clear d0
        go_wp2_with fail
        go_ret
        exact ⟨by rw [decide_eq_true E.out]; rfl, d1⟩
  · have N : Hid (¬ zs = ys) := fun h => hl (by rw [h])
    have t0 : ((zs.length : Int) == (ys.length : Int)) = false := by simp; omega
    go_enter Try.func14, Try.ntmps14
    go_wp2_with fail
    go_ret
    exact ⟨by rw [decide_eq_false N.out]; rfl, Below.refl _ _⟩

def SaRelI (zs ys : List Int) (w : World) (sv : Value) (wr : World) : Prop :=
  ∃ i : Nat, i ≤ zs.length ∧ sv = .int .i64 i ∧ zs.take i = ys.take i ∧ Below w.heap.size w wr
set_option maxRecDepth 100000 in
set_option maxHeartbeats 1000000 in
theorem sameI_any (a b : Option Addr) (n m cap cap' : Nat) (zs ys : List Int) (w : World) (h : RI w a n zs) (h' : RI w b m ys) (hn : n ≤ 100000) (hm : m ≤ 9223372036854775807) :
    Calls Try.prog 15 #[.slice a n cap, .slice b m cap'] w fun e w' => e = .returned (.bool (decide (zs = ys))) ∧ Below w.heap.size w w' := by
  obtain ⟨h1, h2⟩ := h
  obtain ⟨h1', h2'⟩ := h'
  subst h1 h1'
  have HX : Hid (0 < zs.length → ∃ x, a = some x ∧ ∀ i (h : i < zs.length), w.cell? (x.add i) = some (.int .i64 zs[i])) := h2
  have HY : Hid (0 < ys.length → ∃ x, b = some x ∧ ∀ i (h : i < ys.length), w.cell? (x.add i) = some (.int .i64 ys[i])) := h2'
  clear h2 h2'
  by_cases hl : zs.length = ys.length
  · have HL := Hid.intro hl
    obtain ⟨k, hk⟩ : ∃ k, ys.length = k := ⟨_, rfl⟩
    rw [hk] at hl
    rw [hk, hl]
    rw [hl] at hn
    have t0 : ((k : Int) == (k : Int)) = true := by simp
    have HK := Hid.intro hk
    have HZ := Hid.intro hl
    clear hk hl hm
    go_enter Try.func15, Try.ntmps15
    go_wp2_with fail
    go_loopw [5] (fun sv wr => SaRelI zs ys w sv wr) (fun sv _ => k - (intOf sv).toNat)
    case atStart => exact ⟨0, by omega, rfl, rfl, Below.refl _ _⟩
    case round =>
      obtain ⟨i, hi, rfl, d0, d1⟩ := hrel
      have hi' : i ≤ k := by rw [← HZ.out]; exact hi
      clear hi
      by_cases hlt : i < k
      · have lz : i < zs.length := by rw [HZ.out]; exact hlt
        have ly : i < ys.length := by rw [HK.out]; exact hlt
        obtain ⟨x, rfl, hx⟩ := HX.out (by omega)
        obtain ⟨y, rfl, hy⟩ := HY.out (by omega)
        have cx := hx i lz
        have cy := hy i ly
        rw [← d1.cell (World.block_lt_of_cell? _ _ cx)] at cx
        rw [← d1.cell (World.block_lt_of_cell? _ _ cy)] at cy
        have B1 : Hid (∀ k, Below w.heap.size w (wr.drewN k)) := fun k => below_drewN d1 k
        have TS : Hid (zs[i] = ys[i] → zs.take (i + 1) = ys.take (i + 1)) := fun e => by rw [take_snoc zs i lz, take_snoc ys i ly, d0, e]
        have NE : Hid (¬ zs[i] = ys[i] → ¬ zs = ys) := fun e h => by subst h; exact e rfl
        generalize zs[i] = u at *
        generalize ys[i] = v at *
        clear hx hy d0 d1 lz ly
        by_cases he : u = v
        · have T := Hid.intro (TS.out he)
          have t1 : (u == v) = true := by simp [he]
          have t2 : (u != v) = false := by simp [he]
          clear TS NE he
          go_wp2_with fail
          go_quiet (fail)
          clear t1 t2
          go_wp2_with fail
          go_roundw
          case rel => exact ⟨i + 1, by rw [HZ.out]; exact hlt, by go_num, T.out, B1.out nq⟩
          case measure => simp [intOf]; omega
        · have N := Hid.intro (NE.out he)
          have t1 : (u == v) = false := by simp [he]
          have t2 : (u != v) = true := by simp [he]
          clear TS NE he
          go_wp2_with fail
          go_quiet (fail)
          clear t1 t2
          go_wp2_with fail
          go_ret
          exact ⟨by rw [decide_eq_false N.out]; rfl, B1.out nq⟩
      · have E : Hid (zs = ys) := by
          have e : i = k := by omega
          subst e
          rwa [List.take_of_length_le (by rw [HZ.out]; exact Nat.le_refl _), List.take_of_length_le (by rw [HK.out]; exact Nat.le_refl _)] at d0
        clear d0
        go_wp2_with fail
        go_ret
        exact ⟨by rw [decide_eq_true E.out]; rfl, d1⟩
  · have N : Hid (¬ zs = ys) := fun h => hl (by rw [h])
    have t0 : ((zs.length : Int) == (ys.length : Int)) = false := by simp; omega
    go_enter Try.func15, Try.ntmps15
    go_wp2_with fail
    go_ret
    exact ⟨by rw [decide_eq_false N.out]; rfl, Below.refl _ _⟩
theorem spl_fp (zs : List Int) (h : FI zs) : FP (zs.map spl) := by
  intro p hp
  obtain ⟨z, hz, rfl⟩ := List.mem_map.1 hp
  obtain ⟨a, b⟩ := zmap_bd z (h z hz).1 (h z hz).2
  obtain ⟨c, d⟩ := blen_bd _ a b
  obtain ⟨e, f⟩ := srest_bd _ a b
  exact ⟨⟨by unfold spl; omega, by unfold spl; omega⟩, e, f⟩
theorem spl_class (zs : List Int) (h : FI zs) : ∀ p ∈ zs.map spl, 0 ≤ p.1 ∧ p.1 < 65 := by
  intro p hp
  obtain ⟨z, hz, rfl⟩ := List.mem_map.1 hp
  obtain ⟨a, b⟩ := zmap_bd z (h z hz).1 (h z hz).2
  obtain ⟨c, d⟩ := blen_bd _ a b
  unfold spl
  exact ⟨c, by simp only; omega⟩
theorem spl_all (zs : List Int) (h : FI zs) : (zs.map spl).all jk = true := by
  rw [List.all_eq_true]
  intro p hp
  obtain ⟨z, hz, rfl⟩ := List.mem_map.1 hp
  obtain ⟨a, b⟩ := zmap_bd z (h z hz).1 (h z hz).2
  exact jok_split _ a b
theorem spl_vals (zs : List Int) (h : FI zs) : vals (zs.map spl) = zs := by
  rw [vals_ok _ (spl_all zs h), List.map_map]
  conv => rhs; rw [← List.map_id zs]
  apply List.map_congr_left
  intro z hz
  exact jval_split z (h z hz).1 (h z hz).2
/-- How many parts are of the first i classes. -/
def sm (ps : List (Int × Int)) : Nat → Nat
  | 0 => 0
  | i + 1 => sm ps i + cl ps i
theorem sm_cons (p : Int × Int) (ps : List (Int × Int)) (i : Nat) : sm (p :: ps) i = sm ps i + (if 0 ≤ p.1 ∧ p.1 < (i : Int) then 1 else 0) := by
  induction i with
  | zero => simp [sm]
  | succ i ih =>
    have hc : cl (p :: ps) i = cl ps i + (if p.1 = (i : Int) then 1 else 0) := by unfold cl; rw [List.countP_cons]; simp
    rw [sm, sm, ih, hc]
    by_cases h1 : p.1 = (i : Int)
    · rw [if_pos h1, if_neg (by omega), if_pos (by omega)]; omega
    · rw [if_neg h1]
      by_cases h2 : 0 ≤ p.1 ∧ p.1 < (i : Int)
      · rw [if_pos h2, if_pos (by omega)]; omega
      · rw [if_neg h2, if_neg (by omega)]; omega
theorem sm_all (ps : List (Int × Int)) (h : ∀ p ∈ ps, 0 ≤ p.1 ∧ p.1 < 65) : sm ps 65 = ps.length := by
  induction ps with
  | nil => decide
  | cons p ps ih =>
    rw [sm_cons, ih (fun q hq => h q (List.mem_cons_of_mem _ hq)), if_pos (by have := h p List.mem_cons_self; exact this)]; rfl
theorem sm_le (ps : List (Int × Int)) (i : Nat) : sm ps i ≤ ps.length := by
  induction ps with
  | nil =>
    have : sm [] i = 0 := by
      induction i with
      | zero => rfl
      | succ i ih => rw [sm, ih]; rfl
    rw [this]; exact Nat.zero_le _
  | cons p ps ih =>
    rw [sm_cons, List.length_cons]; split <;> omega
end Go.Proofs.Ytnnecccnoemkpaa
