/-
  Whether two rows of cells are one: of the same cells.
-/
import Derived.Test.YteceiinehcjdjaaSp
import Derived.Test.YteceiinehcjdjaaMw
import Derived.Deep.QuietTactic
import Derived.Deep.RegionWith
import Derived.OwnWalk
import Derived.BigQuiet
namespace Go.Proofs.Yteceiinehcjdjaa
open Go.ChangeShapes Go.WideShapes Go.ChangeAt Go.RowKit
open Go.ChangeMaps (open_string shut_string)

/-- Cells of a table that can be read from a slice's address on. -/
def RC (W : World) (a : Option Addr) (n : Nat) (l : List Tri) : Prop :=
  l.length = n ∧ (0 < n → ∃ b, a = some ⟨b, 0, none⟩ ∧ b < W.heap.size ∧ ∀ i, i < n → W.cell? ⟨b, i * 3, none⟩ = some (.int .i64 ((l.getD i (0, 0, 0)).1 : Int)) ∧ W.cell? ⟨b, i * 3 + 1, none⟩ = some (.int .i64 ((l.getD i (0, 0, 0)).2.1 : Int)) ∧ W.cell? ⟨b, i * 3 + 2, none⟩ = some (.int .i64 ((l.getD i (0, 0, 0)).2.2 : Int)))
theorem own_rc {W : World} {base : Nat} {v : Value} {n : Nat} {l : List Tri} (h : W.ownsRow base 45 3 v n (cvs l)) : ∃ a cap, v = .slice a n cap ∧ RC W a n l := by
  have hl : l.length = n := by have := h.1; rw [cvs_len] at this; omega
  rcases Nat.eq_zero_or_pos n with h0 | h0
  · rcases h.2 with ⟨hv, hn⟩ | ⟨g, cap, cur, hv, _⟩
    · exact ⟨none, 0, by rw [hv, hn], hl, fun h => by omega⟩
    · exact ⟨_, cap, hv, hl, fun h => by omega⟩
  · obtain ⟨b, cap, rfl⟩ := own_slice h h0
    exact ⟨_, cap, rfl, hl, fun _ => ⟨b, rfl, (h.lt b rfl).2, fun i hi => cv_cells h i hi⟩⟩
theorem rc_later {W W' : World} {a : Option Addr} {n : Nat} {l : List Tri} (h : RC W a n l) (g : Below W.heap.size W W') : RC W' a n l :=
  ⟨h.1, fun h0 => by
    obtain ⟨b, hb, lt, hc⟩ := h.2 h0
    have k := bcell g
    exact ⟨b, hb, Nat.lt_of_lt_of_le lt g.size, fun i hi => by rw [k.1 _ _ lt, k.1 _ _ lt, k.1 _ _ lt]; exact hc i hi⟩⟩
def ScRel (n : Nat) (w : World) (sv : Value) (wr : World) : Prop := ∃ i : Nat, i ≤ n ∧ sv = .int .i64 i ∧ Below w.heap.size w wr
set_option maxRecDepth 100000 in
set_option maxHeartbeats 1000000 in
theorem samec_any (a b : Option Addr) (n cap cap' : Nat) (l : List Tri) (w : World) (h : RC w a n l) (h' : RC w b n l) (hn : n ≤ 100000) :
    Calls Try.prog 15 #[.slice a n cap, .slice b n cap'] w fun e w' => e = .returned (.bool true) ∧ Below w.heap.size w w' := by
  have H := Hid.intro h
  have H' := Hid.intro h'
  have tn : ((n : Int) != (n : Int)) = false := by simp
  clear h h'
  go_enter Try.func15, Try.ntmps15
  go_wp2_with fail
  go_loopw [5] (fun sv wr => ScRel n w sv wr) (fun sv _ => n - (intOf sv).toNat)
  case atStart => exact ⟨0, by omega, rfl, Below.refl _ _⟩
  case round =>
    obtain ⟨i, hi, rfl, d1⟩ := hrel
    by_cases hlt : i < n
    · obtain ⟨x, rfl, -, hx⟩ := (rc_later H.out d1).2 (by omega)
      obtain ⟨y, rfl, -, hy⟩ := (rc_later H'.out d1).2 (by omega)
      obtain ⟨c1, c2, c3⟩ := hx i hlt
      obtain ⟨c4, c5, c6⟩ := hy i hlt
      have hii : (i : Int) < (n : Int) := by omega
      have hi0 : (0 : Int) ≤ (i : Int) := by omega
      have B1 : Hid (∀ k, Below w.heap.size w (wr.drewN k)) := fun k => below_drewN d1 k
      generalize (l.getD i (0, 0, 0)).1 = p at *
      generalize (l.getD i (0, 0, 0)).2.1 = q at *
      generalize (l.getD i (0, 0, 0)).2.2 = r at *
      clear d1 hx hy
      go_wp2_with fail
      go_quiet (fail)
      go_wp2_with fail
      go_roundw
      case rel => exact ⟨i + 1, by omega, by go_num, B1.out nq⟩
      case measure => simp [intOf]; omega
    · obtain rfl : i = n := by omega
      go_wp2_with fail
      go_ret
      exact ⟨rfl, d1⟩
end Go.Proofs.Yteceiinehcjdjaa
