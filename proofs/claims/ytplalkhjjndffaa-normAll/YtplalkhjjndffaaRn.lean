/-
  How many noughts a list begins with.
-/
import Derived.Test.YtplalkhjjndffaaNd
namespace Go.Proofs.Ytplalkhjjndffaa
open Go.ChangeShapes Go.WideShapes Go.ChangeAt Go.RowKit
open Go.ChangeMaps (open_string shut_string)

/-! ### how many noughts stand first -/
def zI : List Int → Nat
  | [] => 0
  | x :: l => if x = 0 then zI l + 1 else 0
theorem zI_le (l : List Int) : zI l ≤ l.length := by
  induction l with
  | nil => simp [zI]
  | cons x l ih => simp only [zI, List.length_cons]; split <;> omega
theorem zI_lt {l : List Int} {i : Nat} (h : i < zI l) : fr l i = 0 := by
  induction l generalizing i with
  | nil => simp [zI] at h
  | cons x l ih =>
    simp only [zI] at h
    split at h
    · rename_i hx
      cases i with
      | zero => simpa [fr] using hx
      | succ i => have := ih (i := i) (by omega); simpa [fr] using this
    · omega
theorem zI_at {l : List Int} (h : zI l < l.length) : fr l (zI l) ≠ 0 := by
  induction l with
  | nil => simp at h
  | cons x l ih =>
    simp only [zI] at h ⊢
    split at h
    · rename_i hx
      rw [if_pos hx]
      have := ih (by simpa using h)
      simpa [fr] using this
    · rename_i hx
      rw [if_neg hx]
      simpa [fr] using hx
/-- From a place on, so many noughts so far. -/
theorem zI_of {l : List Int} {k : Nat} (hk : k ≤ l.length) (h0 : ∀ i, i < k → fr l i = 0) (h1 : k < l.length → fr l k ≠ 0) : zI l = k := by
  rcases Nat.lt_trichotomy (zI l) k with h | h | h
  · exact absurd (h0 _ h) (zI_at (by omega))
  · exact h
  · exact absurd (zI_lt h) (h1 (by have := zI_le l; omega))
theorem ri_fr {W : World} {a : Option Addr} {n : Nat} {f : List Int} (h : RI W a n f) (i : Nat) (hi : i < n) : ∃ x, a = some x ∧ W.cell? (x.add i) = some (.int .i64 (fr f i)) := by
  obtain ⟨x, hx, hc⟩ := h.2 (by omega)
  have hl := h.1
  exact ⟨x, hx, by rw [hc i (by omega), fr_at f i (by omega)]⟩
def RwRel (f : List Int) (n : Nat) (w : World) (nv : Value) (wr : World) : Prop :=
  ∃ i : Nat, i ≤ n ∧ nv = .int .i64 i ∧ (∀ j, j < i → fr f j = 0) ∧ wr = w
set_option maxRecDepth 100000 in
set_option maxHeartbeats 1000000 in
theorem row_any (a : Option Addr) (n cap : Nat) (f : List Int) (w : World) (h : RI w a n f) (hn : n ≤ 100000) :
    Calls Try.prog 34 #[.slice a n cap] w fun e w' => e = .returned (.int .i64 (zI f : Nat)) ∧ w' = w := by
  have hl := h.1
  have H := Hid.intro h
  have Z := Hid.intro (fun k hk h0 h1 => zI_of (l := f) (k := k) hk h0 h1)
  clear h
  go_enter Try.func34, Try.ntmps34
  go_wp2_with fail
  go_loopw [3] (fun nv wr => RwRel f n w nv wr) (fun nv _ => n - (intOf nv).toNat)
  case atStart => exact ⟨0, Nat.zero_le _, rfl, fun j hj => by omega, rfl⟩
  case round =>
    obtain ⟨i, hi, rfl, d0, rfl⟩ := hrel
    by_cases hlt : i < n
    · obtain ⟨x, rfl, cx⟩ := ri_fr H.out i hlt
      by_cases h0 : fr f i = 0
      · have D := Hid.intro (fun j (hj : j < i + 1) => if e : j = i then (by rw [e]; exact h0 : fr f j = 0) else d0 j (by omega))
        rw [h0] at cx
        clear d0 h0
        go_wp2_with fail
        go_roundw
        case rel => exact ⟨i + 1, by omega, by go_num, D.out, rfl⟩
        case measure => simp [intOf]; omega
      · have R := Hid.intro (Z.out i (by omega) d0 (fun _ => h0))
        have t : (fr f i == 0) = false := by simpa using h0
        clear d0
        generalize fr f i = y at *
        go_wp2_with fail
        go_ret
        exact ⟨ret_int (by rw [R.out]), rfl⟩
    · have R := Hid.intro (Z.out i (by omega) d0 (fun h => absurd h (by omega)))
      clear d0
      go_wp2_with fail
      go_ret
      exact ⟨ret_int (by rw [R.out]), rfl⟩
end Go.Proofs.Ytplalkhjjndffaa
