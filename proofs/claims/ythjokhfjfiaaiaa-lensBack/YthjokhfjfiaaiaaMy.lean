/-
  Whether lengths may be asked for; lengths put at their classes' places.
-/
import Derived.Test.YthjokhfjfiaaiaaRk
import Derived.Test.YthjokhfjfiaaiaaSa
import Derived.Laws.BitsAllLaws
import Derived.Laws.IdiomCopy
namespace Go.Proofs.Ythjokhfjfiaaiaa
open Go.ChangeShapes Go.WideShapes Go.ChangeAt Go.RowKit
open Go.ChangeMaps (open_string shut_string)

def badz (z : Int) : Bool := decide (z < 0) || decide (16777216 < z)
def badl (z : Int) : Bool := decide (z < 0) || decide (15 < z)
theorem wrong_any (z : Int) (w : World) : Calls Try.prog 33 #[.int .i64 z] w fun e w' => e = .returned (.bool (badl z)) ∧ w' = w := by
  by_cases h : z < 0
  · have B : Hid (badl z = true) := by show _ = _; simp [badl, h]
    go_enter Try.func33, Try.ntmps33
    go_wp2
    go_ret
    exact ⟨ret_bool B.out.symm, rfl⟩
  · have B : Hid (badl z = decide (15 < z)) := by show _ = _; simp [badl, h]
    go_enter Try.func33, Try.ntmps33
    go_wp2
    go_ret
    exact ⟨ret_bool B.out.symm, rfl⟩
def IxRel (f : List Int) (w : World) (sv : Value) (wr : World) : Prop :=
  ∃ i : Nat, i ≤ f.length ∧ sv = .int .i64 i ∧ (∀ z ∈ f.take i, badl z = false) ∧ wr = w
set_option maxRecDepth 100000 in
set_option maxHeartbeats 1000000 in
theorem index_any (a : Option Addr) (n cap : Nat) (f : List Int) (w : World) (h : RI w a n f) (hn : n ≤ 100000) :
    Calls Try.prog 44 #[.slice a n cap, .func (.func 33) #[] #[]] w fun e w' => ∃ k : Int, e = .returned (.int .i64 k) ∧ (decide (0 ≤ k) = f.any badl) ∧ w' = w := by
  obtain ⟨h1, h2⟩ := h
  subst h1
  have HX := Hid.intro h2
  clear h2
  go_enter Try.func44, Try.ntmps44
  go_wp2_with fail
  go_loopw [8] (fun sv wr => IxRel f w sv wr) (fun sv _ => f.length - (intOf sv).toNat)
  case atStart => exact ⟨0, by omega, rfl, by simp, rfl⟩
  case round =>
    obtain ⟨i, hi, rfl, d1, rfl⟩ := hrel
    by_cases hlt : i < f.length
    · obtain ⟨x, rfl, hx⟩ := HX.out (by omega)
      have cx := hx i hlt
      have WR := wrong_any f[i] wr
      have hm := List.getElem_mem hlt
      have ts := take_snoc f i hlt
      by_cases hb : badl f[i] = true
      · have A : Hid (f.any badl = true) := List.any_eq_true.2 ⟨_, hm, hb⟩
        rw [hb] at WR
        clear d1 hx hm ts hb
        generalize f[i] = z at *
        go_wp2_with fail
        with_reducible refine WR.mono ?_
        rintro e w1 ⟨rfl, rfl⟩
        clear WR
        go_wp2_with fail
        go_ret
        exact ⟨_, rfl, by rw [A.out]; simp, rfl⟩
      · have hb' : badl f[i] = false := by simpa using hb
        have T2 : Hid (∀ z ∈ f.take (i + 1), badl z = false) := fun z hz => by
          rw [ts] at hz
          rcases List.mem_append.1 hz with h | h
          · exact d1 z h
          · rw [List.mem_singleton.1 h]; exact hb'
        rw [hb'] at WR
        clear d1 hx hm ts hb hb'
        generalize f[i] = z at *
        go_wp2_with fail
        with_reducible refine WR.mono ?_
        rintro e w1 ⟨rfl, rfl⟩
        clear WR
        go_wp2_with fail
        go_roundw
        case rel => exact ⟨i + 1, by omega, by go_num, T2.out, rfl⟩
        case measure => simp [intOf]; omega
    · have A : Hid (f.any badl = false) := by
        show _ = _
        rw [List.any_eq_false]
        intro z hz
        have := d1 z (by rw [List.take_of_length_le (by omega)]; exact hz)
        simp [this]
      clear d1
      go_wp2_with fail
      go_ret
      exact ⟨_, rfl, by rw [A.out]; decide, rfl⟩
theorem contains_any (a : Option Addr) (n cap : Nat) (f : List Int) (w : World) (h : RI w a n f) (hn : n ≤ 100000) :
    Calls Try.prog 34 #[.slice a n cap, .func (.func 33) #[] #[]] w fun e w' => e = .returned (.bool (f.any badl)) ∧ w' = w := by
  have IX := index_any a n cap f w h hn
  clear h
  go_enter Try.func34, Try.ntmps34
  go_wp2_with fail
  with_reducible refine IX.mono ?_
  rintro e w1 ⟨k, rfl, k1, rfl⟩
  have K1 := Hid.intro k1
  clear IX k1
  go_wp2_with fail
  go_ret
  exact ⟨ret_bool K1.out, rfl⟩
def mayB (f : List Int) (n : Nat) (limit : Int) : Bool := decide (n = 65) && !(f.any badz) && decide (7 ≤ limit) && decide (limit ≤ 15)
theorem mayB_facts {f : List Int} {n : Nat} {limit : Int} (h : mayB f n limit = true) : n = 65 ∧ (∀ z ∈ f, 0 ≤ z ∧ z ≤ 16777216) ∧ 7 ≤ limit ∧ limit ≤ 15 := by
  unfold mayB at h
  simp only [Bool.and_eq_true, decide_eq_true_eq, Bool.not_eq_true'] at h
  obtain ⟨⟨⟨h1, h2⟩, h3⟩, h4⟩ := h
  refine ⟨h1, fun z hz => ?_, h3, h4⟩
  have := List.any_eq_false.1 h2 z hz
  unfold badz at this
  simp at this
  omega
/-- The lengths, each at its class's place. -/
def put (o r : List Nat) : List Nat := (o.zip r).foldl (fun l p => l.set p.1 p.2) (List.replicate 65 0)
theorem put_step (o r : List Nat) (i : Nat) (ho : i < o.length) (hr : i < r.length) : put (o.take (i + 1)) (r.take (i + 1)) = (put (o.take i) (r.take i)).set o[i] r[i] := by
  unfold put
  rw [List.take_succ_eq_append_getElem ho, List.take_succ_eq_append_getElem hr, List.zip_append (by simp; omega), List.foldl_append]; rfl
theorem set_fold_len (l : List Nat) : ∀ ps : List (Nat × Nat), (ps.foldl (fun l p => l.set p.1 p.2) l).length = l.length := fun ps => by
  induction ps generalizing l with
  | nil => rfl
  | cons p ps ih => rw [List.foldl_cons, ih, List.length_set]
theorem put_len (o r : List Nat) : (put o r).length = 65 := by unfold put; rw [set_fold_len]; simp
end Go.Proofs.Ythjokhfjfiaaiaa
