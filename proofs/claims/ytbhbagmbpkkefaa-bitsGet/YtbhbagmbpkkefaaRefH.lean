/-
  The reference's Rest, for every reader.
-/
import Derived.Test.YtbhbagmbpkkefaaRefG
import Derived.Deep.QuietTactic
import Derived.BigQuiet
namespace Go.Proofs.Ytbhbagmbpkkefaa
open Go.ChangeShapes Go.WideShapes Go.ChangeAt Go.RowKit
open Go.ChangeMaps (open_string shut_string)

theorem chg_drewN (W : World) (k : Nat) : Chg (fun _ => False) W (W.drewN k) := ⟨rfl, rfl, rfl, Nat.le_refl _, fun _ _ _ => rfl⟩
theorem number_q {v : Value} (X a n : Nat) (W : World) (k : Nat) (hn : n ≤ 64) (h : Bts W v X a n) :
    Calls Try.prog 31 #[v] (W.drewN k) fun e W' => e = .returned (.int .u64 (got X a n : Nat)) ∧ W' = W.drewN k := by
  refine (number_any v X a n (W.drewN k) hn (bts_kept h (chg_drewN W k))).mono ?_
  rintro e w1 ⟨rfl, rfl⟩
  exact ⟨rfl, rfl⟩

set_option maxRecDepth 100000 in
theorem rrest_far (A : Nat) (v : Value) (X L a : Nat) (W : World) (h : Wk W A v X L a) (_hL : L ≤ 100000) (ha : a + 8 ≤ L) :
    Calls Try.prog 22 #[ptr A] W fun e W' => e = .returned (.bool false) ∧ Chg (fun _ => False) W W' := by
  obtain ⟨h1, h2, h3⟩ := h
  obtain ⟨av, cap, rfl, hcap, hcm, hbts⟩ := cut_bits h2
  have c0 : W.cell? ⟨A, 0, none⟩ = some (.slice av L cap) := by rw [blk_cell h1]; rfl
  have c1 : W.cell? ⟨A, 1, none⟩ = some (.int .i64 a) := by rw [blk_cell h1]; rfl
  have w1 : IntKind.i64.wrap ((L : Int) - a) = (L : Int) - a := by rw [IntKind.wrap_i64]; omega
  have hd : decide ((L : Int) - a < 8) = false := decide_eq_false (by omega)
  clear hbts h2 h3
  unfold ptr
  go_enter Try.func22, Try.ntmps22
  go_wp2
  go_region
  go_wp2
  go_ret
  exact ⟨rfl, chg_refl _ _⟩

set_option maxRecDepth 100000 in
theorem rrest_near (A : Nat) (v : Value) (X L a : Nat) (W : World) (h : Wk W A v X L a) (hL : L ≤ 100000) (ha : a ≤ L) (ha8 : L < a + 8) :
    Calls Try.prog 22 #[ptr A] W fun e W' => e = .returned (.bool (decide (got X a (L - a) = 0))) ∧ Chg (fun _ => False) W W' := by
  obtain ⟨h1, h2, h3⟩ := h
  obtain ⟨av, cap, rfl, hcap, hcm, hbts⟩ := cut_bits h2
  have hbt := hbts a (L - a) (by omega)
  have c0 : W.cell? ⟨A, 0, none⟩ = some (.slice av L cap) := by rw [blk_cell h1]; rfl
  have c1 : W.cell? ⟨A, 1, none⟩ = some (.int .i64 a) := by rw [blk_cell h1]; rfl
  have w1 : IntKind.i64.wrap ((L : Int) - a) = (L : Int) - a := by rw [IntKind.wrap_i64]; omega
  have hd : decide ((L : Int) - a < 8) = true := decide_eq_true (by omega)
  have s0 : (0 : Int) ≤ a := by omega
  have s1 : (a : Int) ≤ L := by omega
  clear hbts h2 h3
  by_cases hca : cap = a
  · have hLa : a = L := by omega
    subst hLa
    subst hca
    simp only [if_true, Nat.sub_self] at hbt ⊢
    have NM := fun (k : Nat) => number_q X cap 0 W k (by omega) hbt
    clear hbt
    rw [← nat_beq]
    generalize got X cap 0 = z at *
    unfold ptr
    go_enter Try.func22, Try.ntmps22
    go_wp2
    go_quiet ((go_at_call 31; refine Calls.quiet_of_same (NM _)))
    go_wp2
    go_ret
    exact ⟨rfl, chg_drewN _ _⟩
  · simp only [hca, if_false] at hbt
    have NM := fun (k : Nat) => number_q X a (L - a) W k (by omega) hbt
    clear hbt
    rw [← nat_beq]
    generalize got X a (L - a) = z at *
    unfold ptr
    go_enter Try.func22, Try.ntmps22
    go_wp2
    go_quiet ((go_at_call 31; refine Calls.quiet_of_same (NM _)))
    go_wp2
    go_ret
    exact ⟨rfl, chg_drewN _ _⟩

theorem rrest_any (A : Nat) (v : Value) (s : ByteArray) (a : Nat) (W : World) (h : Wk W A v (le s.data.toList) (8 * s.size) a) (hs : s.size ≤ 10000) (ha : a ≤ 8 * s.size) :
    Calls Try.prog 22 #[ptr A] W fun e W' => e = .returned (.bool (rs s a)) ∧ Chg (fun _ => False) W W' := by
  by_cases h8 : 8 * s.size < a + 8
  · refine (rrest_near A v _ _ a W h (by omega) ha h8).mono ?_
    rintro e w1 ⟨rfl, k⟩
    exact ⟨by rw [rs, decide_eq_true h8, Bool.true_and], k⟩
  · refine (rrest_far A v _ _ a W h (by omega) (by omega)).mono ?_
    rintro e w1 ⟨rfl, k⟩
    exact ⟨by rw [rs, decide_eq_false h8, Bool.false_and], k⟩
end Go.Proofs.Ytbhbagmbpkkefaa
