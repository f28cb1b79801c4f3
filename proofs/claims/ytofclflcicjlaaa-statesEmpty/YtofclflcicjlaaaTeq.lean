/-
  All steps of a reader by states, and its end.
-/
import Derived.Test.YtofclflcicjlaaaGfq
import Derived.WalkKit
import Derived.ProofKit
import Derived.OpenShut
import Derived.Deep.QuietTactic
import Derived.Deep.RegionWith
import Derived.Deep.RegionHeld3
import Derived.OwnWalk
import Derived.ChangeOld
import Derived.Below
import Derived.BigQuiet
namespace Go.Proofs.Ytofclflcicjlaaa
open Go.ChangeShapes Go.WideShapes Go.ChangeAt Go.RowKit
open Go.ChangeMaps (open_string shut_string)
set_option linter.unusedVariables false
set_option maxHeartbeats 2000000 in
theorem ended_any (W0 W : World) (A T R : Nat) (cv : Value) (st : Nat) (t q : ByteArray) (a r : Nat) (pv : Value) (acc : List (Int × Int)) (h : Rs W0 W A T R cv st t q a r pv acc) (hq : q.size ≤ 20000) (hr : r ≤ 8 * q.size) :
    Calls Try.prog 32 #[.pointer (some ⟨A, 0, none⟩)] W fun e W' => e = .returned (.bool (decide (st = 0 ∧ a = 0 ∧ 8 * q.size - r < 8 ∧ got (le q.data.toList) r (8 * q.size - r) = 0))) ∧ Chg (fun _ => False) W W' := by
  obtain ⟨hA, hT, hR, -⟩ := h
  have a1 : W.cell? ⟨A, 1, none⟩ = some (.int .i64 (st : Int)) := by rw [blk_cell hA]; rfl
  have a2 : W.cell? ⟨A, 2, none⟩ = some (ptr T) := by rw [blk_cell hA]; rfl
  have a3 : W.cell? ⟨A, 3, none⟩ = some (ptr R) := by rw [blk_cell hA]; rfl
  unfold ptr at a2 a3
  have LF := left_anyb T t a W hT
  have RS := rest_any R q r W hR (by omega) hr
  unfold ptr at LF RS
  have E : Hid (rs q r = decide (8 * q.size - r < 8 ∧ got (le q.data.toList) r (8 * q.size - r) = 0)) := by
    show _ = _
    unfold rs
    rw [← Bool.decide_and]
    by_cases hx : 8 * q.size < r + 8
    · rw [decide_eq_decide]; constructor
      · rintro ⟨-, h2⟩; exact ⟨by omega, h2⟩
      · rintro ⟨-, h2⟩; exact ⟨hx, h2⟩
    · rw [decide_eq_decide]; constructor
      · rintro ⟨h1, -⟩; exact absurd h1 hx
      · rintro ⟨h1, -⟩; exact absurd h1 (by omega)
  generalize rs q r = bb at *
  clear hA hT hR
  by_cases h0 : st = 0
  · subst h0
    by_cases h1 : a = 0
    · subst h1
      go_enter Try.func32, Try.ntmps32
      go_wp2_with fail
      with_reducible refine LF.mono ?_
      rintro e w1 ⟨rfl, rfl⟩
      clear LF
      go_wp2_with fail
      with_reducible refine RS.mono ?_
      rintro e w1 ⟨rfl, hc⟩
      have HC := Hid.intro hc
      clear RS hc
      go_wp2_with fail
      go_returns
      refine ⟨?_, HC.out⟩
      rw [E.out]; simp
    · have h1' : ((a : Int) == 0) = false := by simp; omega
      clear RS
      go_enter Try.func32, Try.ntmps32
      go_wp2_with fail
      with_reducible refine LF.mono ?_
      rintro e w1 ⟨rfl, rfl⟩
      clear LF
      go_wp2_with fail
      go_returns
      refine ⟨?_, chg_refl _ _⟩
      rw [decide_eq_false (fun h => h1 h.2.1)]
      rfl
  · have h0' : ((st : Int) == 0) = false := by simp; omega
    clear RS LF
    go_enter Try.func32, Try.ntmps32
    go_wp2_with fail
    go_returns
    refine ⟨?_, chg_refl _ _⟩
    rw [decide_eq_false (fun h => h0 h.1)]
    rfl
def toIP (p : Nat × Nat) : Int × Int := ((p.1 : Int), (p.2 : Int))
def TgRel (W0 : World) (A T R : Nat) (cv : Value) (k : Nat) (L cs : List Nat) (t q : ByteArray) (n : Nat) (G : Option (List (Nat × Nat) × Nat × Nat × Nat)) (iv : Value) (wr : World) : Prop :=
  ∃ (i st a r : Nat) (pv : Value) (acc : List (Nat × Nat)), i ≤ n ∧ iv = .int .i64 i ∧ Rs W0 wr A T R cv st t q a r pv (acc.map toIP) ∧ acc.length = i ∧ st < 2 ^ k ∧ a ≤ 8 * t.size ∧ r ≤ 8 * q.size ∧
    gS k L cs (le t.data.toList) (le q.data.toList) (8 * q.size) (n - i) st a r acc = G
def TgPost (W0 : World) (A T R : Nat) (cv : Value) (t q : ByteArray) (n : Nat) (G : Option (List (Nat × Nat) × Nat × Nat × Nat)) (e : Ending) (W' : World) : Prop :=
  (G = none ∧ (∃ er : Nat, er ≠ 0 ∧ e = .returned (.int .i64 (er : Int))) ∧ Below W0.heap.size W0 W') ∨
  (∃ (st a r : Nat) (pv : Value) (acc : List (Nat × Nat)), G = some (acc, st, a, r) ∧ e = .returned (.int .i64 0) ∧ Rs W0 W' A T R cv st t q a r pv (acc.map toIP) ∧ acc.length = n ∧ r ≤ 8 * q.size)
set_option maxRecDepth 100000 in
set_option maxHeartbeats 4000000 in
theorem timesGet_any (W0 W : World) (A T R b s cap base k n : Nat) (L cs : List Nat) (st : Nat) (t q : ByteArray) (a : Nat) (h : Rs W0 W A T R (.slice (some ⟨b, 0, none⟩) s cap) st t q a 0 (.slice none 0 0) []) (hs : Spd k L cs) (he : 2 ^ k = s) (ho : W0.ownsRow base 88 3 (.slice (some ⟨b, 0, none⟩) s cap) s (cvs (tab k L cs s)))
    (hst : st < 2 ^ k) (ht : t.size ≤ 20000) (hq : q.size ≤ 20000) (ha : a ≤ 8 * t.size) (hn : n ≤ 4096) :
    Calls Try.prog 24 #[.int .i64 (n : Int), .func (.func 31) #[.pointer (some ⟨A, 0, none⟩)] #[]] W (TgPost W0 A T R (.slice (some ⟨b, 0, none⟩) s cap) t q n (gS k L cs (le t.data.toList) (le q.data.toList) (8 * q.size) n st a 0 [])) := by
  obtain ⟨G, hG⟩ : ∃ G, gS k L cs (le t.data.toList) (le q.data.toList) (8 * q.size) n st a 0 [] = G := ⟨_, rfl⟩
  rw [hG]
  have ST : Hid (TgRel W0 A T R (.slice (some ⟨b, 0, none⟩) s cap) k L cs t q n G (.int .i64 0) W) :=
    ⟨0, st, a, 0, .slice none 0 0, [], Nat.zero_le _, rfl, h, rfl, hst, ha, Nat.zero_le _, hG⟩
  have GF := fun wr st a r pv (acc : List (Nat × Nat)) c bb ee (hw : Rs W0 wr A T R (.slice (some ⟨b, 0, none⟩) s cap) st t q a r pv (acc.map toIP)) (h1 : st < 2 ^ k) (h2 : cel k L cs st = (c, bb, ee)) (h3 : a ≤ 8 * t.size) (h4 : r ≤ 8 * q.size) (h5 : acc.length ≤ 5000) =>
    goForth_any W0 wr A T R b s cap base k L cs st t q a r pv (acc.map toIP) c bb ee hw hs he ho (by rw [← he]; exact h1) h2 ht hq h3 h4 (by rw [List.length_map]; exact h5)
  have HGF : Aside _ := GF
  have HS := Hid.intro hs
  clear h hs ho hG GF hst ha
  go_enter Try.func24, Try.ntmps24
  go_wp2_with fail
  go_loopw [7] (fun iv wr => TgRel W0 A T R (.slice (some ⟨b, 0, none⟩) s cap) k L cs t q n G iv wr) (fun iv _ => 4097 - (intOf iv).toNat)
  case atStart => exact ST.out
  case round =>
    clear ST
    obtain ⟨i, st, a, r, pv, acc, hi, rfl, d1, d2, d3, d4, d5, d6⟩ := hrel
    by_cases hlt : i < n
    · obtain ⟨c, bb, ee, hcel, -, hc65, hbk, hee, -⟩ := cel_bd HS.out st d3
      have CALL := HGF.out wr st a r pv acc c bb ee d1 d3 hcel d4 d5 (by omega)
      obtain ⟨m, hm⟩ : ∃ m, n - i = m + 1 := ⟨n - i - 1, by omega⟩
      rw [hm] at d6
      have D6 := Hid.intro d6
      have HC := Hid.intro hcel
      clear d1 hcel d6
      go_wp2_with fail
      with_reducible refine CALL.mono ?_
      intro e w1 hpost
      rcases hpost with ⟨q1, ⟨er, her, rfl⟩, q3⟩ | ⟨q1, rfl, pv', q3⟩
      · have GN : Hid (G = none) := by show _ = _; rw [← D6.out]; exact gS_no HC.out q1
        have her' : ((er : Int) == 0) = false := by simp; omega
        have Q3 := Hid.intro q3
        clear CALL q1 q3
        go_wp2_with fail
        go_returns
        exact .inl ⟨GN.out, ⟨er, her, rfl⟩, Q3.out⟩
      · rw [not_or] at q1
        have GY := gS_yes (T := le t.data.toList) (R := le q.data.toList) (n := m) (acc := acc) HC.out (by omega : bb ≤ a) (by omega : c - 1 ≤ 8 * q.size - r)
        have D7 : Hid (gS k L cs (le t.data.toList) (le q.data.toList) (8 * q.size) (n - (i + 1)) (ee + got (le t.data.toList) (a - bb) bb) (a - bb) (r + (c - 1)) (acc ++ [(c, got (le q.data.toList) r (c - 1))]) = G) := by
          show _ = _
          rw [show n - (i + 1) = m by omega, ← GY]; exact D6.out
        have SL : Hid (ee + got (le t.data.toList) (a - bb) bb < 2 ^ k) := by
          have := got_lt (le t.data.toList) (a - bb) bb
          show _ < _; omega
        have Q3 : Hid (Rs W0 w1 A T R (.slice (some ⟨b, 0, none⟩) s cap) (ee + got (le t.data.toList) (a - bb) bb) t q (a - bb) (r + (c - 1)) pv' ((acc ++ [(c, got (le q.data.toList) r (c - 1))]).map toIP)) := by
          rw [List.map_append]; exact q3
        have Q1 := Hid.intro q1
        clear CALL q1 q3 GY
        go_wp2_with fail
        go_roundw
        case rel => exact ⟨i + 1, _, _, _, pv', _, by omega, by go_num, Q3.out, by simp [d2], SL.out, by omega, by have := Q1.out; omega, D7.out⟩
        case measure => simp [intOf]; omega
    · obtain rfl : i = n := by omega
      rw [Nat.sub_self] at d6
      have GG : Hid (G = some (acc, st, a, r)) := by show _ = _; rw [← d6]; rfl
      have D1 := Hid.intro d1
      clear d1 d6
      go_wp2_with fail
      go_returns
      exact .inr ⟨st, a, r, pv, acc, GG.out, rfl, D1.out, d2, d5⟩
end Go.Proofs.Ytofclflcicjlaaa
