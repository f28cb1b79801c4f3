/-
  The heap's step up: from a place whose parent alone may be below it, to a heap.
-/
import Derived.Test.YtplalkhjjndffaaQm
namespace Go.Proofs.Ytplalkhjjndffaa
open Go.ChangeShapes Go.WideShapes Go.ChangeAt Go.RowKit
open Go.ChangeMaps (open_string shut_string)

theorem less_n {n b cap i j : Nat} {f : List Int} {l : List Nat} {W : World} {A : Nat} (h : Qu W A (.slice (some ⟨b, 0, none⟩) n cap) f l) (hl : l.length = n) (hi : i < n) (hj : j < n) (hn : n ≤ 1001) :
    Calls Try.prog 79 #[.slice (some ⟨b, 0, none⟩) n cap, .int .i64 i, .int .i64 j] W fun e W' => e = .returned (.bool (ltb f (g l i) (g l j))) ∧ Chg (fun _ => False) W W' := by
  subst hl
  exact less_at b cap i j f l W hi hj (by omega) h.2.1
theorem swap_n {n b cap i j : Nat} {f : List Int} {l : List Nat} {W : World} {A : Nat} (h : Qu W A (.slice (some ⟨b, 0, none⟩) n cap) f l) (hl : l.length = n) (hi : i < n) (hj : j < n) (hn : n ≤ 1001) :
    Calls Try.prog 82 #[.slice (some ⟨b, 0, none⟩) n cap, .int .i64 i, .int .i64 j] W fun e W' => e = .returned (.tuple #[]) ∧ Qu W' A (.slice (some ⟨b, 0, none⟩) n cap) f (sw l i j) ∧ Chg (foot A (.slice (some ⟨b, 0, none⟩) n cap)) W W' := by
  subst hl
  refine (swap_any b cap i j f l W hi hj (by omega) h.2.1).mono ?_
  rintro e W' ⟨rfl, k1, k2⟩
  refine ⟨rfl, ⟨blk_kept h.1 k2 (fun e => h.2.2 (by rw [e]; rfl)), by rw [sw_len]; exact k1, h.2.2⟩, chg_mono k2 (fun k _ e => .inr (by rw [e]; rfl))⟩
theorem no_foot {A : Nat} {v : Value} {a b : World} (h : Chg (fun _ => False) a b) : Chg (foot A v) a b := chg_mono h (fun _ _ h => h.elim)
theorem qu_no {W W' : World} {A : Nat} {v : Value} {f : List Int} {l : List Nat} (h : Qu W A v f l) (c : Chg (fun _ => False) W W') : Qu W' A v f l := qu_kept h c (fun _ _ h => h)
def UpRel (A : Nat) (v : Value) (f : List Int) (l : List Nat) (W : World) (sv : Value) (wr : World) : Prop :=
  ∃ (j : Nat) (l' : List Nat), sv = .int .i64 j ∧ Qu wr A v f l' ∧ l'.Perm l ∧ UpInv (ltf f) l' j ∧ Chg (foot A v) W wr
set_option maxRecDepth 100000 in
set_option maxHeartbeats 1000000 in
theorem up_any (A : Nat) (v : Value) (f : List Int) (l : List Nat) (j : Nat) (W : World) (h : Qu W A v f l) (hu : UpInv (ltf f) l j) (hl : l.length ≤ 1001) :
    Calls Try.prog 49 #[.iface 76 (.pointer (some ⟨A, 0, none⟩)), .int .i64 j] W fun e W' => e = .returned (.tuple #[]) ∧ ∃ l', Qu W' A v f l' ∧ l'.Perm l ∧ HeapFrom (ltf f) l' l'.length 0 ∧ Chg (foot A v) W W' := by
  have hl0 : 0 < l.length := by have := hu.1; omega
  obtain ⟨b, cap, rfl⟩ := own_slice h.2.1 hl0
  obtain ⟨n, hn⟩ : ∃ n, l.length = n := ⟨_, rfl⟩
  rw [hn] at h hl hl0 ⊢
  have HN := Hid.intro hn
  clear hn
  go_enter Try.func49, Try.ntmps49
  go_wp2_with fail
  go_loopw [1] (fun sv wr => UpRel A (.slice (some ⟨b, 0, none⟩) n cap) f l W sv wr) (fun sv _ => (intOf sv).toNat)
  case atStart => exact ⟨j, l, rfl, h, List.Perm.refl _, hu, chg_refl _ _⟩
  case round =>
    clear h hu
    obtain ⟨j, l', rfl, d1, d2, d3, d4⟩ := hrel
    have e2 := Hid.intro (d2.length_eq.trans HN.out)
    obtain ⟨c0, f0⟩ := qu_cell d1
    have hjl : j < n := by have := d3.1; have := e2.out; omega
    have ml := method_less A _ wr c0
    by_cases hj : j = 0
    · subst hj
      go_wp2_with fail
      go_returns
      exact ⟨rfl, l', d1, d2, up_done d3 (.inl rfl), d4⟩
    · obtain ⟨k, hk⟩ : ∃ k, (j - 1) / 2 = k := ⟨_, rfl⟩
      have hki : ((j : Int) - 1) / 2 = (k : Int) := by omega
      have t : ((k : Int) == (j : Int)) = false := by simp; omega
      have LS := less_n (i := j) (j := k) d1 e2.out hjl (by omega) (by omega)
      by_cases hb : ltb f (g l' j) (g l' k) = true
      · rw [hb] at LS
        have u := up_step (ltf_ord f) d3 (by omega) (by rw [hk]; exact (ltb_iff _ _ _).1 hb)
        rw [hk] at u
        have hkj : k < j := by omega
        clear hb
        go_wp2_with fail
        refine LS.mono ?_
        rintro e w1 ⟨rfl, q1⟩
        have d1' := qu_no d1 q1
        obtain ⟨c1, _⟩ := qu_cell d1'
        have ms := method_swap A _ w1 c1
        have SW := swap_n (i := k) (j := j) d1' e2.out (by omega) hjl (by omega)
        clear LS ml c0 f0 d1
        go_wp2_with fail
        refine SW.mono ?_
        rintro e w2 ⟨rfl, k1, k2⟩
        clear SW ms c1 d1' hk
        go_wp2_with fail
        go_roundw
        case rel => exact ⟨k, sw l' k j, rfl, k1, (sw_perm l' k j (by have := e2.out; omega) (by have := e2.out; omega)).trans d2, u, chg_same (chg_same d4 (no_foot q1)) k2⟩
        case measure => simp [intOf]; omega
      · have hbf : ltb f (g l' j) (g l' k) = false := by simpa using hb
        rw [hbf] at LS
        have u := up_done d3 (.inr (by rw [hk]; exact (ltb_not _ _ _).1 hbf))
        clear hb hbf
        go_wp2_with fail
        refine LS.mono ?_
        rintro e w1 ⟨rfl, q1⟩
        clear LS ml
        go_wp2_with fail
        go_returns
        exact ⟨rfl, l', qu_no d1 q1, d2, u, chg_same d4 (no_foot q1)⟩
end Go.Proofs.Ytplalkhjjndffaa
