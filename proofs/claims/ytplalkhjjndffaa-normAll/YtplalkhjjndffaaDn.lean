/-
  The heap's step down: from the first place, among all but the last one, to a heap.
-/
import Derived.Test.YtplalkhjjndffaaUp
import Derived.Deep.RegionHeld3
namespace Go.Proofs.Ytplalkhjjndffaa
open Go.ChangeShapes Go.WideShapes Go.ChangeAt Go.RowKit
open Go.ChangeMaps (open_string shut_string)

def DnRel (A : Nat) (v : Value) (f : List Int) (l : List Nat) (n i0 : Nat) (W : World) (sv : Value) (wr : World) : Prop :=
  ∃ (i : Nat) (l' : List Nat), sv = .int .i64 i ∧ i ≤ n ∧ Qu wr A v f l' ∧ l'.Perm l ∧ g l' n = g l n ∧ DnInv (ltf f) l' n i0 i ∧ Chg (foot A v) W wr
set_option maxRecDepth 100000 in
set_option maxHeartbeats 2000000 in
theorem down_at (A : Nat) (v : Value) (f : List Int) (l : List Nat) (n i0 : Nat) (W : World) (h : Qu W A v f l) (hu : DnInv (ltf f) l n i0 i0) (hi0 : i0 ≤ n) (hn : n ≤ l.length) (h1 : 0 < l.length) (hl : l.length ≤ 1001) :
    Calls Try.prog 52 #[.iface 76 (.pointer (some ⟨A, 0, none⟩)), .int .i64 (i0 : Nat), .int .i64 n] W fun e W' => ∃ r, e = .returned (.bool r) ∧ ∃ l', Qu W' A v f l' ∧ l'.Perm l ∧ g l' n = g l n ∧ HeapFrom (ltf f) l' n i0 ∧ Chg (foot A v) W W' := by
  obtain ⟨b, cap, rfl⟩ := own_slice h.2.1 (by omega)
  obtain ⟨m, hm⟩ : ∃ m, l.length = m := ⟨_, rfl⟩
  have hmn : n ≤ m := by omega
  have hm1 : m ≤ 1001 := by omega
  rw [hm] at h ⊢
  have HN := Hid.intro hm
  clear hm hn h1 hl
  go_enter Try.func52, Try.ntmps52
  go_wp2_with fail
  go_loopw [7] (fun sv wr => DnRel A (.slice (some ⟨b, 0, none⟩) m cap) f l n i0 W sv wr) (fun sv _ => n - (intOf sv).toNat)
  case atStart => exact ⟨i0, l, rfl, hi0, h, List.Perm.refl _, rfl, hu, chg_refl _ _⟩
  case round =>
    clear h hu
    obtain ⟨i, l', rfl, hin, d1, d2, d5, d3, d4⟩ := hrel
    have e2 := Hid.intro (d2.length_eq.trans HN.out)
    obtain ⟨c0, f0⟩ := qu_cell d1
    have ml := method_less A _ wr c0
    obtain ⟨a, ha⟩ : ∃ a, 2 * i + 1 = a := ⟨_, rfl⟩
    have e1 : 2 * (i : Int) + 1 = (a : Int) := by omega
    by_cases hA : n ≤ a
    · have u := dn_done d3 (fun c h0 hc hci => by omega)
      have H5 := Hid.intro d5
      clear ha d5
      go_wp2_with fail
      go_returns
      exact ⟨_, rfl, l', d1, d2, H5.out, u, d4⟩
    · obtain ⟨c, hc⟩ : ∃ c, a + 1 = c := ⟨_, rfl⟩
      have e3 : (a : Int) + 1 = (c : Int) := by omega
      have hai : (a - 1) / 2 = i := by omega
      have hci : (c - 1) / 2 = i := by omega
      have hkid : Hid (∀ k, 0 < k → k < n → (k - 1) / 2 = i → k = a ∨ k = c) := fun k h0 h1 h2 => by omega
      have hac : i < a := by omega
      have hac2 : a < c := by omega
      by_cases hC : c < n
      · have L1 := less_n (i := c) (j := a) d1 e2.out (by omega) (by omega) (by omega)
        by_cases hb : ltb f (g l' c) (g l' a) = true
        · rw [hb] at L1
          have hm := Hid.intro (fun k h0 h1 h2 => (hkid.out k h0 h1 h2).elim (fun e => by rw [e]; exact (ltf_ord f).asym ((ltb_iff _ _ _).1 hb)) (fun e => by rw [e]; exact (ltf_ord f).irr _) : ∀ k, 0 < k → k < n → (k - 1) / 2 = i → ¬ ltf f (g l' k) (g l' c))
          clear hb
          go_wp2_with fail
          with_reducible refine L1.mono ?_
          rintro e wq ⟨rfl, q1⟩
          have d1' := qu_no d1 q1
          obtain ⟨c1, _⟩ := qu_cell d1'
          have ml' := method_less A _ wq c1
          have L2 := less_n (i := c) (j := i) d1' e2.out (by omega) (by omega) (by omega)
          by_cases hs : ltb f (g l' c) (g l' i) = true
          · rw [hs] at L2
            have u := dn_step (ltf_ord f) d3 (by omega) (by omega) hci hm.out ((ltb_iff _ _ _).1 hs)
            have gn : Hid (g (sw l' i c) n = g l n) := by
              show _ = _
              have := e2.out
              rw [sw_at l' i c (by omega) (by omega), if_neg (by omega), if_neg (by omega)]
              exact d5
            clear hs L1 ml c0 f0 d1 d5 ha hc hai hci
            go_wp2_with fail
            with_reducible refine L2.mono ?_
            rintro e w2 ⟨rfl, q2⟩
            have d1'' := qu_no d1' q2
            obtain ⟨c2, _⟩ := qu_cell d1''
            have ms := method_swap A _ w2 c2
            have SW := swap_n (i := i) (j := c) d1'' e2.out (by omega) (by omega) (by omega)
            clear L2 ml' c1 d1'
            go_wp2_with fail
            with_reducible refine SW.mono ?_
            rintro e w3 ⟨rfl, k1, k2⟩
            clear SW ms c2 d1''
            go_wp2_with fail
            go_roundw
            case rel => exact ⟨c, sw l' i c, rfl, by omega, k1, (sw_perm l' i c (by have := e2.out; omega) (by have := e2.out; omega)).trans d2, gn.out, u, chg_same (chg_same (chg_same d4 (no_foot q1)) (no_foot q2)) k2⟩
            case measure => simp [intOf]; omega
          · have hsf : ltb f (g l' c) (g l' i) = false := by simpa using hs
            rw [hsf] at L2
            have u := dn_done d3 (fun k h0 h1 h2 => (ltf_ord f).ntr _ _ _ ((ltb_not _ _ _).1 hsf) (hm.out k h0 h1 h2))
            have H5 := Hid.intro d5
            clear hs hsf L1 ml c0 f0 d1 d5 ha hc hai hci
            go_wp2_with fail
            with_reducible refine L2.mono ?_
            rintro e w2 ⟨rfl, q2⟩
            clear L2 ml' c1
            go_wp2_with fail
            go_returns
            exact ⟨_, rfl, l', qu_no d1' q2, d2, H5.out, u, chg_same (chg_same d4 (no_foot q1)) (no_foot q2)⟩
        · have hbf : ltb f (g l' c) (g l' a) = false := by simpa using hb
          rw [hbf] at L1
          have hm := Hid.intro (fun k h0 h1 h2 => (hkid.out k h0 h1 h2).elim (fun e => by rw [e]; exact (ltf_ord f).irr _) (fun e => by rw [e]; exact (ltb_not _ _ _).1 hbf) : ∀ k, 0 < k → k < n → (k - 1) / 2 = i → ¬ ltf f (g l' k) (g l' a))
          clear hb hbf
          go_wp2_with fail
          with_reducible refine L1.mono ?_
          rintro e wq ⟨rfl, q1⟩
          have d1' := qu_no d1 q1
          obtain ⟨c1, _⟩ := qu_cell d1'
          have ml' := method_less A _ wq c1
          have L2 := less_n (i := a) (j := i) d1' e2.out (by omega) (by omega) (by omega)
          by_cases hs : ltb f (g l' a) (g l' i) = true
          · rw [hs] at L2
            have u := dn_step (ltf_ord f) d3 (by omega) (by omega) hai hm.out ((ltb_iff _ _ _).1 hs)
            have gn : Hid (g (sw l' i a) n = g l n) := by
              show _ = _
              have := e2.out
              rw [sw_at l' i a (by omega) (by omega), if_neg (by omega), if_neg (by omega)]
              exact d5
            clear hs L1 ml c0 f0 d1 d5 ha hc hai hci
            go_wp2_with fail
            with_reducible refine L2.mono ?_
            rintro e w2 ⟨rfl, q2⟩
            have d1'' := qu_no d1' q2
            obtain ⟨c2, _⟩ := qu_cell d1''
            have ms := method_swap A _ w2 c2
            have SW := swap_n (i := i) (j := a) d1'' e2.out (by omega) (by omega) (by omega)
            clear L2 ml' c1 d1'
            go_wp2_with fail
            with_reducible refine SW.mono ?_
            rintro e w3 ⟨rfl, k1, k2⟩
            clear SW ms c2 d1''
            go_wp2_with fail
            go_roundw
            case rel => exact ⟨a, sw l' i a, rfl, by omega, k1, (sw_perm l' i a (by have := e2.out; omega) (by have := e2.out; omega)).trans d2, gn.out, u, chg_same (chg_same (chg_same d4 (no_foot q1)) (no_foot q2)) k2⟩
            case measure => simp [intOf]; omega
          · have hsf : ltb f (g l' a) (g l' i) = false := by simpa using hs
            rw [hsf] at L2
            have u := dn_done d3 (fun k h0 h1 h2 => (ltf_ord f).ntr _ _ _ ((ltb_not _ _ _).1 hsf) (hm.out k h0 h1 h2))
            have H5 := Hid.intro d5
            clear hs hsf L1 ml c0 f0 d1 d5 ha hc hai hci
            go_wp2_with fail
            with_reducible refine L2.mono ?_
            rintro e w2 ⟨rfl, q2⟩
            clear L2 ml' c1
            go_wp2_with fail
            go_returns
            exact ⟨_, rfl, l', qu_no d1' q2, d2, H5.out, u, chg_same (chg_same d4 (no_foot q1)) (no_foot q2)⟩
      · have hm := Hid.intro (fun k h0 h1 h2 => (hkid.out k h0 h1 h2).elim (fun e => by rw [e]; exact (ltf_ord f).irr _) (fun e => by omega) : ∀ k, 0 < k → k < n → (k - 1) / 2 = i → ¬ ltf f (g l' k) (g l' a))
        have q1 : Chg (fun _ => False) wr wr := chg_refl _ _
        have d1' := d1
        have L1 := trivial
        obtain ⟨c1, _⟩ := qu_cell d1'
        have ml' := method_less A _ wr c1
        have L2 := less_n (i := a) (j := i) d1' e2.out (by omega) (by omega) (by omega)
        by_cases hs : ltb f (g l' a) (g l' i) = true
        · rw [hs] at L2
          have u := dn_step (ltf_ord f) d3 (by omega) (by omega) hai hm.out ((ltb_iff _ _ _).1 hs)
          have gn : Hid (g (sw l' i a) n = g l n) := by
            show _ = _
            have := e2.out
            rw [sw_at l' i a (by omega) (by omega), if_neg (by omega), if_neg (by omega)]
            exact d5
          clear hs L1 ml c0 f0 d1 d5 ha hc hai hci
          go_wp2_with fail
          with_reducible refine L2.mono ?_
          rintro e w2 ⟨rfl, q2⟩
          have d1'' := qu_no d1' q2
          obtain ⟨c2, _⟩ := qu_cell d1''
          have ms := method_swap A _ w2 c2
          have SW := swap_n (i := i) (j := a) d1'' e2.out (by omega) (by omega) (by omega)
          clear L2 ml' c1 d1'
          go_wp2_with fail
          with_reducible refine SW.mono ?_
          rintro e w3 ⟨rfl, k1, k2⟩
          clear SW ms c2 d1''
          go_wp2_with fail
          go_roundw
          case rel => exact ⟨a, sw l' i a, rfl, by omega, k1, (sw_perm l' i a (by have := e2.out; omega) (by have := e2.out; omega)).trans d2, gn.out, u, chg_same (chg_same (chg_same d4 (no_foot q1)) (no_foot q2)) k2⟩
          case measure => simp [intOf]; omega
        · have hsf : ltb f (g l' a) (g l' i) = false := by simpa using hs
          rw [hsf] at L2
          have u := dn_done d3 (fun k h0 h1 h2 => (ltf_ord f).ntr _ _ _ ((ltb_not _ _ _).1 hsf) (hm.out k h0 h1 h2))
          have H5 := Hid.intro d5
          clear hs hsf L1 ml c0 f0 d1 d5 ha hc hai hci
          go_wp2_with fail
          with_reducible refine L2.mono ?_
          rintro e w2 ⟨rfl, q2⟩
          clear L2 ml' c1
          go_wp2_with fail
          go_returns
          exact ⟨_, rfl, l', qu_no d1' q2, d2, H5.out, u, chg_same (chg_same d4 (no_foot q1)) (no_foot q2)⟩
theorem down_any (A : Nat) (v : Value) (f : List Int) (l : List Nat) (n : Nat) (W : World) (h : Qu W A v f l) (hu : DnInv (ltf f) l n 0 0) (hn : l.length = n + 1) (hl : n ≤ 1000) :
    Calls Try.prog 52 #[.iface 76 (.pointer (some ⟨A, 0, none⟩)), .int .i64 0, .int .i64 n] W fun e W' => ∃ r, e = .returned (.bool r) ∧ ∃ l', Qu W' A v f l' ∧ l'.Perm l ∧ g l' n = g l n ∧ HeapFrom (ltf f) l' n 0 ∧ Chg (foot A v) W W' :=
  down_at A v f l n 0 W h hu (Nat.zero_le _) (by omega) (by omega) (by omega)
end Go.Proofs.Ytplalkhjjndffaa
