/-
  Put: the bytes of any numbers from nought on; each condition stands at its theorem.
-/
import Derived.Test.YtplalkhjjndffaaPt
import Derived.Test.YtplalkhjjndffaaNo
import Derived.Deep.QuietTactic
import Derived.Deep.RegionWith
import Derived.OwnWalk
namespace Go.Proofs.Ytplalkhjjndffaa
open Go.ChangeShapes Go.WideShapes Go.ChangeAt Go.RowKit
open Go.ChangeMaps (open_string shut_string)

def PnRel (L : List Nat) (n S : Nat) (w : World) (iv : Value) (wr : World) : Prop :=
  ∃ (i : Nat) (pre : List UInt8), i ≤ n ∧ iv = .int .i64 i ∧ encN L = pre ++ encN (L.drop i) ∧ pre.length ≤ 20 * i ∧ Bl S S pre wr ∧ Below S w wr
set_option maxRecDepth 100000 in
set_option maxHeartbeats 2000000 in
/-- Put: the bytes of any numbers from nought on. -/
theorem put_some (a : Option Addr) (n cap : Nat) (L : List Nat) (w : World) (h : RI w a n (L.map Int.ofNat)) (hn : n ≤ 1000) (hb : ∀ x ∈ L, x ≤ 9223372036854775807) (hc : n ≤ cap) (hc2 : cap ≤ 9223372036854775807) (h0 : 0 < n) :
    Calls Try.prog 18 #[.slice a n cap] w fun e w' => e = .returned (.string (bs (encN L))) ∧ Below w.heap.size w w' := by
  have hl : L.length = n := by have := h.1; simpa using this
  obtain ⟨xa, rfl, -⟩ := h.2 h0
  have H := Hid.intro h
  have HL := Hid.intro hl
  have HB := Hid.intro hb
  have EA := Hid.intro (enc_at L)
  have NE : Hid (encN L ≠ []) := encN_ne (by rintro rfl; simp at hl; omega)
  have b0 := bl_new w
  have b1 : Below w.heap.size w (w.alloc (.cells #[.pointer none, .slice none 0 0] 62)) := (Below.refl _ _).alloc (Nat.le_refl _) _
  obtain ⟨S, hS⟩ : ∃ S, w.heap.size = S := ⟨_, rfl⟩
  have HS := Hid.intro hS
  rw [hS] at b0 b1 ⊢
  have ST : Hid (PnRel L n S w (.int .i64 0) (w.alloc (.cells #[.pointer none, .slice none 0 0] 62))) := ⟨0, [], Nat.zero_le _, rfl, rfl, Nat.zero_le _, b0, b1⟩
  clear b0 b1 h hl hb
  go_enter Try.func18, Try.ntmps18
  go_wp2_with fail
  try simp only [hS]
  clear hS
  go_loopw [4] (fun iv wr => PnRel L n S w iv wr) (fun iv _ => n - (intOf iv).toNat)
  case atStart => exact ST.out
  case round =>
    clear ST
    obtain ⟨i, pre, hi, rfl, d1, d2, d3, d4⟩ := hrel
    by_cases hlt : i < n
    · have hr : RI wr (some xa) n (L.map Int.ofNat) := ri_below H.out (by rw [HS.out]; exact d4)
      obtain ⟨x, hx, cx⟩ := ri_fr hr i hlt
      cases hx
      rw [fr_map] at cx
      have cx' : wr.cell? (xa.add i) = some (.int .i64 (g L i : Nat)) := cx
      have xb := HB.out (g L i) (g_mem L i (by rw [HL.out]; exact hlt))
      obtain ⟨eP, eZ⟩ := EA.out i (by rw [HL.out]; exact hlt)
      have VP := put_any (g L i) (by omega) wr
      have hvl := vb_len (g L i)
      have hne : ¬ cap = i := by omega
      have HR := Hid.intro hr
      have D1 := Hid.intro d1
      have D3 := Hid.intro d3
      have D4 := Hid.intro d4
      clear cx hr d1 d3 d4
      generalize g L i = y at *
      by_cases hy : 0 < y
      · obtain ⟨z0, en⟩ := eP hy
        have EN := Hid.intro en
        clear eP eZ en
        go_wp2_with fail
        with_reducible refine VP.mono ?_
        rintro e w2 ⟨rfl, k2⟩
        have WS := write_any S S pre (vb y) w2 (bl_later D3.out k2) (by omega) (by have := D4.out.size; have := k2.size; rw [HS.out] at *; omega)
        clear VP
        go_wp2_with fail
        with_reducible refine WS.mono ?_
        rintro e w3 ⟨rfl, k3, k4⟩
        clear WS
        have b3 : Below S w w3 := (D4.out.trans (k2.mono (by have := D4.out.size; rw [HS.out] at this; exact this))).trans k4
        have sl := slice_from xa n cap i (by omega) hne w3
        have RW := row_any (some (xa.add i)) (n - i) (cap - i) _ w3 (ri_drop (ri_below H.out (by rw [HS.out]; exact b3)) i) (by omega)
        rw [← List.map_drop, zI_nat, z0] at RW
        have B3 := Hid.intro b3
        have K3 := Hid.intro k3
        clear k3 b3 k4 k2
        go_wp2_with fail
        with_reducible refine RW.mono ?_
        rintro e w4 ⟨rfl, rfl⟩
        clear RW sl
        go_wp2_with fail
        go_roundw
        case rel => exact ⟨i + 1, pre ++ vb y, by omega, by go_num, by rw [List.append_assoc, ← EN.out]; exact D1.out, by rw [List.length_append]; omega, K3.out, B3.out⟩
        case measure => simp [intOf]; omega
      · obtain rfl : y = 0 := by omega
        have VP : Calls Try.prog 33 #[.int .u64 0] wr (fun e w' => e = .returned (.string (bs (vb 0))) ∧ Below wr.heap.size wr w') := VP
        obtain ⟨z0, z1, en⟩ := eZ rfl
        rw [HL.out] at z1
        obtain ⟨r, hr⟩ : ∃ r, zrow (L.drop i) = r := ⟨_, rfl⟩
        have HRr := Hid.intro hr
        rw [hr] at z0 z1 en
        have EN := Hid.intro en
        clear eP eZ en hr
        obtain ⟨r1, hr1⟩ : ∃ r1 : Nat, (r : Int) - 1 = (r1 : Int) := ⟨r - 1, by omega⟩
        have er1 : Hid (r - 1 = r1) := by show _ = _; omega
        have VQ : ∀ W, _ := fun W => put_any r1 (by omega) W
        have hvl1 := vb_len r1
        have mr : max (r : Int) 1 = (r : Int) := by omega
        have r0 : (0 : Int) < (r : Int) := by omega
        go_wp2_with fail
        with_reducible refine VP.mono ?_
        rintro e w2 ⟨rfl, k2⟩
        have WS := write_any S S pre (vb 0) w2 (bl_later D3.out k2) (by omega) (by have := D4.out.size; have := k2.size; rw [HS.out] at *; omega)
        clear VP
        go_wp2_with fail
        with_reducible refine WS.mono ?_
        rintro e w3 ⟨rfl, k3, k4⟩
        clear WS
        have b3 : Below S w w3 := (D4.out.trans (k2.mono (by have := D4.out.size; rw [HS.out] at this; exact this))).trans k4
        have sl := slice_from xa n cap i (by omega) hne w3
        have RW := row_any (some (xa.add i)) (n - i) (cap - i) _ w3 (ri_drop (ri_below H.out (by rw [HS.out]; exact b3)) i) (by omega)
        rw [← List.map_drop, zI_nat, HRr.out] at RW
        have B3 := Hid.intro b3
        have K3 := Hid.intro k3
        clear k3 b3 k4 k2
        go_wp2_with fail
        with_reducible refine RW.mono ?_
        rintro e w4 ⟨rfl, rfl⟩
        clear RW sl
        have V5 := VQ w4
        clear VQ
        go_wp2_with fail
        with_reducible refine V5.mono ?_
        rintro e w5 ⟨rfl, k5⟩
        clear V5
        have b5 : Below S w w5 := B3.out.trans (k5.mono (by have := B3.out.size; rw [HS.out] at this; exact this))
        have WS := write_any S S (pre ++ vb 0) (vb r1) w5 (bl_later K3.out k5) (by rw [List.length_append]; omega) (by have := b5.size; rw [HS.out] at this; exact this)
        clear k5
        go_wp2_with fail
        with_reducible refine WS.mono ?_
        rintro e w6 ⟨rfl, k6, k7⟩
        clear WS
        have B6 := Hid.intro (b5.trans k7)
        have K6 := Hid.intro k6
        clear b5 k6 k7
        go_wp2_with fail
        go_roundw
        case rel => exact ⟨i + r, pre ++ vb 0 ++ vb r1, by omega, by go_num, by rw [List.append_assoc, List.append_assoc, ← er1.out, ← EN.out]; exact D1.out, by rw [List.length_append, List.length_append]; omega, K6.out, B6.out⟩
        case measure => simp [intOf]; omega
    · obtain rfl : i = n := by omega
      rw [← HL.out, List.drop_length, encN_nil, List.append_nil] at d1
      subst d1
      have SS := string_some S S (encN L) wr d3 NE.out
      clear d3
      go_wp2_with fail
      with_reducible refine SS.mono ?_
      rintro e w2 ⟨rfl, k2⟩
      clear SS
      have B2 := Hid.intro (d4.trans k2)
      clear d4 k2
      go_wp2_with fail
      go_ret
      exact ⟨rfl, B2.out⟩
end Go.Proofs.Ytplalkhjjndffaa
