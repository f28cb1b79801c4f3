/-
  The reference's bytes of any numbers from nought on; each condition stands at its theorem.
-/
import Derived.Test.YtplalkhjjndffaaPt
import Derived.Test.YtplalkhjjndffaaNo
import Derived.Test.YtplalkhjjndffaaRefCv
import Derived.Deep.QuietTactic
import Derived.Deep.RegionWith
import Derived.OwnWalk
namespace Go.Proofs.Ytplalkhjjndffaa
open Go.ChangeShapes Go.WideShapes Go.ChangeAt Go.RowKit
open Go.ChangeMaps (open_string shut_string)

def PrRel (L : List Nat) (n : Nat) (w : World) (sv iv : Value) (wr : World) : Prop :=
  ∃ (i : Nat) (pre : List UInt8), i ≤ n ∧ iv = .int .i64 i ∧ sv = .string (bs pre) ∧ encN L = pre ++ encN (L.drop i) ∧ pre.length ≤ 20 * i ∧ Below w.heap.size w wr
def PqRel (L : List Nat) (n i : Nat) (w : World) (iv nv : Value) (wr : World) : Prop :=
  ∃ k p : Nat, p ≤ n ∧ iv = .int .i64 (p : Int) ∧ nv = .int .i64 (k : Int) ∧ k ≤ zrow (L.drop i) ∧ i + k = p ∧ wr = w
theorem zrow_at (L : List Nat) (i k : Nat) (h : i + k < L.length) (hk : k ≤ zrow (L.drop i)) : (g L (i + k) = 0 → k + 1 ≤ zrow (L.drop i)) ∧ (g L (i + k) ≠ 0 → k = zrow (L.drop i)) := by
  have e : fr ((L.drop i).map Int.ofNat) k = (g L (i + k) : Int) := by rw [List.map_drop, fr_drop, fr_map]; rfl
  have hl : k < ((L.drop i).map Int.ofNat).length := by rw [List.length_map, List.length_drop]; omega
  rw [← zI_nat] at *
  constructor
  · intro h0
    rcases Nat.lt_or_ge k (zI ((L.drop i).map Int.ofNat)) with h1 | h1
    · omega
    · have h2 : zI ((L.drop i).map Int.ofNat) = k := by omega
      have := zI_at (l := (L.drop i).map Int.ofNat) (by omega)
      rw [h2, e, h0] at this
      exact absurd rfl this
  · intro h0
    rcases Nat.lt_or_ge k (zI ((L.drop i).map Int.ofNat)) with h1 | h1
    · have := zI_lt h1
      rw [e] at this; omega
    · omega
theorem bs_add (a b : List UInt8) : bs a ++ bs b = bs (a ++ b) := by
  apply Go.WideShapes.bytes_inj
  rw [app_list]; rfl
set_option maxRecDepth 100000 in
set_option maxHeartbeats 2000000 in
/-- The reference's bytes of any numbers from nought on. -/
theorem rput_any (a : Option Addr) (n cap : Nat) (L : List Nat) (w : World) (h : RI w a n (L.map Int.ofNat)) (hn : n ≤ 1000) (hb : ∀ x ∈ L, x ≤ 9223372036854775807) :
    Calls Try.prog 19 #[.slice a n cap] w fun e w' => e = .returned (.string (bs (encN L))) ∧ Below w.heap.size w w' := by
  have hl : L.length = n := by have := h.1; simpa using this
  have H := Hid.intro h
  have HL := Hid.intro hl
  have HB := Hid.intro hb
  have EA := Hid.intro (enc_at L)
  have ZA := Hid.intro (zrow_at L)
  have ST : Hid (PrRel L n w (.string (bs [])) (.int .i64 0) w) := ⟨0, [], Nat.zero_le _, rfl, rfl, rfl, Nat.zero_le _, Below.refl _ _⟩
  clear h hl hb
  go_enter Try.func19, Try.ntmps19
  go_wp2_with fail
  go_loopw [3, 4] (fun sv iv wr => PrRel L n w sv iv wr) (fun _ iv _ => n - (intOf iv).toNat)
  case atStart => exact ST.out
  case round =>
    clear ST
    obtain ⟨i, pre, hi, rfl, rfl, d1, d2, d3⟩ := hrel
    by_cases hlt : i < n
    · obtain ⟨x, rfl, cx⟩ := ri_fr (ri_below H.out d3) i hlt
      rw [fr_map] at cx
      have cx' : wr.cell? (x.add i) = some (.int .i64 (g L i : Nat)) := cx
      have xb := HB.out (g L i) (g_mem L i (by rw [HL.out]; exact hlt))
      obtain ⟨eP, eZ⟩ := EA.out i (by rw [HL.out]; exact hlt)
      have VP := refPut_any (g L i) (by omega) wr
      have hvl := vb_len (g L i)
      have D1 := Hid.intro d1
      have D3 := Hid.intro d3
      clear cx d1 d3
      have GI : Hid (g L i = g L (i + 0)) := rfl
      generalize hy0 : g L i = y at *
      have GY := Hid.intro hy0
      clear hy0
      by_cases hy : 0 < y
      · obtain ⟨z0, en⟩ := eP hy
        have EN := Hid.intro en
        have t : ((y : Int) != 0) = true := by simp; omega
        have sz : (bs pre).size + (bs (vb y)).size ≤ 9223372036854775807 := by rw [size_bs, size_bs]; omega
        have ba := bs_add pre (vb y)
        clear eP eZ en
        go_wp2_with fail
        with_reducible refine VP.mono ?_
        rintro e w2 ⟨rfl, k2⟩
        clear VP
        have cx2 : w2.cell? (x.add i) = some (.int .i64 (y : Nat)) := by rw [k2.cell (World.block_lt_of_cell? _ _ cx')]; exact cx'
        have B2 := Hid.intro (D3.out.trans (k2.mono D3.out.size))
        clear k2 cx'
        go_wp2_with fail
        go_roundw
        case rel => exact ⟨i + 1, pre ++ vb y, by omega, by go_num, rfl, by rw [List.append_assoc, ← EN.out]; exact D1.out, by rw [List.length_append]; omega, B2.out⟩
        case measure => simp [intOf]; omega
      · obtain rfl : y = 0 := by omega
        have VP : Calls Try.prog 36 #[.int .u64 0] wr (fun e w' => e = .returned (.string (bs (vb 0))) ∧ Below wr.heap.size wr w') := VP
        obtain ⟨z0, z1, en⟩ := eZ rfl
        rw [HL.out] at z1
        have EN := Hid.intro en
        have HZ1 := Hid.intro z1
        have HZ0 := Hid.intro z0
        clear z1 z0
        have cx' : wr.cell? (x.add i) = some (.int .i64 0) := cx'
        have sz : (bs pre).size + (bs (vb 0)).size ≤ 9223372036854775807 := by rw [size_bs, size_bs]; omega
        have ba := bs_add pre (vb 0)
        clear eP eZ en
        go_wp2_with fail
        with_reducible refine VP.mono ?_
        rintro e w2 ⟨rfl, k2⟩
        clear VP
        have cx2 : w2.cell? (x.add i) = some (.int .i64 0) := by rw [k2.cell (World.block_lt_of_cell? _ _ cx')]; exact cx'
        have b2 := D3.out.trans (k2.mono D3.out.size)
        have B2 := Hid.intro b2
        clear k2 cx'
        go_wp2_with fail
        clear cx2
        go_loopw [4, 5] (fun iv nv wr => PqRel L n i w2 iv nv wr) (fun _ nv _ => n - i - (intOf nv).toNat)
        case atStart => exact ⟨0, i, by omega, rfl, rfl, Nat.zero_le _, rfl, rfl⟩
        case round =>
          obtain ⟨k, p, hk, rfl, rfl, k3, hp, rfl⟩ := hrel
          have HP := Hid.intro hp
          have kb : k ≤ 1000 := by omega
          have fin : k = zrow (L.drop i) → Hid (1 ≤ k ∧ i + k ≤ n ∧ encN L = (pre ++ (vb 0 ++ vb (k - 1))) ++ encN (L.drop p)) := fun e => by
            have := EN.out
            rw [← e, hp] at this
            exact ⟨by have := HZ0.out; omega, by omega, by rw [D1.out, this]; simp⟩
          by_cases hkn : p < n
          · obtain ⟨x2, hx2, cq⟩ := ri_fr (ri_below H.out B2.out) p hkn
            cases hx2
            rw [fr_map] at cq
            have cq' : wr.cell? (x.add p) = some (.int .i64 (g L p : Nat)) := cq
            obtain ⟨q1, q2⟩ := ZA.out i k (by rw [HL.out]; omega) k3
            rw [hp] at q1 q2
            clear cq
            by_cases hq : g L p = 0
            · rw [hq] at cq'
              have cq' : wr.cell? (x.add p) = some (.int .i64 0) := cq'
              have Q1 := Hid.intro (q1 hq)
              clear q1 q2 hq k3 fin hp
              go_wp2_with fail
              go_roundw
              case rel => exact ⟨k + 1, p + 1, by omega, by go_num, by go_num, Q1.out, by have := HP.out; omega, rfl⟩
              case measure => simp [intOf]; have := HP.out; omega
            · have FN := fin (q2 hq)
              have t : ((g L p : Int) == 0) = false := by simpa using hq
              clear q1 q2 hq k3 fin hp
              generalize g L p = y at *
              obtain ⟨fk, fp, fe⟩ := FN.out
              have FE := Hid.intro fe
              obtain ⟨r1, hr1⟩ : ∃ r1 : Nat, (k : Int) - 1 = (r1 : Int) := ⟨k - 1, by omega⟩
              have er1 : Hid (k - 1 = r1) := by show _ = _; omega
              have V2 := refPut_any r1 (by omega) wr
              have hvl1 := vb_len r1
              have sz2 : (bs (pre ++ vb 0)).size + (bs (vb r1)).size ≤ 9223372036854775807 := by rw [size_bs, size_bs, List.length_append]; omega
              have ba2 := bs_add (pre ++ vb 0) (vb r1)
              clear fe FN
              go_wp2_with fail
              with_reducible refine V2.mono ?_
              rintro e w4 ⟨rfl, k4⟩
              clear V2
              have B4 := Hid.intro (B2.out.trans (k4.mono B2.out.size))
              clear k4
              go_wp2_with fail
              go_roundw
              case rel => exact ⟨p, pre ++ (vb 0 ++ vb r1), by omega, rfl, rfl, by rw [← er1.out]; exact FE.out, by rw [List.length_append, List.length_append]; have := HP.out; omega, B4.out⟩
              case measure => simp [intOf]; have := HP.out; omega
          · have FN := fin (by
              rcases Nat.lt_or_ge k (zrow (L.drop i)) with h | h
              · have := HZ1.out; omega
              · omega)
            clear k3 fin hp
            obtain ⟨fk, fp, fe⟩ := FN.out
            have FE := Hid.intro fe
            obtain ⟨r1, hr1⟩ : ∃ r1 : Nat, (k : Int) - 1 = (r1 : Int) := ⟨k - 1, by omega⟩
            have er1 : Hid (k - 1 = r1) := by show _ = _; omega
            have V2 := refPut_any r1 (by omega) wr
            have hvl1 := vb_len r1
            have sz2 : (bs (pre ++ vb 0)).size + (bs (vb r1)).size ≤ 9223372036854775807 := by rw [size_bs, size_bs, List.length_append]; omega
            have ba2 := bs_add (pre ++ vb 0) (vb r1)
            clear fe FN
            go_wp2_with fail
            with_reducible refine V2.mono ?_
            rintro e w4 ⟨rfl, k4⟩
            clear V2
            have B4 := Hid.intro (B2.out.trans (k4.mono B2.out.size))
            clear k4
            go_wp2_with fail
            go_roundw
            case rel => exact ⟨p, pre ++ (vb 0 ++ vb r1), by omega, rfl, rfl, by rw [← er1.out]; exact FE.out, by rw [List.length_append, List.length_append]; have := HP.out; omega, B4.out⟩
            case measure => simp [intOf]; have := HP.out; omega
    · obtain rfl : i = n := by omega
      have e : pre = encN L := by rw [d1, ← HL.out, List.drop_length, encN_nil, List.append_nil]
      subst e
      clear d1
      go_wp2_with fail
      go_ret
      exact ⟨rfl, d3⟩
end Go.Proofs.Ytplalkhjjndffaa
