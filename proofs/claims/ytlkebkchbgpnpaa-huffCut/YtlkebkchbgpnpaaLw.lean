/-
  What lengths make of the parts of numbers.
-/
import Derived.Test.YtlkebkchbgpnpaaNb
import Derived.Test.YtlkebkchbgpnpaaHu
import Derived.Test.YtlkebkchbgpnpaaRpy
import Derived.Test.YtlkebkchbgpnpaaMd
import Derived.Test.YtlkebkchbgpnpaaKw
namespace Go.Proofs.Ytlkebkchbgpnpaa
open Go.ChangeShapes Go.WideShapes Go.ChangeAt Go.RowKit
open Go.ChangeMaps (open_string shut_string)

/-- The parts of numbers are ones that may be. -/
theorem spl_ok (z : Int) (h : -9223372036854775808 ≤ z ∧ z ≤ 9223372036854775807) : ∃ c r : Nat, spl z = ((c : Int), (r : Int)) ∧ c < 65 ∧ r < 2 ^ (c - 1) ∧ r < 18446744073709551616 := by
  have hz := zmap_bd z h.1 h.2
  by_cases h0 : zmap z = 0
  · refine ⟨0, 0, ?_, by omega, by decide, by omega⟩
    unfold spl srest
    rw [h0, if_pos rfl, blen_zero]; rfl
  · obtain ⟨h1, h2, h3, h4⟩ := blen_spec (zmap z) (by omega) hz.2
    have hp := hi_pos (blen (zmap z))
    obtain ⟨c, hc⟩ := Int.eq_ofNat_of_zero_le (show 0 ≤ blen (zmap z) by omega)
    have hhi : hi (blen (zmap z)) = ((2 ^ (c - 1) : Nat) : Int) := by
      unfold hi
      rw [hc, Int.toNat_natCast]; simp
    refine ⟨c, (zmap z - hi (blen (zmap z))).toNat, ?_, by omega, by omega, by omega⟩
    unfold spl srest
    rw [if_neg h0, hc, Int.toNat_of_nonneg (by rw [← hc]; omega)]
theorem toI_toN (zs : List Int) (hf : FI zs) : ((zs.map spl).map toN).map toI = zs.map spl := by
  rw [List.map_map]
  conv => rhs; rw [← List.map_id (zs.map spl)]
  apply List.map_congr_left
  intro p hp
  obtain ⟨z, hz, rfl⟩ := List.mem_map.1 hp
  obtain ⟨c, r, e, _⟩ := spl_ok z (hf z hz)
  rw [e]; simp [toN, toI]
theorem fp_spl (zs : List Int) (hf : FI zs) : ∀ p ∈ zs.map spl, 0 ≤ p.2 ∧ p.2 ≤ 18446744073709551615 := by
  intro p hp
  obtain ⟨z, hz, rfl⟩ := List.mem_map.1 hp
  obtain ⟨c, r, e, _, _, h⟩ := spl_ok z (hf z hz)
  rw [e]; simp only; omega
theorem cls_spl (zs : List Int) (hf : FI zs) : ∀ p ∈ zs.map spl, ∃ c : Nat, p.1 = (c : Int) ∧ c < 65 := by
  intro p hp
  obtain ⟨z, hz, rfl⟩ := List.mem_map.1 hp
  obtain ⟨c, r, e, h, _⟩ := spl_ok z (hf z hz)
  exact ⟨c, by rw [e], h⟩
/-- All may be put, where all classes that come have a length. -/
theorem all_ok (L : List Nat) (zs : List Int) (hf : FI zs) (hc : ∀ p ∈ zs.map spl, 0 < at0 L p.1.toNat) : (zs.map spl).all (okPB L) = true ∧ ∀ p ∈ (zs.map spl).map toN, okP (codeB L) p := by
  constructor
  · rw [List.all_eq_true]
    intro p hp
    have h0 := hc p hp
    obtain ⟨z, hz, rfl⟩ := List.mem_map.1 hp
    obtain ⟨c, r, e, h1, h2, _⟩ := spl_ok z (hf z hz)
    rw [e] at h0 ⊢
    unfold okPB
    simp only [Int.toNat_natCast] at h0 ⊢
    rw [decide_eq_true (show (0 : Int) ≤ (c : Int) by omega), decide_eq_true (show (c : Int) < 65 by omega), decide_eq_true h0, decide_eq_true (show (r : Int) < 2 ^ (c - 1) by exact_mod_cast h2)]
    rfl
  · intro q hq
    obtain ⟨p, hp, rfl⟩ := List.mem_map.1 hq
    have h0 := hc p hp
    obtain ⟨z, hz, rfl⟩ := List.mem_map.1 hp
    obtain ⟨c, r, e, h1, h2, _⟩ := spl_ok z (hf z hz)
    rw [e] at h0 ⊢
    unfold toN okP
    simp only [Int.toNat_natCast] at h0 ⊢
    exact ⟨h1, (codeB_ne L c).2 h0, h2⟩
theorem codeB_lt' (L : List Nat) : ∀ c, ∀ x ∈ codeB L c, x < 2 := fun c => codeB_lt L c
/-- What lengths that may be make of parts: their bytes, these told again, with more behind, cut, none of them. -/
theorem said_all (L : List Nat) (zs : List Int) (hf : FI zs) (hm : mayL (L.map Int.ofNat) = true) (hl : zs.length ≤ 4096) (hc : ∀ p ∈ zs.map spl, 0 < at0 L p.1.toNat) :
    putH (L.map Int.ofNat) (zs.map spl) = (0, hput (codeB L) ((zs.map spl).map toN)) ∧
    getH (L.map Int.ofNat) (hput (codeB L) ((zs.map spl).map toN)) zs.length = (0, (zs.map spl).map toN) ∧
    (∀ u, u ≠ [] → getH (L.map Int.ofNat) (hput (codeB L) ((zs.map spl).map toN) ++ u) zs.length = (3, [])) ∧
    (∀ j, j < (hput (codeB L) ((zs.map spl).map toN)).length → getH (L.map Int.ofNat) ((hput (codeB L) ((zs.map spl).map toN)).take j) zs.length = (2, [])) ∧
    (hput (codeB L) ((zs.map spl).map toN)).length = (bitn (codeB L) ((zs.map spl).map toN) + 7) / 8 := by
  obtain ⟨m1, m2, m3⟩ := mayL_yes hm
  rw [nat_of] at m3
  have hb : ∀ c, at0 L c ≤ 15 := fun c => by have := nat_bd _ m2 c; rw [nat_of] at this; exact this
  have pf := codeB_pf hb (ok_sum m3)
  obtain ⟨a1, a2⟩ := all_ok L zs hf hc
  have hlen : ((zs.map spl).map toN).length = zs.length := by simp
  have gg : ∀ s, getH (L.map Int.ofNat) s zs.length = hget (codeB L) s zs.length := fun s => by
    unfold getH
    rw [if_neg (by rw [hm]; decide), if_neg (by omega), nat_of, Int.toNat_natCast]
  refine ⟨?_, ?_, fun u hu => ?_, fun j hj => ?_, hput_len _ _⟩
  · unfold putH
    rw [if_neg (by rw [hm]; decide), nat_of, if_pos a1]
  · rw [gg, ← hlen, hget_put pf (codeB_lt' L) _ a2]
  · rw [gg, ← hlen, hget_more pf (codeB_lt' L) _ a2 u hu]
  · rw [gg, ← hlen, hget_cut pf (codeB_lt' L) _ a2 j hj]
theorem may_of2 {F : List Int} (hF : ∀ z ∈ F, (0 : Int) ≤ z ∧ z ≤ 16777216) (k : Nat) (h7 : 7 ≤ k) (h15 : k ≤ 15) : mayB F 65 (k : Int) = true := by
  have h : F.any badz = false := by
    rw [List.any_eq_false]
    intro z hz
    have := hF z hz
    unfold badz; simp; omega
  unfold mayB
  rw [h]
  simp; omega
theorem mem_len (l : List Int) (c : Nat) (h : 0 < fr l c) : c < l.length := by
  rcases Nat.lt_or_ge c l.length with g | g
  · exact g
  · unfold fr at h; rw [List.getD_eq_getElem?_getD, List.getElem?_eq_none g] at h; simp at h
end Go.Proofs.Ytlkebkchbgpnpaa
