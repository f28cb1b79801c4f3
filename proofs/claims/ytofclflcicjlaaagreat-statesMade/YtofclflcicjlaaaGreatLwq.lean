/-
  The document's example; what the laws of parts by states stand on; the document's example.
-/
import Derived.Test.YtofclflcicjlaaaGreatTt
import Derived.Test.YtofclflcicjlaaaGreatSc
import Derived.Test.YtofclflcicjlaaaGreatGqq
import Derived.Test.YtofclflcicjlaaaGreatPtq
import Derived.Test.YtofclflcicjlaaaGreatPuh
import Derived.Deep.QuietTactic
import Derived.Deep.RegionWith
import Derived.OwnWalk
import Derived.BigQuiet
import Derived.Deep.RegionHeld3
import Derived.WalkKit
import Derived.ProofKit
import Derived.OpenShut
import Derived.ChangeOld
import Derived.Below
namespace Go.Proofs.YtofclflcicjlaaaGreat
open Go.ChangeShapes Go.WideShapes Go.ChangeAt Go.RowKit
open Go.ChangeMaps (open_string shut_string)
set_option maxRecDepth 100000

def oneF (k v : Nat) : List Int := ((List.replicate 65 0).set k v).map Int.ofNat
set_option linter.unusedVariables false
theorem ok_facts {L : List Nat} {ps : List (Int × Int)} (hf : ∀ p ∈ ps, 0 ≤ p.2 ∧ p.2 ≤ 18446744073709551615) (h : ps.all (okPS L) = true) :
    (∀ p ∈ ps.map toNP, 0 < g L p.1) ∧ (∀ p ∈ ps.map toNP, p.2 < 2 ^ (p.1 - 1)) ∧ (ps.map toNP).map toIP = ps := by
  have H := fun p hp => okPS_is (c := p.1) (r := p.2) (hf p hp).1 (List.all_eq_true.1 h p hp)
  refine ⟨fun p hp => ?_, fun p hp => ?_, ?_⟩
  · obtain ⟨⟨c, r⟩, hm, rfl⟩ := List.mem_map.1 hp
    obtain ⟨q, v, e1, e2, -, h3, -⟩ := H _ hm
    subst e1
    exact h3
  · obtain ⟨⟨c, r⟩, hm, rfl⟩ := List.mem_map.1 hp
    obtain ⟨q, v, e1, e2, -, -, h3, -⟩ := H _ hm
    subst e1
    subst e2
    exact h3
  · rw [List.map_map]
    conv => rhs; rw [← List.map_id ps]
    refine List.map_congr_left (fun p hp => ?_)
    obtain ⟨⟩ := p
    rename_i c r
    obtain ⟨q, v, e1, e2, -⟩ := H (c, r) hp
    subst e1
    subst e2
    rfl
theorem putS_yes {f : List Int} {z : Int} {ps : List (Int × Int)} (hm : may z f = true) (h : ps.all (okPS (f.map Int.toNat)) = true) : putS f z ps = (0, putB z.toNat (f.map Int.toNat) (spr z.toNat (f.map Int.toNat)) (ps.map toNP)) := by
  unfold putS; rw [if_pos hm, if_pos h]
theorem putS_arg {f : List Int} {z : Int} {ps : List (Int × Int)} (hm : may z f = true) (h : ps.all (okPS (f.map Int.toNat)) = false) : putS f z ps = (1, []) := by
  unfold putS; rw [if_pos hm, if_neg (by rw [h]; decide)]
theorem putS_form {f : List Int} {z : Int} {ps : List (Int × Int)} (hm : may z f = false) : putS f z ps = (3, []) := by
  unfold putS; rw [if_neg (by rw [hm]; decide)]
theorem getS_in {f : List Int} {z : Int} (hm : may z f = true) (l : List UInt8) (n : Nat) (hn : n ≤ 4096) : getS f z l (n : Int) = getB z.toNat (f.map Int.toNat) (spr z.toNat (f.map Int.toNat)) l n := by
  unfold getS; rw [if_pos hm, if_neg (by omega), Int.toNat_natCast]
theorem getS_out {f : List Int} {z : Int} (hm : may z f = true) (l : List UInt8) (n : Int) (hn : n < 0 ∨ 4096 < n) : getS f z l n = (1, []) := by
  unfold getS; rw [if_pos hm, if_pos hn]
theorem may_sp {f : List Int} {z : Int} (hm : may z f = true) : Spd z.toNat (f.map Int.toNat) (spr z.toNat (f.map Int.toNat)) := by
  obtain ⟨k, L, rfl, rfl, e3, e4, sp⟩ := may_spd hm
  rw [e3, e4]; exact sp
theorem getS_back {f : List Int} {z : Int} {ps : List (Int × Int)} (hf : ∀ p ∈ ps, 0 ≤ p.2 ∧ p.2 ≤ 18446744073709551615) (hm : may z f = true) (h : ps.all (okPS (f.map Int.toNat)) = true) (hn : ps.length ≤ 4096) : getS f z (putS f z ps).2 (ps.length : Int) = (0, ps.map toNP) := by
  obtain ⟨h1, h2, -⟩ := ok_facts hf h
  rw [putS_yes hm h, getS_in hm _ _ hn]
  have := getB_back (may_sp hm) (ps.map toNP) h1 h2 (by rw [List.length_map]; exact hn)
  rw [List.length_map] at this
  exact this
theorem getS_more {f : List Int} {z : Int} {ps : List (Int × Int)} (hf : ∀ p ∈ ps, 0 ≤ p.2 ∧ p.2 ≤ 18446744073709551615) (hm : may z f = true) (h : ps.all (okPS (f.map Int.toNat)) = true) (hn : ps.length ≤ 4096) : getS f z ((putS f z ps).2 ++ [0]) (ps.length : Int) = (3, []) := by
  obtain ⟨h1, h2, -⟩ := ok_facts hf h
  rw [putS_yes hm h, getS_in hm _ _ hn]
  have := getB_more (may_sp hm) (ps.map toNP) h1 h2 (by rw [List.length_map]; exact hn)
  rw [List.length_map] at this
  exact this
theorem getS_cut {f : List Int} {z : Int} {ps : List (Int × Int)} (hf : ∀ p ∈ ps, 0 ≤ p.2 ∧ p.2 ≤ 18446744073709551615) (hm : may z f = true) (h : ps.all (okPS (f.map Int.toNat)) = true) (hn : ps.length ≤ 4096) (m : Nat) (hk : m < (putS f z ps).2.length) : getS f z ((putS f z ps).2.take m) (ps.length : Int) = (3, []) := by
  obtain ⟨h1, h2, -⟩ := ok_facts hf h
  rw [putS_yes hm h] at hk ⊢
  rw [getS_in hm _ _ hn]
  have := getB_cut (may_sp hm) (ps.map toNP) h1 (by rw [List.length_map]; exact hn) m hk
  rw [List.length_map] at this
  exact this
theorem putB_none (K : Nat) (L cs : List Nat) (h7 : 7 ≤ K) (h12 : K ≤ 12) : putB K L cs [] = if K = 7 then [1, 128] else [2, 0, UInt8.ofNat (2 ^ (K - 8))] := by
  obtain h | h | h | h | h | h : K = 7 ∨ K = 8 ∨ K = 9 ∨ K = 10 ∨ K = 11 ∨ K = 12 := by omega
  all_goals (subst h; rw [show ∀ K, putB K L cs [] = putB K [] [] [] from fun _ => rfl]; decide +kernel)
theorem len_size (l : List UInt8) : (bs l).size = l.length := size_bs l
theorem aw_may : may 7 (oneF 0 128) = true := by decide +kernel
set_option maxRecDepth 100000 in
set_option maxHeartbeats 2000000 in
theorem st_awake (w : World) : Calls Tryz.prog 5 #[] w fun e w' => e = .returned (.bool true) ∧ Below w.heap.size w w' := by
  have mk := make_ints 23 3 Tryz.underlying23 info3 65 (by omega) w
  rw [show ((65 : Nat) : Int) = 65 from rfl] at mk
  have om := own_made_ints w 3 65 (by omega)
  have b1 : Below w.heap.size w (w.alloc (.cells (madeCells #[.int .i64 0] 65) 3)) := (Below.refl _ _).alloc (Nat.le_refl _) _
  generalize w.alloc (.cells (madeCells #[.int .i64 0] 65) 3) = w1 at *
  have ct := own_there om 0 (by omega)
  have o2 := own_set om 0 (.int .i64 ((128 : Nat) : Int))
  rw [ivs_set] at o2
  have e1 : (List.replicate 65 (0 : Int)).set 0 ((128 : Nat) : Int) = oneF 0 128 := by decide +kernel
  rw [e1] at o2
  have b2 : Below w.heap.size w (w1.setCell ⟨w.heap.size, 0, none⟩ (.int .i64 ((128 : Nat) : Int))) := b1.setCell (p := ⟨w.heap.size, 0, none⟩) (Nat.le_refl _) _
  have f9 := ct.2.2
  obtain ⟨u9, c9⟩ := Option.isSome_iff_exists.1 ct.2.1
  have RI2 := own_ri' o2
  rw [show ((128 : Nat) : Int) = 128 from rfl] at RI2 b2
  clear om ct b1 o2 e1
  have PS : putS (oneF 0 128) 7 [] = (0, [1, 128]) := by
    rw [putS_yes aw_may (by rfl)]
    show (0, putB 7 _ _ []) = _
    rw [putB_none 7 _ _ (by omega) (by omega), if_pos rfl]
  have GS : getS (oneF 0 128) 7 [1, 128] ((0 : Nat) : Int) = (0, []) := by
    have := getS_back (f := oneF 0 128) (z := 7) (ps := []) (by simp) aw_may (by rfl) (by simp)
    rw [PS] at this
    exact this
  have PT := fun W (hW : RI W (some ⟨w.heap.size, 0, none⟩) 65 (oneF 0 128)) => sput_any none 0 0 [] (some ⟨w.heap.size, 0, none⟩) 65 65 (oneF 0 128) 7 W ⟨rfl, fun h => absurd h (by omega)⟩ (by simp) (by omega) (by omega) hW (by omega)
  rw [PS] at PT
  have GT := fun W (hW : RI W (some ⟨w.heap.size, 0, none⟩) 65 (oneF 0 128)) => sget_any (bs [1, 128]) 0 (some ⟨w.heap.size, 0, none⟩) 65 65 (oneF 0 128) 7 W (by decide) hW (by omega)
  rw [bs_data, show (0 : Int) = ((0 : Nat) : Int) from rfl, GS] at GT
  have be : bs [1, 128] = ⟨#[1, 128]⟩ := rfl
  rw [be] at PT GT
  have PT1 := PT _ RI2
  have GT2 : Aside (∀ W, Below (w1.setCell ⟨w.heap.size, 0, none⟩ (.int .i64 128)).heap.size (w1.setCell ⟨w.heap.size, 0, none⟩ (.int .i64 128)) W → _) := fun W hW => GT W (ri_below RI2 hW)
  have B2 := Hid.intro b2
  clear PT GT RI2 b2 PS GS
  go_enter Tryz.func5, Tryz.ntmps5
  go_wp2_with fail
  generalize w1.setCell ⟨w.heap.size, 0, none⟩ (.int .i64 128) = w2 at *
  with_reducible refine PT1.mono ?_
  rintro e w3 ⟨rfl, h3⟩
  have GT3 := GT2.out w3 h3
  have B3 := Hid.intro (B2.out.trans (h3.mono B2.out.size))
  rw [show ((0 : Nat) : Int) = 0 from rfl] at GT3
  clear PT1 GT2 h3 c9 f9 mk
  go_wp2_with fail
  with_reducible refine GT3.mono ?_
  rintro e w4 ⟨v, rfl, o4, h4⟩
  obtain ⟨av, cv, rfl, -, -, -⟩ := own_rp o4
  have B4 := Hid.intro (B3.out.trans (h4.mono B3.out.size))
  clear GT3 o4 h4
  go_wp2_with (first | (go_at_call 10; with_reducible refine (err_i _ _).mono ?_; rintro e w5 ⟨rfl, rfl⟩))
  go_ret
  exact ⟨rfl, B4.out⟩
theorem not_full {K : Nat} {L cs : List Nat} (h : Spd K L cs) (h2 : 0 < g L 2) (hn : g L 2 ≠ 2 ^ K) (c : Nat) : g L c < 2 ^ K := by
  have hle := spd_le h c
  rcases Nat.lt_or_ge (g L c) (2 ^ K) with e | e
  · exact e
  · exfalso
    have hc : cs.count c = cs.length := by rw [h.cnt, h.all]; omega
    have hall := List.count_eq_length.1 hc
    have h2' : 0 < cs.count 2 := by rw [h.cnt]; exact h2
    have := hall 2 (List.count_pos_iff.1 h2')
    subst this
    omega
end Go.Proofs.YtofclflcicjlaaaGreat
