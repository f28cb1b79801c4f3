/-
  Parts of numbers can be told by counts whose classes they have.
-/
import Derived.Test.YtofclflcicjlaaaLwq
import Derived.Test.YtofclflcicjlaaaC2
import Derived.Test.YtofclflcicjlaaaEmq
import Derived.WalkKit
import Derived.ProofKit
import Derived.OpenShut
import Derived.Deep.QuietTactic
import Derived.Deep.RegionWith
import Derived.Deep.RegionHeld3
import Derived.OwnWalk
import Derived.ChangeOld
import Derived.Below
import Derived.BigQuiet
namespace Go.Proofs.Ytofclflcicjlaaa
open Go.ChangeShapes Go.WideShapes Go.ChangeAt Go.RowKit
open Go.ChangeMaps (open_string shut_string)
set_option linter.unusedVariables false
theorem spl_ok {z : Int} (h1 : -9223372036854775808 ≤ z) (h2 : z ≤ 9223372036854775807) : jok (spl z).1 (spl z).2 = true ∧ (0 ≤ (spl z).2 ∧ (spl z).2 ≤ 18446744073709551615) ∧ 0 ≤ (spl z).1 ∧ (spl z).1 ≤ 64 := by
  have zb := zmap_bd z h1 h2
  unfold spl
  simp only
  generalize zmap z = u at *
  by_cases h0 : u = 0
  · subst h0
    refine ⟨by decide, by decide, by decide, by decide⟩
  · obtain ⟨b1, b2, b3, b4⟩ := blen_spec u (by omega) zb.2
    have hp := hi_pos (blen u)
    refine ⟨?_, ?_, by omega, b2⟩
    · unfold jok srest
      rw [if_neg (by omega), if_neg h0, decide_eq_true_eq]
      omega
    · unfold srest; rw [if_neg h0]; omega
theorem fr_set (l : List Int) (i j : Nat) (v : Int) (h : i < l.length) : fr (l.set i v) j = if j = i then v else fr l j := by
  unfold fr
  rw [List.getD_eq_getElem?_getD, List.getD_eq_getElem?_getD]
  by_cases e : j = i
  · subst e; rw [if_pos rfl, List.getElem?_set_self h]; rfl
  · rw [if_neg e, List.getElem?_set_ne (Ne.symm e)]
theorem cnt_fr (ps : List (Int × Int)) (c : Nat) (h : c < 65) : fr (cnt ps) c = (clp ps c : Int) := by
  unfold fr; rw [List.getD_eq_getElem?_getD, cnt_at ps c h]; rfl
theorem cnt_bd (ps : List (Int × Int)) : ∀ x ∈ cnt ps, 0 ≤ x ∧ x ≤ ps.length := by
  intro x hx
  obtain ⟨c, hc⟩ := List.mem_iff_getElem?.1 hx
  have hl := (List.getElem?_eq_some_iff.1 hc).1
  rw [cnt_len] at hl
  rw [cnt_at ps c hl] at hc
  have := Option.some.inj hc
  have := clp_le ps c
  omega
theorem clp_pos {ps : List (Int × Int)} {p : Int × Int} {c : Nat} (h : p ∈ ps) (hc : p.1 = (c : Int)) : 0 < clp ps c := by
  unfold clp
  exact List.countP_pos_iff.2 ⟨p, h, by simp [hc]⟩
theorem norm_pos {F : List Int} {z : Int} (h1 : F.length = 65) (h2 : ∀ x ∈ F, 0 ≤ x ∧ x ≤ 16777216) (h3 : 0 < F.sum) (h4 : 7 ≤ z ∧ z ≤ 12) :
    ∃ M, normA F z = (0, M) ∧ M.length = 65 ∧ may z (M.map Int.ofNat) = true ∧ ∀ i, 0 < g M i ↔ 0 < fr F i := by
  obtain ⟨M, hM, m1, m2, -⟩ := norm_is h1 h2 h3 h4
  rcases norm_cases F z with h | ⟨M', e1, -, -, -, -, e6, -⟩
  · rw [hM] at h; exact absurd (Prod.mk.inj h).1 (by decide)
  · rw [hM] at e1
    obtain rfl := (Prod.mk.inj e1).2
    exact ⟨M, hM, m1, m2, e6⟩
/-- Parts of numbers, by numbers whose classes have some. -/
theorem parts_ok {zs : List Int} {M : List Nat} {F : List Int} (hz : FI zs) (h6 : ∀ i, 0 < g M i ↔ 0 < fr F i) (hF : ∀ c, c < 65 → 0 < clp (zs.map spl) c → 0 < fr F c) :
    (zs.map spl).all (okPS M) = true ∧ ∀ p ∈ zs.map spl, 0 ≤ p.2 ∧ p.2 ≤ 18446744073709551615 := by
  refine ⟨?_, fun p hp => ?_⟩
  · rw [List.all_eq_true]
    intro p hp
    obtain ⟨z, hzm, rfl⟩ := List.mem_map.1 hp
    obtain ⟨j1, -, j3, j4⟩ := spl_ok (hz z hzm).1 (hz z hzm).2
    unfold okPS
    rw [j1, Bool.true_and, decide_eq_true_eq, h6]
    exact hF _ (by omega) (clp_pos hp (by omega))
  · obtain ⟨z, hzm, rfl⟩ := List.mem_map.1 hp
    exact (spl_ok (hz z hzm).1 (hz z hzm).2).2.1
theorem getS_cutn {f : List Int} {z : Int} {ps : List (Int × Int)} {n : Nat} (hn : ps.length = n) (hf : ∀ p ∈ ps, 0 ≤ p.2 ∧ p.2 ≤ 18446744073709551615) (hm : may z f = true) (h : ps.all (okPS (f.map Int.toNat)) = true) (hk : n ≤ 4096) (m : Nat) (hm2 : m < (putS f z ps).2.length) : getS f z ((putS f z ps).2.take m) (n : Int) = (3, []) := by
  rw [← hn]; exact getS_cut hf hm h (by omega) m hm2
theorem put_len (K : Nat) (L cs : List Nat) (P : List (Nat × Nat)) : 2 ≤ (putB K L cs P).length := by
  have hT : 1 ≤ (tailB K L cs P).length := by unfold tailB; rw [byt_len]; omega
  unfold putB
  rw [List.length_append, List.length_append]
  have := (vb_len (tailB K L cs P).length).1
  omega
theorem put_size {K : Nat} {L cs : List Nat} (h : Spd K L cs) (P : List (Nat × Nat)) (hP : ∀ p ∈ P, 0 < g L p.1) (hn : P.length ≤ 60) (hc : ∀ p ∈ P, p.1 ≤ 64) : (putB K L cs P).length ≤ 10000 := by
  have h1 := tail_small h P hP (by omega)
  unfold putB
  rw [List.length_append, List.length_append]
  have h2 := (vb_len (tailB K L cs P).length).2
  have h3 : (restB P).length ≤ 600 := by
    unfold restB
    rw [byt_len]
    have : szs (vK (rstV P)) P.length ≤ 64 * P.length := szs_bd (B := 64) (fun i => vK_bd (V := rstV P) (B := 64) (fun v hv => by
      obtain ⟨p, hp, rfl⟩ := List.mem_map.1 hv
      have := hc p hp
      show p.1 - 1 ≤ 64; omega) i) P.length
    unfold byc; omega
  omega
end Go.Proofs.Ytofclflcicjlaaa
