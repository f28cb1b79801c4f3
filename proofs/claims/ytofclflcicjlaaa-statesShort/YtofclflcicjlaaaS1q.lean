/-
  Of one class alone: how many bytes.
-/
import Derived.Test.YtofclflcicjlaaaLaq
import Derived.WalkKit
import Derived.ProofKit
import Derived.OpenShut
import Derived.Deep.QuietTactic
import Derived.Deep.RegionWith
import Derived.Deep.RegionHeld3
import Derived.OwnWalk
import Derived.ChangeOld
import Derived.Below
import Derived.BigQuiet
namespace Go.Proofs.Ytofclflcicjlaaa
open Go.ChangeShapes Go.WideShapes Go.ChangeAt Go.RowKit
open Go.ChangeMaps (open_string shut_string)
set_option linter.unusedVariables false
theorem one_bits {K : Nat} {L cs : List Nat} {c p : Nat} (h : Spd K L cs) (hg : g L c = 2 ^ K) (hp : p < 2 ^ K) (hc : g cs p = c) : (cel K L cs p).2.1 = 0 := by
  obtain ⟨x1, x2, x3, x4⟩ := xat_bd h p (by rw [h.all]; exact hp)
  rw [hc, hg] at x1
  show bts K (xat L cs p) = 0
  exact bts_of K 0 _ (Nat.zero_le _) x1 x4
theorem one_vls {K : Nat} {L cs : List Nat} {c : Nat} (h : Spd K L cs) (hg : g L c = 2 ^ K) : ∀ n, ∀ v ∈ vls K L cs (List.replicate n c), v.2 = 0 := by
  have hpos : 0 < g L c := by rw [hg]; exact Nat.two_pow_pos K
  intro n
  induction n with
  | zero => intro v hv; simp [vls] at hv
  | succ n ih =>
    intro v hv
    rw [List.replicate_succ] at hv
    simp only [vls] at hv
    rcases List.mem_append.1 hv with e | e
    · exact ih v e
    · rw [List.mem_singleton] at e
      subst e
      have hx := sts_lt h (List.replicate n c) (fun d hd => by rw [(List.mem_replicate.1 hd).2]; exact hpos)
      obtain ⟨f1, f2, -⟩ := fnd_is h hpos hx
      unfold hits at f2
      simp only [Bool.and_eq_true, decide_eq_true_eq, and_assoc] at f2
      exact one_bits h hg f1 f2.1
theorem szs_zero {k : Nat → Nat} : ∀ m, (∀ i, i < m → k i = 0) → szs k m = 0 := by
  intro m
  induction m with
  | zero => intro _; rfl
  | succ m ih => intro h; rw [szs, ih (fun i hi => h i (by omega)), h m (by omega)]
theorem szs_same {k : Nat → Nat} {d : Nat} : ∀ m, (∀ i, i < m → k i = d) → szs k m = m * d := by
  intro m
  induction m with
  | zero => intro _; simp [szs]
  | succ m ih => intro h; rw [szs, ih (fun i hi => h i (by omega)), h m (by omega), Nat.succ_mul]
theorem vK_at (V : List (Nat × Nat)) (i d : Nat) (h : ∀ v ∈ V, v.2 = d) (hi : i < V.length) : vK V i = d := by
  unfold vK
  rw [List.getD_eq_getElem?_getD, List.getElem?_eq_getElem hi]
  exact h _ (List.getElem_mem hi)
/-- How many bytes parts of one class alone have. -/
theorem one_len {K : Nat} {L cs : List Nat} {c n : Nat} (h : Spd K L cs) (hg : g L c = 2 ^ K) : (putB K L cs (List.replicate n (c, 0))).length = 1 + K / 8 + 1 + (n * (c - 1) + 7) / 8 := by
  have e1 : (List.replicate n (c, 0)).map Prod.fst = List.replicate n c := by rw [List.map_replicate]
  have hv := one_vls h hg n
  have hl : (vls K L cs (List.replicate n c)).length = n := by rw [vls_len, List.length_replicate]
  have hsz : szs (vK (allV K L cs (List.replicate n c))) (n + 1) = K := by
    have a1 := all_last K L cs (List.replicate n c)
    rw [List.length_replicate] at a1
    rw [szs, a1.2, szs_zero n (fun i hi => ?_), Nat.zero_add]
    have := all_at (K := K) (L := L) (cs := cs) (List.replicate n c) 0 (Nat.zero_le _) i (by rw [List.drop_zero, List.length_replicate]; exact hi)
    rw [List.drop_zero] at this
    unfold vK
    rw [this]
    exact vK_at _ i 0 hv (by rw [hl]; exact hi)
  have ht : (tailB K L cs (List.replicate n (c, 0))).length = K / 8 + 1 := by
    unfold tailB
    rw [byt_len, e1, List.length_replicate, hsz]
  have hr : (restB (List.replicate n (c, 0))).length = (n * (c - 1) + 7) / 8 := by
    unfold restB
    rw [byt_len, List.length_replicate]
    have : szs (vK (rstV (List.replicate n (c, 0)))) n = n * (c - 1) := szs_same n (fun i hi => vK_at _ i _ (fun v hv => by
      obtain ⟨p, hp, rfl⟩ := List.mem_map.1 hv
      rw [(List.mem_replicate.1 hp).2]) (by unfold rstV; rw [List.length_map, List.length_replicate]; exact hi))
    rw [this]; rfl
  have hk := h.k12
  unfold putB
  rw [List.length_append, List.length_append, ht, hr]
  have hv1 : (vb (K / 8 + 1)).length = 1 := by
    obtain e | e : K / 8 + 1 = 1 ∨ K / 8 + 1 = 2 := by omega
    · rw [e]; decide +kernel
    · rw [e]; decide +kernel
  rw [hv1]; omega
theorem may_one : ∀ (c : Fin 65) (k : Fin 6), may ((k.val + 7 : Nat) : Int) (oneF c.val (2 ^ (k.val + 7))) = true := by decide +kernel
theorem one_ok {L : List Nat} {c : Nat} (hc : c < 65) (hg : 0 < g L c) (n : Nat) : (List.replicate n ((c : Int), (0 : Int))).all (okPS L) = true := by
  rw [List.all_eq_true]
  intro p hp
  rw [(List.mem_replicate.1 hp).2]
  unfold okPS
  have : jok (c : Int) 0 = true := by
    unfold jok
    split
    · rfl
    · rw [decide_eq_true_eq]; exact ⟨by omega, by omega, hi_pos _⟩
  rw [this]; simp [hg]
theorem ri_take {W : World} {a : Option Addr} {n m : Nat} {zs : List Int} (h : RI W a n zs) (hm : m ≤ n) (h0 : 0 < m) : RI W a m (zs.take m) := by
  obtain ⟨h1, h2⟩ := h
  refine ⟨by rw [List.length_take]; omega, fun hn => ?_⟩
  obtain ⟨x, e, hx⟩ := h2 (by omega)
  refine ⟨x, e, fun i hi => ?_⟩
  have hi' := hi
  rw [List.length_take] at hi'
  have := hx i (by omega)
  simpa using this
theorem may_65 {f : List Int} {z : Int} (h : f.length ≠ 65) : may z f = false := by
  cases hm : may z f with
  | false => rfl
  | true =>
    obtain ⟨k, L, rfl, rfl, -, -, sp⟩ := may_spd hm
    exact absurd (by rw [List.length_map]; exact sp.len) h
end Go.Proofs.Ytofclflcicjlaaa
