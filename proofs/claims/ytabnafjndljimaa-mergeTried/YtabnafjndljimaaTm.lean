/-
  Of a few classes no lengths that may be cost less, and those that were told are among them.
-/
import Derived.Test.YtabnafjndljimaaPl
namespace Go.Proofs.Ytabnafjndljimaa
open Go.ChangeShapes Go.WideShapes Go.ChangeAt Go.RowKit
open Go.ChangeMaps (open_string shut_string)

/-! ### a few classes: all lengths tried -/
def trp (v : Nat → Nat) (n : Nat) : List (Nat × Int) := (List.range n).map (fun i => (7 * i, ((v i : Nat) : Int)))
theorem trp_succ (v : Nat → Nat) (n : Nat) : trp v (n + 1) = trp v n ++ [(7 * n, ((v n : Nat) : Int))] := by unfold trp; rw [List.range_succ, List.map_append]; rfl
theorem trp_mem (v : Nat → Nat) (n : Nat) (hn : n ≤ 5) (hv : ∀ i, i < n → 0 < v i ∧ v i ≤ 256) : ∀ p ∈ trp v n, p.1 < 65 ∧ 0 < p.2 ∧ p.2 ≤ 256 := by
  intro p hp
  obtain ⟨i, hi, rfl⟩ := List.mem_map.1 hp
  have hi := List.mem_range.1 hi
  have := hv i hi
  exact ⟨by show 7 * i < 65; omega, by show (0 : Int) < (v i : Int); omega, by show (v i : Int) ≤ 256; omega⟩
theorem trp_nodup (v : Nat → Nat) (n : Nat) : ((trp v n).map (·.1)).Nodup := by
  unfold trp
  rw [List.map_map, List.nodup_iff_pairwise_ne, List.pairwise_map]
  refine (List.pairwise_lt_range (n := n)).imp fun {a b} hab => ?_
  show 7 * a ≠ 7 * b
  omega
theorem trp_pos (v : Nat → Nat) (n : Nat) : (trp v n).map (·.1) = (List.range n).map (fun i => 7 * i) := by unfold trp; rw [List.map_map]; rfl
theorem trp_val (v : Nat → Nat) (n : Nat) : (trp v n).map (fun p => p.2.toNat) = (List.range n).map v := by unfold trp; rw [List.map_map]; rfl
def ksum (k : Nat → Nat) (n : Nat) : Nat := ((List.range n).map (fun i => 2 ^ (4 - k i))).sum
def kcst (v k : Nat → Nat) (n : Nat) : Nat := ((List.range n).map (fun i => k i * v i)).sum
theorem kraft_d (h : Nat → Nat) (d N : Nat) (hd : 4 ≤ d) (hb : ∀ x, x < N → h x ≤ 4) : ((List.range N).map (fun x => 2 ^ (d - h x))).sum = 2 ^ (d - 4) * ((List.range N).map (fun x => 2 ^ (4 - h x))).sum := by
  have e2 : ∀ n, n ≤ N → ((List.range n).map (fun x => 2 ^ (d - h x))).sum = 2 ^ (d - 4) * ((List.range n).map (fun x => 2 ^ (4 - h x))).sum := fun n => by
    induction n with
    | zero => intro _; rfl
    | succ n ih =>
      intro hn
      have hb := hb n (by omega)
      rw [List.range_succ, List.map_append, List.sum_append, ih (by omega), List.map_append, List.sum_append, Nat.mul_add]
      simp only [List.map_cons, List.map_nil, List.sum_cons, List.sum_nil, Nat.add_zero]
      rw [← Nat.pow_add, show d - 4 + (4 - h n) = d - h n by omega]
  exact e2 N (Nat.le_refl _)
theorem cw_range (v k : Nat → Nat) : ∀ l : List Nat, cw (l.map (fun i => (v i, k i))) = (l.map (fun i => k i * v i)).sum
  | [] => rfl
  | a :: l => by rw [List.map_cons, cw, cw_range v k l, List.map_cons, List.sum_cons, Nat.mul_comm]
/-- No lengths from 1 to 4 that may be cost less. -/
theorem tried_low {v : Nat → Nat} {n d : Nat} {o r : List Nat} (hn : n ≤ 5) (h2 : 2 ≤ n) (hv : ∀ i, i < n → 0 < v i ∧ v i ≤ 256) (h7 : 7 ≤ d) (ho : Ordered (asg (trp v n)) 65 o) (hr : Ranks (asg (trp v n)) d o r) (k : Nat → Nat) (hk : ∀ i, i < n → 1 ≤ k i ∧ k i ≤ 4) (hs : ksum k n = 16) : ccost (asg (trp v n)) o r ≤ kcst v k n := by
  have h65 : ∀ p ∈ trp v n, p.1 < 65 := fun p hp => (trp_mem v n hn hv p hp).1
  have hp : ∀ p ∈ trp v n, 0 < p.2 := fun p hp => (trp_mem v n hn hv p hp).2.1
  have hnd := trp_nodup v n
  have hol : o.length = n := by rw [(asg_order _ h65 hnd hp o ho).length_eq, trp_pos]; simp
  obtain ⟨ls, c1, c2⟩ := hr.2.2 (by omega)
  have w1 := (chain_wd _ _ _ c1).2.2
  have hl : (cs (asg (trp v n)) o).reverse.length = o.length := by rw [List.length_reverse, cs_len]
  rw [hl] at w1
  rw [c2, ccost_chain w1]
  have hperm : (((List.range n).map (fun i => (v i, k i))).map (·.1)).Perm (cs (asg (trp v n)) o).reverse := by
    refine List.Perm.trans ?_ (List.reverse_perm _).symm
    refine List.Perm.trans ?_ (asg_cs _ h65 hnd hp o ho).symm
    rw [trp_val, List.map_map]
    exact List.Perm.refl _
  have hkr : kr d (((List.range n).map (fun i => (v i, k i))).map (·.2)) = 2 ^ d := by
    unfold kr
    rw [List.map_map, List.map_map]
    have e := kraft_d k d n (by omega) (fun x hx => (hk x hx).2)
    unfold ksum at hs
    rw [hs] at e
    refine Eq.trans e ?_
    have : 2 ^ (d - 4) * 2 ^ 4 = 2 ^ d := by rw [← Nat.pow_add, show d - 4 + 4 = d by omega]
    exact this
  have low := least_of_all (cs_rising ho) ((List.range n).map (fun i => (v i, k i))) hperm (fun p hp => by
    obtain ⟨i, hi, rfl⟩ := List.mem_map.1 hp
    have := hk i (List.mem_range.1 hi)
    exact ⟨this.1, by show k i ≤ d; omega⟩) hkr (by rw [hl]; exact c1)
  rw [cw_range] at low
  exact low
theorem ln_few {s : List Nat} (hr : Rising s) (hp : ∀ x ∈ s, 0 < x) : ∀ (d m : Nat) (ls : List Nat), Chain s d (2 * m) ls → ∀ x, ln ls x ≤ m
  | 0, m, ls, h, x => by rw [h.2]; simp [ln]
  | d + 1, m, ls, h, x => by
    obtain ⟨a, r, rfl, h1, h2⟩ := h
    rw [ln_cons]
    by_cases hm : m = 0
    · subst hm
      have ha := h1.2.1
      have e : 2 * (2 * 0 - a) = 2 * 0 := by omega
      rw [e] at h2
      have := ln_few hr hp d 0 r h2 x
      rw [if_neg (by omega)]; omega
    · have half := half_split hp (half_all s hr hp d) h1 (by omega)
      have e : 2 * (2 * m - a) = 2 * (2 * m - a) := rfl
      have := ln_few hr hp d (2 * m - a) r h2 x
      split <;> omega
/-- The lengths that were told are among those that are tried. -/
theorem tried_there {v : Nat → Nat} {n d : Nat} {o r : List Nat} (hn : n ≤ 5) (h2 : 2 ≤ n) (hv : ∀ i, i < n → 0 < v i ∧ v i ≤ 256) (h7 : 7 ≤ d) (ho : Ordered (asg (trp v n)) 65 o) (hr : Ranks (asg (trp v n)) d o r) :
    (∀ i, i < n → 1 ≤ at0 (put o r) (7 * i) ∧ at0 (put o r) (7 * i) ≤ 4) ∧ ksum (fun i => at0 (put o r) (7 * i)) n = 16 ∧ kcst v (fun i => at0 (put o r) (7 * i)) n = ccost (asg (trp v n)) o r := by
  have h65 : ∀ p ∈ trp v n, p.1 < 65 := fun p hp => (trp_mem v n hn hv p hp).1
  have hp : ∀ p ∈ trp v n, 0 < p.2 := fun p hp => (trp_mem v n hn hv p hp).2.1
  have hnd := trp_nodup v n
  have hperm := asg_order _ h65 hnd hp o ho
  rw [trp_pos] at hperm
  have hol : o.length = n := by rw [hperm.length_eq]; simp
  obtain ⟨ls, c1, c2⟩ := hr.2.2 (by omega)
  have hl : (cs (asg (trp v n)) o).reverse.length = o.length := by rw [List.length_reverse, cs_len]
  obtain ⟨d', rfl⟩ : ∃ d', d = d' + 1 := ⟨d - 1, by omega⟩
  have few := ln_few (cs_rising ho) (cs_pos' ho) (d' + 1) (n - 1) ls (by rw [show 2 * (n - 1) = 2 * o.length - 2 by omega]; exact c1)
  have c1' := c1
  rw [← hl] at c1'
  have cm := chain_may (cs_rising ho) (cs_pos' ho) (by rw [hl]; omega) c1'
  rw [hl] at cm
  have rq : ∀ q, q < o.length → 1 ≤ at0 r q ∧ at0 r q ≤ 4 := fun q hq => by
    rw [c2, vec_at _ _ _ hq]
    have := cm.1 (o.length - 1 - q) (by omega)
    have := few (o.length - 1 - q)
    omega
  have hat : ∀ q, q < o.length → at0 (put o r) (g o q) = at0 r q := fun q hq => by
    have hm := (ordered_mem ho (g o q)).1 (g_mem o q hq)
    have hp := put_at o r q hq hr.1 (ordered_nodup ho) (by rw [← g_eq o q hq]; exact hm.1)
    rw [← g_eq o q hq] at hp; exact hp
  have sums : ∀ (φ : Nat → Nat), ((List.range n).map (fun i => φ (7 * i))).sum = ((List.range o.length).map (fun q => φ (g o q))).sum := fun φ => by
    have e := isum_perm (hperm.map (fun c => ((φ c : Nat) : Int)))
    rw [map_rank, cast_sum, List.map_map] at e
    have e2 := cast_sum (fun i => φ (7 * i)) (List.range n)
    have e3 : ((List.range n).map ((fun c => ((φ c : Nat) : Int)) ∘ fun i => 7 * i)).sum = ((List.range n).map (fun q => ((φ (7 * q) : Nat) : Int))).sum := rfl
    rw [e3, e2] at e
    omega
  refine ⟨fun i hi => ?_, ?_, ?_⟩
  · have hm : 7 * i ∈ o := hperm.mem_iff.2 (List.mem_map.2 ⟨i, List.mem_range.2 hi, rfl⟩)
    obtain ⟨q, hq, e⟩ := List.getElem_of_mem hm
    have := hat q hq
    rw [g_eq o q hq, e] at this
    rw [this]; exact rq q hq
  · unfold ksum
    rw [sums (fun c => 2 ^ (4 - at0 (put o r) c))]
    have e1 : ((List.range o.length).map (fun q => 2 ^ (4 - at0 (put o r) (g o q)))).sum = ((List.range o.length).map (fun x => 2 ^ (4 - ln ls x))).sum := by
      have e5 := sum_flip (fun x => 2 ^ (4 - ln ls x)) o.length
      refine Eq.trans ?_ e5.symm
      refine congrArg List.sum (List.map_congr_left fun q hq => ?_)
      have hq := List.mem_range.1 hq
      have hv : at0 (put o r) (g o q) = ln ls (o.length - 1 - q) := by rw [hat q hq, c2, vec_at _ _ _ hq]
      show 2 ^ (4 - at0 (put o r) (g o q)) = 2 ^ (4 - ln ls (o.length - 1 - q))
      rw [hv]
    rw [e1]
    have e3 := cm.2
    unfold kr at e3
    rw [List.map_map] at e3
    have e4 := kraft_d (ln ls) (d' + 1) o.length (by omega) (fun x _ => by have := few x; omega)
    have e6 : 2 ^ (d' + 1 - 4) * ((List.range o.length).map (fun x => 2 ^ (4 - ln ls x))).sum = 2 ^ (d' + 1 - 4) * 16 := by
      refine e4.symm.trans (Eq.trans e3 ?_)
      have : 2 ^ (d' + 1) = 2 ^ (d' + 1 - 4) * 2 ^ 4 := by rw [← Nat.pow_add, show d' + 1 - 4 + 4 = d' + 1 by omega]
      exact this
    exact Nat.eq_of_mul_eq_mul_left (Nat.two_pow_pos _) e6
  · unfold kcst ccost
    have e0 : ∀ i, i < n → fr (asg (trp v n)) (7 * i) = (v i : Int) := fun i hi => asg_at _ h65 hnd (7 * i, ((v i : Nat) : Int)) (List.mem_map.2 ⟨i, List.mem_range.2 hi, rfl⟩)
    have e1 : ((List.range n).map (fun i => at0 (put o r) (7 * i) * v i)).sum = ((List.range n).map (fun i => at0 (put o r) (7 * i) * (fr (asg (trp v n)) (7 * i)).toNat)).sum := by
      refine congrArg List.sum (List.map_congr_left fun i hi => ?_)
      rw [e0 i (List.mem_range.1 hi)]; rfl
    rw [e1, sums (fun c => at0 (put o r) c * (fr (asg (trp v n)) c).toNat)]
    refine congrArg List.sum (List.map_congr_left fun q hq => ?_)
    have hq := List.mem_range.1 hq
    show at0 (put o r) (g o q) * _ = _
    rw [hat q hq, cs_at _ _ _ hq]
/-! ### lengths as one number, two bits each -/
def dg (c i : Nat) : Nat := c / 4 ^ i % 4 + 1
theorem digits (k : Nat → Nat) : ∀ n, (∀ i, i < n → 1 ≤ k i ∧ k i ≤ 4) → ∃ c, c < 4 ^ n ∧ ∀ i, i < n → dg c i = k i
  | 0, _ => ⟨0, by decide, fun i hi => by omega⟩
  | n + 1, h => by
    obtain ⟨c, hc, hd⟩ := digits k n (fun i hi => h i (by omega))
    have hn := h n (by omega)
    refine ⟨c + (k n - 1) * 4 ^ n, ?_, fun i hi => ?_⟩
    · rw [Nat.pow_succ]
      have : (k n - 1) * 4 ^ n ≤ 3 * 4 ^ n := Nat.mul_le_mul_right _ (by omega)
      omega
    · unfold dg
      by_cases e : i = n
      · subst e
        rw [Nat.add_mul_div_right _ _ (Nat.pow_pos (by omega)), Nat.div_eq_of_lt hc]
        omega
      · obtain ⟨m, hm⟩ : ∃ m, n = i + (m + 1) := ⟨n - i - 1, by omega⟩
        have e1 : (k n - 1) * 4 ^ n = ((k n - 1) * 4 ^ m * 4) * 4 ^ i := by
          rw [hm, Nat.pow_add, Nat.pow_succ, Nat.mul_assoc, Nat.mul_assoc, ← hm]
          congr 1
          rw [Nat.mul_comm (4 ^ i), Nat.mul_assoc]
        rw [e1, Nat.add_mul_div_right _ _ (Nat.pow_pos (by omega)), Nat.add_mul_mod_self_right]
        exact hd i (by omega)
theorem ksum_congr {k k' : Nat → Nat} {n : Nat} (h : ∀ i, i < n → k i = k' i) : ksum k n = ksum k' n := by
  unfold ksum; exact congrArg List.sum (List.map_congr_left fun i hi => by rw [h i (List.mem_range.1 hi)])
theorem kcst_congr {v k k' : Nat → Nat} {n : Nat} (h : ∀ i, i < n → k i = k' i) : kcst v k n = kcst v k' n := by
  unfold kcst; exact congrArg List.sum (List.map_congr_left fun i hi => by rw [h i (List.mem_range.1 hi)])
end Go.Proofs.Ytabnafjndljimaa
