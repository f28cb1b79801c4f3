/-
  What holds of the lengths at their places: costs, bounds, lengths that may be.
-/
import Derived.Test.YthjokhfjfiaaiaaAg
namespace Go.Proofs.Ythjokhfjfiaaiaa
open Go.ChangeShapes Go.WideShapes Go.ChangeAt Go.RowKit
open Go.ChangeMaps (open_string shut_string)

/-! ### sums over classes are sums over order -/
theorem isum_perm {l m : List Int} (h : l.Perm m) : l.sum = m.sum := by
  induction h with
  | nil => rfl
  | cons x _ ih => rw [List.sum_cons, List.sum_cons, ih]
  | swap x y l => rw [List.sum_cons, List.sum_cons, List.sum_cons, List.sum_cons]; omega
  | trans _ _ h1 h2 => rw [h1, h2]
theorem sum_filter (h : Nat → Int) (p : Nat → Bool) : ∀ l : List Nat, (∀ c ∈ l, p c = false → h c = 0) → (l.map h).sum = ((l.filter p).map h).sum
  | [], _ => rfl
  | c :: l, hz => by
    have ih := sum_filter h p l (fun x hx => hz x (List.mem_cons_of_mem _ hx))
    rw [List.map_cons, List.sum_cons, List.filter_cons]
    by_cases e : p c = true
    · rw [if_pos e, List.map_cons, List.sum_cons, ih]
    · rw [if_neg e, hz c List.mem_cons_self (by simpa using e), ih]; omega
theorem class_sum {F : List Int} {o : List Nat} (ho : Ordered F 65 o) (h : Nat → Int) (hz : ∀ c, ¬ 0 < fr F c → h c = 0) : ((List.range 65).map h).sum = (o.map h).sum := by
  rw [sum_filter h (fun p => decide (0 < fr F p)) (List.range 65) (fun c _ hc => hz c (by simpa using hc))]
  exact isum_perm ((ho.1.symm).map h)
theorem map_rank (o : List Nat) (h : Nat → Int) : o.map h = (List.range o.length).map (fun q => h (g o q)) := by
  apply List.ext_getElem?
  intro i
  by_cases hi : i < o.length
  · rw [List.getElem?_map, List.getElem?_map, List.getElem?_range hi, List.getElem?_eq_getElem hi]
    show some (h o[i]) = some (h (g o i))
    rw [g_eq o i hi]
  · rw [List.getElem?_eq_none (by simp; omega), List.getElem?_eq_none (by simp; omega)]
theorem fr_nat (l : List Nat) (c : Nat) : fr (l.map Int.ofNat) c = (at0 l c : Int) := by
  unfold fr at0
  rw [List.getD_eq_getElem?_getD, List.getD_eq_getElem?_getD, List.getElem?_map]
  cases l[c]? <;> rfl
theorem cast_sum (h : Nat → Nat) : ∀ l : List Nat, (l.map (fun q => ((h q : Nat) : Int))).sum = (((l.map h).sum : Nat) : Int)
  | [] => rfl
  | a :: l => by rw [List.map_cons, List.sum_cons, cast_sum h l, List.map_cons, List.sum_cons]; omega
/-! ### what holds of the lengths at their places -/
theorem rank_bd {F : List Int} {d : Nat} {o r : List Nat} (ho : Ordered F 65 o) (h : Ranks F d o r) (h7 : 7 ≤ d) (q : Nat) (hq : q < o.length) : 1 ≤ at0 r q ∧ at0 r q ≤ d := by
  by_cases h2 : 2 ≤ o.length
  · obtain ⟨ls, c1, c2⟩ := h.2.2 h2
    obtain ⟨d', rfl⟩ : ∃ d', d = d' + 1 := ⟨d - 1, by omega⟩
    have hl : (cs F o).reverse.length = o.length := by rw [List.length_reverse, cs_len]
    rw [← hl] at c1
    have := (chain_may (cs_rising ho) (cs_pos' ho) (by rw [hl]; exact h2) c1).1 (o.length - 1 - q) (by rw [hl]; omega)
    rw [c2, vec_at _ _ _ hq]; exact this
  · have h1 : o.length = 1 := by omega
    rw [h.2.1 h1]
    obtain rfl : q = 0 := by omega
    show 1 ≤ 1 ∧ 1 ≤ d
    omega
theorem lens_at {F : List Int} {d : Nat} {o r : List Nat} (ho : Ordered F 65 o) (h : Ranks F d o r) (h7 : 7 ≤ d) (c : Nat) (hc : c < 65) : at0 (put o r) c ≤ d ∧ (0 < at0 (put o r) c ↔ 0 < fr F c) := by
  by_cases hm : c ∈ o
  · obtain ⟨q, hq, rfl⟩ := List.getElem_of_mem hm
    have hp := put_at o r q hq h.1 (ordered_nodup ho) hc
    have hb := rank_bd ho h h7 q hq
    have hf := ((ordered_mem ho o[q]).1 hm).2
    rw [hp]; exact ⟨hb.2, fun _ => hf, fun _ => by omega⟩
  · rw [put_no o r c hm]
    exact ⟨by omega, fun h => by omega, fun h => absurd ((ordered_mem ho c).2 ⟨hc, h⟩) hm⟩
/-! ### lengths that may be -/
def mS (L : List Nat) (i : Nat) : Nat := ((List.range i).map (fun c => if 0 < at0 L c then 2 ^ (15 - at0 L c) else 0)).sum
def mC (L : List Nat) (i : Nat) : Nat := ((List.range i).map (fun c => if 0 < at0 L c then 1 else 0)).sum
theorem kraft_up (h : Nat → Nat) (d N : Nat) (hd : d ≤ 15) (hb : ∀ x, x < N → h x ≤ d) (e : ((List.range N).map (fun x => 2 ^ (d - h x))).sum = 2 ^ d) : ((List.range N).map (fun x => 2 ^ (15 - h x))).sum = 32768 := by
  have e2 : ∀ n, n ≤ N → ((List.range n).map (fun x => 2 ^ (15 - h x))).sum = 2 ^ (15 - d) * ((List.range n).map (fun x => 2 ^ (d - h x))).sum := fun n => by
    induction n with
    | zero => intro _; rfl
    | succ n ih =>
      intro hn
      have hb := hb n (by omega)
      rw [List.range_succ, List.map_append, List.sum_append, ih (by omega), List.map_append, List.sum_append, Nat.mul_add]
      simp only [List.map_cons, List.map_nil, List.sum_cons, List.sum_nil, Nat.add_zero]
      rw [← Nat.pow_add, show 15 - d + (d - h n) = 15 - h n by omega]
  rw [e2 _ (Nat.le_refl _), e, ← Nat.pow_add, show 15 - d + d = 15 by omega]
theorem lens_may {F : List Int} {d : Nat} {o r : List Nat} (ho : Ordered F 65 o) (h : Ranks F d o r) (h7 : 7 ≤ d) (h15 : d ≤ 15) : mC (put o r) 65 = 0 ∨ mS (put o r) 65 = 32768 ∨ (mC (put o r) 65 = 1 ∧ mS (put o r) 65 = 16384) := by
  have hno : ∀ c, ¬ 0 < fr F c → at0 (put o r) c = 0 := fun c hc => put_no o r c (fun hm => hc ((ordered_mem ho c).1 hm).2)
  have hat : ∀ q, q < o.length → at0 (put o r) (g o q) = at0 r q := fun q hq => by
    have hm := (ordered_mem ho (g o q)).1 (g_mem o q hq)
    have hp := put_at o r q hq h.1 (ordered_nodup ho) (by rw [← g_eq o q hq]; exact hm.1)
    rw [← g_eq o q hq] at hp; exact hp
  have red : ∀ (φ : Nat → Nat), (((List.range 65).map (fun c => if 0 < at0 (put o r) c then φ (at0 (put o r) c) else 0)).sum) = ((List.range o.length).map (fun q => φ (at0 r q))).sum := fun φ => by
    have e := class_sum ho (fun c => (((if 0 < at0 (put o r) c then φ (at0 (put o r) c) else 0) : Nat) : Int)) (fun c hc => by have := hno c hc; simp [this])
    rw [cast_sum, map_rank, cast_sum] at e
    have e2 : ((List.range o.length).map (fun q => if 0 < at0 (put o r) (g o q) then φ (at0 (put o r) (g o q)) else 0)).sum = ((List.range o.length).map (fun q => φ (at0 r q))).sum := by
      congr 1
      apply List.map_congr_left
      intro q hq
      have hq := List.mem_range.1 hq
      have := (rank_bd ho h h7 q hq).1
      rw [hat q hq, if_pos (by omega)]
    omega
  have eC : mC (put o r) 65 = o.length := by
    unfold mC
    rw [red (fun _ => 1)]
    have : ∀ n, ((List.range n).map (fun _ => 1)).sum = n := fun n => by
      induction n with
      | zero => rfl
      | succ n ih => rw [List.range_succ, List.map_append, List.sum_append, ih]; rfl
    exact this _
  have eS : mS (put o r) 65 = ((List.range o.length).map (fun q => 2 ^ (15 - at0 r q))).sum := red (fun l => 2 ^ (15 - l))
  rw [eC, eS]
  by_cases h2 : 2 ≤ o.length
  · right; left
    obtain ⟨ls, c1, c2⟩ := h.2.2 h2
    obtain ⟨d', rfl⟩ : ∃ d', d = d' + 1 := ⟨d - 1, by omega⟩
    have hl : (cs F o).reverse.length = o.length := by rw [List.length_reverse, cs_len]
    rw [← hl] at c1
    have cm := chain_may (cs_rising ho) (cs_pos' ho) (by rw [hl]; exact h2) c1
    rw [hl] at cm
    have e3 := cm.2
    unfold kr at e3
    rw [List.map_map] at e3
    have e4 := kraft_up (ln ls) (d' + 1) o.length h15 (fun x hx => (cm.1 x hx).2) e3
    refine Eq.trans ?_ e4
    have e5 := sum_flip (fun x => 2 ^ (15 - ln ls x)) o.length
    refine Eq.trans ?_ e5.symm
    refine congrArg List.sum (List.map_congr_left fun q hq => ?_)
    have hv : at0 r q = ln ls (o.length - 1 - q) := by rw [c2, vec_at _ _ _ (List.mem_range.1 hq)]
    show 2 ^ (15 - at0 r q) = 2 ^ (15 - ln ls (o.length - 1 - q))
    rw [hv]
  · by_cases h1 : o.length = 1
    · right; right
      rw [h1, h.2.1 h1]; exact ⟨rfl, rfl⟩
    · left; omega
end Go.Proofs.Ythjokhfjfiaaiaa
