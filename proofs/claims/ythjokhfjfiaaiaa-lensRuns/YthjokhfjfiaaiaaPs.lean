/-
  The lengths that the splits say: they may be, and cost what the splits cost; a level more costs no more; there is room for 65 classes: laid ahead for package merge.
-/
import Derived.Test.YthjokhfjfiaaiaaPr
namespace Go.Proofs.Ythjokhfjfiaaiaa
open Go.ChangeShapes Go.WideShapes Go.ChangeAt Go.RowKit
open Go.ChangeMaps (open_string shut_string)

/-! ### the lengths that the splits say -/
def ln (ls : List Nat) (r : Nat) : Nat := ls.countP (fun a => decide (r < a))
theorem ln_cons (a : Nat) (ls : List Nat) (r : Nat) : ln (a :: ls) r = ln ls r + if r < a then 1 else 0 := by
  unfold ln; rw [List.countP_cons]; simp
theorem ln_le (ls : List Nat) (r : Nat) : ln ls r ≤ ls.length := List.countP_le_length
/-- Of numbers that fall: more than t of them are above r, if the one at place t is. -/
theorem ln_at : ∀ (ls : List Nat) (r t : Nat), ls.Pairwise (fun a b => b ≤ a) → t < ls.length → (t < ln ls r ↔ r < at0 ls t)
  | [], r, t, _, h => absurd h (by simp)
  | a :: ls, r, 0, hp, _ => by
    rw [ln_cons, at0_cons_zero]
    by_cases g : r < a
    · rw [if_pos g]; exact ⟨fun _ => g, fun _ => by omega⟩
    · rw [if_neg g]
      have : ln ls r = 0 := by
        unfold ln
        rw [List.countP_eq_zero]
        intro b hb
        have := (List.pairwise_cons.1 hp).1 b hb
        simp; omega
      rw [this]; exact ⟨fun h => absurd h (by omega), fun h => absurd h g⟩
  | a :: ls, r, t + 1, hp, ht => by
    have i := ln_at ls r t (List.pairwise_cons.1 hp).2 (by simpa using ht)
    rw [ln_cons, at0_cons_succ, ← i]
    by_cases g : r < a
    · rw [if_pos g]; omega
    · rw [if_neg g]
      have : ln ls r = 0 := by
        unfold ln
        rw [List.countP_eq_zero]
        intro b hb
        have := (List.pairwise_cons.1 hp).1 b hb
        simp; omega
      rw [this]; omega
theorem count_below (N a : Nat) (h : a ≤ N) : (List.range N).countP (fun r => decide (r < a)) = a := by
  induction N with
  | zero => have : a = 0 := by omega
            subst this; rfl
  | succ N ih =>
    rw [List.range_succ, List.countP_append, List.countP_singleton]
    by_cases g : a ≤ N
    · rw [ih g, if_neg (by simp; omega)]; rfl
    · have : a = N + 1 := by omega
      subst this
      rw [if_pos (by simp)]
      have : (List.range N).countP (fun r => decide (r < N + 1)) = N := by
        have e : (List.range N).countP (fun r => decide (r < N + 1)) = (List.range N).length := by
          rw [List.countP_eq_length]
          intro r hr
          have := List.mem_range.1 hr
          simp; omega
        rw [e, List.length_range]
      rw [this]
theorem lv_back (ls : List Nat) (N : Nat) (hf : ls.Pairwise (fun a b => b ≤ a)) (hN : ∀ a ∈ ls, a ≤ N) (h1 : ∀ r, r < N → 1 ≤ ln ls r) : lv ls.length ((List.range N).map (ln ls)) = ls := by
  rw [lv_map _ _ (fun x hx => by obtain ⟨r, hr, rfl⟩ := List.mem_map.1 hx; exact h1 r (List.mem_range.1 hr))]
  apply List.ext_getElem?
  intro t
  by_cases ht : t < ls.length
  · rw [List.getElem?_map, List.getElem?_range ht, List.getElem?_eq_getElem ht]
    show some (List.countP (fun r => decide (t < r)) ((List.range N).map (ln ls))) = _
    rw [List.countP_map]
    have e : (List.range N).countP ((fun r => decide (t < r)) ∘ ln ls) = (List.range N).countP (fun r => decide (r < at0 ls t)) := by
      apply List.countP_congr
      intro r _
      have := ln_at ls r t hf ht
      simp [this]
    rw [e, count_below N _ (hN _ (at0_mem ls t ht))]
    unfold at0
    rw [List.getD_eq_getElem?_getD, List.getElem?_eq_getElem ht]; rfl
  · rw [List.getElem?_eq_none (by simp; omega), List.getElem?_eq_none (by omega)]
theorem wd_kr : ∀ (d : Nat) (rs : List Nat) (k : Nat), (∀ r ∈ rs, 1 ≤ r ∧ r ≤ d) → Wd k (lv d rs) → (2 * (kr d rs : Int)) = (2 * (rs.length : Int) - k) * 2 ^ d
  | 0, rs, k, h, hw => by
    have : rs = [] := by
      cases rs with
      | nil => rfl
      | cons r rs => have := h r List.mem_cons_self; omega
    subst this
    have : k = 0 := hw
    subst this
    simp [kr]
  | d + 1, rs, k, h, hw => by
    obtain ⟨w1, w2⟩ := hw
    have i := wd_kr d (nxt rs) (2 * (k - rs.length)) (nxt_mem h) w2
    have hn := kr_next d rs h
    have hl := nxt_len rs
    have e : ((2 * (k - rs.length) : Nat) : Int) = 2 * ((k : Int) - rs.length) := by omega
    rw [e] at i
    have hn' : (kr (d + 1) rs : Int) = (ones rs : Int) * 2 ^ d + kr d (nxt rs) := by rw [hn]; simp
    have hl' : (rs.length : Int) = (ones rs : Int) + ((nxt rs).length : Int) := by omega
    rw [hn', Int.pow_succ, Int.mul_add, i, hl']
    generalize (2 : Int) ^ d = p
    generalize (ones rs : Int) = x
    generalize ((nxt rs).length : Int) = y
    rw [← Int.mul_assoc, ← Int.add_mul, ← Int.mul_assoc, Int.mul_comm _ (2 : Int), ← Int.mul_assoc]
    congr 1
    omega
/-- The lengths of the splits: from 1 to the levels, and they fill all places. -/
theorem chain_may {s : List Nat} (hr : Rising s) (hp : ∀ x ∈ s, 0 < x) {d : Nat} {ls : List Nat} (hN : 2 ≤ s.length) (h : Chain s (d + 1) (2 * s.length - 2) ls) :
    (∀ r, r < s.length → 1 ≤ ln ls r ∧ ln ls r ≤ d + 1) ∧ kr (d + 1) ((List.range s.length).map (ln ls)) = 2 ^ (d + 1) := by
  obtain ⟨w, hl, hb⟩ := chain_wd _ _ _ h
  obtain ⟨q, e⟩ := chain_first hr hp hN h
  have hone : ∀ r, r < s.length → 1 ≤ ln ls r := fun r hr' => by rw [e, ln_cons, if_pos hr']; omega
  have hle : ∀ r, ln ls r ≤ d + 1 := fun r => by have := ln_le ls r; omega
  refine ⟨fun r hr' => ⟨hone r hr', hle r⟩, ?_⟩
  have hb' := lv_back ls s.length (chain_falls hr hp _ _ _ h) hb hone
  rw [hl] at hb'
  have k := wd_kr (d + 1) ((List.range s.length).map (ln ls)) (2 * s.length - 2) (fun r hr' => by
    obtain ⟨x, hx, rfl⟩ := List.mem_map.1 hr'
    exact ⟨hone x (List.mem_range.1 hx), hle x⟩) (by rw [hb']; exact w)
  rw [List.length_map, List.length_range] at k
  have e2 : (2 * (s.length : Int) - ((2 * s.length - 2 : Nat) : Int)) = 2 := by omega
  rw [e2] at k
  have : (kr (d + 1) ((List.range s.length).map (ln ls)) : Int) = ((2 ^ (d + 1) : Nat) : Int) := by
    have e3 : (((2 ^ (d + 1) : Nat)) : Int) = (2 : Int) ^ (d + 1) := by simp
    rw [e3]; omega
  exact_mod_cast this
/-- There is room: of 65 classes at the most, by seven levels or more. -/
def tl (N : Nat) : Nat → Nat
  | 0 => 0
  | d + 1 => N + tl N d / 2
theorem TL_tl (s : List Nat) : ∀ d, (TL s d).length = tl s.length d
  | 0 => rfl
  | d + 1 => by rw [TL_len, TL_tl s d]; rfl
theorem tl_room : ∀ N, N ≤ 65 → ∀ d, d ≤ 15 → 7 ≤ d → 2 * N - 2 ≤ tl N d := by decide +kernel
theorem chain_there {s : List Nat} (hr : Rising s) {d : Nat} (hN : s.length ≤ 65) (h7 : 7 ≤ d) (h15 : d ≤ 15) : ∃ ls, Chain s d (2 * s.length - 2) ls :=
  chain_is hr d _ (by rw [TL_tl]; exact tl_room _ hN d h15 h7)
end Go.Proofs.Ythjokhfjfiaaiaa
