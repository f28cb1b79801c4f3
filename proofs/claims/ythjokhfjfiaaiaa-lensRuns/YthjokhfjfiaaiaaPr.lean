/-
  From lengths to how many are longer, level by level; any classes weigh no less than as many of the least; no lengths that may be cost less than the splits say: laid ahead for package merge.
-/
import Derived.Test.YthjokhfjfiaaiaaPq
namespace Go.Proofs.Ythjokhfjfiaaiaa
open Go.ChangeShapes Go.WideShapes Go.ChangeAt Go.RowKit
open Go.ChangeMaps (open_string shut_string)

/-! ### from lengths to how many are longer, level by level -/
def nxt (rs : List Nat) : List Nat := (rs.filter (fun r => decide (2 ≤ r))).map (· - 1)
def lv : Nat → List Nat → List Nat
  | 0, _ => []
  | d + 1, rs => rs.length :: lv d (nxt rs)
def kr (d : Nat) (rs : List Nat) : Nat := (rs.map (fun r => 2 ^ (d - r))).sum
def ones (rs : List Nat) : Nat := rs.countP (fun r => decide (r < 2))
theorem nxt_cons (r : Nat) (rs : List Nat) : nxt (r :: rs) = if 2 ≤ r then (r - 1) :: nxt rs else nxt rs := by
  unfold nxt; rw [List.filter_cons]
  by_cases h : 2 ≤ r
  · simp [h]
  · simp [h]
theorem ones_cons (r : Nat) (rs : List Nat) : ones (r :: rs) = ones rs + if 2 ≤ r then 0 else 1 := by
  unfold ones; rw [List.countP_cons]
  by_cases h : 2 ≤ r
  · rw [if_pos h, if_neg (by simp; omega)]
  · rw [if_neg h, if_pos (by simp; omega)]
theorem nxt_len (rs : List Nat) : ones rs + (nxt rs).length = rs.length := by
  induction rs with
  | nil => rfl
  | cons r rs ih =>
    rw [ones_cons, nxt_cons]
    by_cases h : 2 ≤ r
    · rw [if_pos h, if_pos h, List.length_cons, List.length_cons]; omega
    · rw [if_neg h, if_neg h, List.length_cons]; omega
theorem kr_next (d : Nat) (rs : List Nat) (h : ∀ r ∈ rs, 1 ≤ r ∧ r ≤ d + 1) : kr (d + 1) rs = ones rs * 2 ^ d + kr d (nxt rs) := by
  induction rs with
  | nil => simp [kr, ones, nxt]
  | cons r rs ih =>
    have i := ih (fun x hx => h x (List.mem_cons_of_mem _ hx))
    have hr := h r List.mem_cons_self
    have e : kr (d + 1) (r :: rs) = 2 ^ (d + 1 - r) + kr (d + 1) rs := by unfold kr; simp
    rw [e, i, ones_cons, nxt_cons]
    by_cases g : 2 ≤ r
    · rw [if_pos g, if_pos g]
      have e2 : kr d ((r - 1) :: nxt rs) = 2 ^ (d - (r - 1)) + kr d (nxt rs) := by unfold kr; simp
      rw [e2, show d + 1 - r = d - (r - 1) by omega, Nat.add_zero]; omega
    · have : r = 1 := by omega
      subst this
      rw [if_neg g, if_neg g, show d + 1 - 1 = d by omega, Nat.add_mul]; omega
theorem nxt_mem {d : Nat} {rs : List Nat} (h : ∀ r ∈ rs, 1 ≤ r ∧ r ≤ d + 1) : ∀ r ∈ nxt rs, 1 ≤ r ∧ r ≤ d := by
  intro r hr
  unfold nxt at hr
  obtain ⟨x, hx, e⟩ := List.mem_map.1 hr
  obtain ⟨hx1, hx2⟩ := List.mem_filter.1 hx
  have := h x hx1
  have hx3 : 2 ≤ x := by simpa using hx2
  omega
theorem lv_len : ∀ d rs, (lv d rs).length = d
  | 0, _ => rfl
  | d + 1, rs => by rw [lv, List.length_cons, lv_len d]
/-- The levels of a list of lengths, told by place. -/
theorem lv_at : ∀ (d : Nat) (rs : List Nat) (t : Nat), t < d → (∀ r ∈ rs, 1 ≤ r) → at0 (lv d rs) t = rs.countP (fun r => decide (t < r))
  | 0, _, t, h, _ => absurd h (by omega)
  | d + 1, rs, 0, _, hp => by
    rw [lv, at0_cons_zero]
    symm
    rw [List.countP_eq_length]
    intro r hr
    have := hp r hr
    simp; omega
  | d + 1, rs, t + 1, h, hp => by
    rw [lv, at0_cons_succ, lv_at d (nxt rs) t (by omega) (fun r hr => by
      unfold nxt at hr
      obtain ⟨x, hx, e⟩ := List.mem_map.1 hr
      obtain ⟨_, hx2⟩ := List.mem_filter.1 hx
      have : 2 ≤ x := by simpa using hx2
      omega)]
    clear hp
    induction rs with
    | nil => rfl
    | cons r rs ih =>
      rw [nxt_cons, List.countP_cons]
      by_cases g : 2 ≤ r
      · rw [if_pos g, List.countP_cons, ih]
        have : (t < r - 1) ↔ (t + 1 < r) := by omega
        simp only [this]
      · rw [if_neg g, ih, if_neg (by simp; omega)]; rfl
theorem lv_map (d : Nat) (rs : List Nat) (h : ∀ r ∈ rs, 1 ≤ r) : lv d rs = (List.range d).map (fun t => rs.countP (fun r => decide (t < r))) := by
  apply List.ext_getElem?
  intro i
  by_cases hi : i < d
  · have e := lv_at d rs i hi h
    rw [List.getElem?_map, List.getElem?_range hi]
    have hl : i < (lv d rs).length := by rw [lv_len]; exact hi
    rw [List.getElem?_eq_getElem hl]
    unfold at0 at e
    rw [List.getD_eq_getElem?_getD, List.getElem?_eq_getElem hl] at e
    show some _ = some (rs.countP (fun r => decide (i < r)))
    rw [← e]; rfl
  · rw [List.getElem?_eq_none (by rw [lv_len]; omega), List.getElem?_eq_none (by simp; omega)]
end Go.Proofs.Ythjokhfjfiaaiaa
