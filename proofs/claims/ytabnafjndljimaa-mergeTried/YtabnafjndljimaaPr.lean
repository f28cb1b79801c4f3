/-
  From lengths to how many are longer, level by level; any classes weigh no less than as many of the least; no lengths that may be cost less than the splits say: laid ahead for package merge.
-/
import Derived.Test.YtabnafjndljimaaPq
namespace Go.Proofs.Ytabnafjndljimaa
open Go.ChangeShapes Go.WideShapes Go.ChangeAt Go.RowKit
open Go.ChangeMaps (open_string shut_string)

/-! ### from lengths to how many are longer, level by level -/
def nxt (rs : List Nat) : List Nat := (rs.filter (fun r => decide (2 ≤ r))).map (· - 1)
def lv : Nat → List Nat → List Nat
  | 0, _ => []
  | d + 1, rs => rs.length :: lv d (nxt rs)
def kr (d : Nat) (rs : List Nat) : Nat := (rs.map (fun r => 2 ^ (d - r))).sum
def ones (rs : List Nat) : Nat := rs.countP (fun r => decide (r < 2))
theorem nxt_cons (r : Nat) (rs : List Nat) : nxt (r :: rs) = if 2 ≤ r then (r - 1) :: nxt rs else nxt rs := by
  unfold nxt; rw [List.filter_cons]
  by_cases h : 2 ≤ r
  · simp [h]
  · simp [h]
theorem ones_cons (r : Nat) (rs : List Nat) : ones (r :: rs) = ones rs + if 2 ≤ r then 0 else 1 := by
  unfold ones; rw [List.countP_cons]
  by_cases h : 2 ≤ r
  · rw [if_pos h, if_neg (by simp; omega)]
  · rw [if_neg h, if_pos (by simp; omega)]
theorem nxt_len (rs : List Nat) : ones rs + (nxt rs).length = rs.length := by
  induction rs with
  | nil => rfl
  | cons r rs ih =>
    rw [ones_cons, nxt_cons]
    by_cases h : 2 ≤ r
    · rw [if_pos h, if_pos h, List.length_cons, List.length_cons]; omega
    · rw [if_neg h, if_neg h, List.length_cons]; omega
theorem kr_next (d : Nat) (rs : List Nat) (h : ∀ r ∈ rs, 1 ≤ r ∧ r ≤ d + 1) : kr (d + 1) rs = ones rs * 2 ^ d + kr d (nxt rs) := by
  induction rs with
  | nil => simp [kr, ones, nxt]
  | cons r rs ih =>
    have i := ih (fun x hx => h x (List.mem_cons_of_mem _ hx))
    have hr := h r List.mem_cons_self
    have e : kr (d + 1) (r :: rs) = 2 ^ (d + 1 - r) + kr (d + 1) rs := by unfold kr; simp
    rw [e, i, ones_cons, nxt_cons]
    by_cases g : 2 ≤ r
    · rw [if_pos g, if_pos g]
      have e2 : kr d ((r - 1) :: nxt rs) = 2 ^ (d - (r - 1)) + kr d (nxt rs) := by unfold kr; simp
      rw [e2, show d + 1 - r = d - (r - 1) by omega, Nat.add_zero]; omega
    · have : r = 1 := by omega
      subst this
      rw [if_neg g, if_neg g, show d + 1 - 1 = d by omega, Nat.add_mul]; omega
theorem kr_le (d : Nat) (rs : List Nat) (h : ∀ r ∈ rs, 1 ≤ r ∧ r ≤ d + 1) : kr (d + 1) rs ≤ rs.length * 2 ^ d := by
  induction rs with
  | nil => simp [kr]
  | cons r rs ih =>
    have i := ih (fun x hx => h x (List.mem_cons_of_mem _ hx))
    have hr := h r List.mem_cons_self
    have e : kr (d + 1) (r :: rs) = 2 ^ (d + 1 - r) + kr (d + 1) rs := by unfold kr; simp
    have hp : 2 ^ (d + 1 - r) ≤ 2 ^ d := Nat.pow_le_pow_right (by omega) (by omega)
    rw [e, List.length_cons, Nat.add_mul]; omega
theorem nxt_mem {d : Nat} {rs : List Nat} (h : ∀ r ∈ rs, 1 ≤ r ∧ r ≤ d + 1) : ∀ r ∈ nxt rs, 1 ≤ r ∧ r ≤ d := by
  intro r hr
  unfold nxt at hr
  obtain ⟨x, hx, e⟩ := List.mem_map.1 hr
  obtain ⟨hx1, hx2⟩ := List.mem_filter.1 hx
  have := h x hx1
  have hx3 : 2 ≤ x := by simpa using hx2
  omega
theorem lv_len : ∀ d rs, (lv d rs).length = d
  | 0, _ => rfl
  | d + 1, rs => by rw [lv, List.length_cons, lv_len d]
theorem lv_le : ∀ d rs, ∀ a ∈ lv d rs, a ≤ rs.length
  | 0, _, a, h => by simp [lv] at h
  | d + 1, rs, a, h => by
    rw [lv] at h
    rcases List.mem_cons.1 h with h | h
    · rw [h]; exact Nat.le_refl _
    · have := lv_le d (nxt rs) a h
      have := nxt_len rs
      omega
/-- Lengths that fill all places. -/
theorem lv_wd : ∀ (d : Nat) (rs : List Nat) (op : Nat), (∀ r ∈ rs, 1 ≤ r ∧ r ≤ d) → 2 * kr d rs = op * 2 ^ d → op ≤ rs.length ∧ Wd (2 * rs.length - op) (lv d rs)
  | 0, rs, op, h, hk => by
    have : rs = [] := by
      cases rs with
      | nil => rfl
      | cons r rs => have := h r List.mem_cons_self; omega
    subst this
    have : op = 0 := by simp [kr] at hk; omega
    subst this
    exact ⟨Nat.le_refl _, rfl⟩
  | d + 1, rs, op, h, hk => by
    have hp : 0 < 2 ^ d := Nat.pow_pos (by omega)
    have hle := kr_le d rs h
    have hk' : kr (d + 1) rs = op * 2 ^ d := by rw [Nat.pow_succ] at hk; rw [← Nat.mul_assoc] at hk; omega
    have hop : op ≤ rs.length := Nat.le_of_mul_le_mul_right (by rw [← hk']; exact hle) hp
    have hn := kr_next d rs h
    have hones : ones rs ≤ op := by
      refine Nat.le_of_mul_le_mul_right ?_ hp
      rw [← hk', hn]; omega
    have hsub : kr d (nxt rs) = (op - ones rs) * 2 ^ d := by rw [Nat.sub_mul]; omega
    have hl := nxt_len rs
    obtain ⟨i1, i2⟩ := lv_wd d (nxt rs) (2 * (op - ones rs)) (nxt_mem h) (by rw [hsub, Nat.mul_assoc])
    refine ⟨hop, by omega, ?_⟩
    rw [show 2 * (2 * rs.length - op - rs.length) = 2 * (nxt rs).length - 2 * (op - ones rs) by omega]
    exact i2

/-! ### any classes weigh no less than as many of the least -/
theorem sub_low : ∀ (s l m : List Nat), Rising s → (l ++ m).Perm s → pre s l.length ≤ l.sum
  | [], l, m, _, p => by
    have : l.length + m.length = 0 := by have := p.length_eq; simpa using this
    have : l = [] := List.eq_nil_of_length_eq_zero (by omega)
    subst this; simp [pre]
  | x :: s, l, m, hr, p => by
    obtain ⟨hx, hr'⟩ := List.pairwise_cons.1 hr
    by_cases hm : x ∈ l
    · obtain ⟨l', hl'⟩ : ∃ l', l.Perm (x :: l') := ⟨l.erase x, List.perm_cons_erase hm⟩
      have p' : (l' ++ m).Perm s := by
        refine List.Perm.cons_inv (a := x) ?_
        exact (List.Perm.append_right m hl'.symm).trans p
      have i := sub_low s l' m hr' p'
      have hsum : l.sum = x + l'.sum := by rw [hl'.sum_nat]; simp
      rw [hl'.length_eq, List.length_cons, pre_cons, hsum]; omega
    · have hxm : x ∈ m := by
        have : x ∈ l ++ m := p.mem_iff.2 List.mem_cons_self
        exact (List.mem_append.1 this).elim (fun h => absurd h hm) id
      obtain ⟨m', hm'⟩ : ∃ m', m.Perm (x :: m') := ⟨m.erase x, List.perm_cons_erase hxm⟩
      have p' : (l ++ m').Perm s := by
        refine List.Perm.cons_inv (a := x) ?_
        exact (List.perm_middle.symm.trans (List.Perm.append_left l hm'.symm)).trans p
      have i := sub_low s l m' hr' p'
      cases hl : l.length with
      | zero => simp [pre]
      | succ n =>
        rw [hl] at i
        have hns : n < s.length := by have := p'.length_eq; rw [List.length_append] at this; omega
        rw [pre_cons]
        rw [pre_succ s n hns] at i
        have := hx _ (at0_mem s n hns)
        omega
/-- The cost of classes with lengths, level by level. -/
def cw : List (Nat × Nat) → Nat
  | [] => 0
  | p :: l => p.1 * p.2 + cw l
def lng (ps : List (Nat × Nat)) (t : Nat) : List Nat := (ps.filter (fun p => decide (t < p.2))).map (·.1)
theorem lng_cons (p : Nat × Nat) (ps : List (Nat × Nat)) (t : Nat) : lng (p :: ps) t = if t < p.2 then p.1 :: lng ps t else lng ps t := by
  unfold lng; rw [List.filter_cons]
  by_cases h : t < p.2
  · simp [h]
  · simp [h]
def lsum (ps : List (Nat × Nat)) : Nat → Nat
  | 0 => 0
  | d + 1 => lsum ps d + (lng ps d).sum
theorem lsum_cons (p : Nat × Nat) (ps : List (Nat × Nat)) (d : Nat) : lsum (p :: ps) d = lsum ps d + p.1 * min p.2 d := by
  induction d with
  | zero => simp [lsum]
  | succ d ih =>
    rw [lsum, lsum, ih, lng_cons]
    by_cases h : d < p.2
    · rw [if_pos h, List.sum_cons, Nat.min_eq_right (by omega), Nat.min_eq_right (by omega), Nat.mul_succ]; omega
    · rw [if_neg h, Nat.min_eq_left (by omega), Nat.min_eq_left (by omega)]; omega
theorem cw_levels (ps : List (Nat × Nat)) (d : Nat) (h : ∀ p ∈ ps, p.2 ≤ d) : cw ps = lsum ps d := by
  induction ps with
  | nil =>
    have : ∀ d, lsum [] d = 0 := fun d => by
      induction d with
      | zero => rfl
      | succ d ih => rw [lsum, ih]; rfl
    rw [this]; rfl
  | cons p ps ih =>
    rw [cw, lsum_cons, ih (fun q hq => h q (List.mem_cons_of_mem _ hq)), Nat.min_eq_left (h p List.mem_cons_self)]; omega

/-! ### both together: no lengths that may be cost less -/
theorem lng_len (ps : List (Nat × Nat)) (t : Nat) : (lng ps t).length = ps.countP (fun p => decide (t < p.2)) := by
  unfold lng; rw [List.length_map, ← List.countP_eq_length_filter]
theorem lng_sub (ps : List (Nat × Nat)) (t : Nat) : ∃ m, (lng ps t ++ m).Perm (ps.map (·.1)) := by
  induction ps with
  | nil => exact ⟨[], by simp [lng]⟩
  | cons p ps ih =>
    obtain ⟨m, hm⟩ := ih
    rw [lng_cons]
    by_cases h : t < p.2
    · rw [if_pos h]; exact ⟨m, by simpa using hm⟩
    · rw [if_neg h]; exact ⟨p.1 :: m, by rw [List.map_cons]; exact List.perm_middle.trans (List.Perm.cons _ hm)⟩
/-- The levels of a list of lengths, told by place. -/
theorem lv_at : ∀ (d : Nat) (rs : List Nat) (t : Nat), t < d → (∀ r ∈ rs, 1 ≤ r) → at0 (lv d rs) t = rs.countP (fun r => decide (t < r))
  | 0, _, t, h, _ => absurd h (by omega)
  | d + 1, rs, 0, _, hp => by
    rw [lv, at0_cons_zero]
    symm
    rw [List.countP_eq_length]
    intro r hr
    have := hp r hr
    simp; omega
  | d + 1, rs, t + 1, h, hp => by
    rw [lv, at0_cons_succ, lv_at d (nxt rs) t (by omega) (fun r hr => by
      unfold nxt at hr
      obtain ⟨x, hx, e⟩ := List.mem_map.1 hr
      obtain ⟨_, hx2⟩ := List.mem_filter.1 hx
      have : 2 ≤ x := by simpa using hx2
      omega)]
    clear hp
    induction rs with
    | nil => rfl
    | cons r rs ih =>
      rw [nxt_cons, List.countP_cons]
      by_cases g : 2 ≤ r
      · rw [if_pos g, List.countP_cons, ih]
        have : (t < r - 1) ↔ (t + 1 < r) := by omega
        simp only [this]
      · rw [if_neg g, ih, if_neg (by simp; omega)]; rfl
theorem lsum_low {s : List Nat} (hr : Rising s) (ps : List (Nat × Nat)) (hs : (ps.map (·.1)).Perm s) : ∀ d, ((List.range d).map (fun t => pre s (lng ps t).length)).sum ≤ lsum ps d
  | 0 => Nat.le_refl _
  | d + 1 => by
    rw [List.range_succ, List.map_append, List.sum_append, lsum]
    obtain ⟨m, hm⟩ := lng_sub ps d
    have := sub_low s (lng ps d) m hr (hm.trans hs)
    have := lsum_low hr ps hs d
    simp
    omega
theorem lv_map (d : Nat) (rs : List Nat) (h : ∀ r ∈ rs, 1 ≤ r) : lv d rs = (List.range d).map (fun t => rs.countP (fun r => decide (t < r))) := by
  apply List.ext_getElem?
  intro i
  by_cases hi : i < d
  · have e := lv_at d rs i hi h
    rw [List.getElem?_map, List.getElem?_range hi]
    have hl : i < (lv d rs).length := by rw [lv_len]; exact hi
    rw [List.getElem?_eq_getElem hl]
    unfold at0 at e
    rw [List.getD_eq_getElem?_getD, List.getElem?_eq_getElem hl] at e
    show some _ = some (rs.countP (fun r => decide (i < r)))
    rw [← e]; rfl
  · rw [List.getElem?_eq_none (by rw [lv_len]; omega), List.getElem?_eq_none (by simp; omega)]
/-- Classes with any lengths that fill all places cost no less than the splits say. -/
theorem least_of_all {s : List Nat} (hr : Rising s) {d : Nat} {ls : List Nat} (ps : List (Nat × Nat)) (hs : (ps.map (·.1)).Perm s) (h : ∀ p ∈ ps, 1 ≤ p.2 ∧ p.2 ≤ d) (hk : kr d (ps.map (·.2)) = 2 ^ d)
    (hc : Chain s d (2 * s.length - 2) ls) : (ls.map (pre s)).sum ≤ cw ps := by
  have hlen : ps.length = s.length := by have := hs.length_eq; simpa using this
  have hrs : ∀ r ∈ ps.map (·.2), 1 ≤ r ∧ r ≤ d := fun r hr => by
    obtain ⟨p, hp, rfl⟩ := List.mem_map.1 hr
    exact h p hp
  obtain ⟨_, w⟩ := lv_wd d (ps.map (·.2)) 2 hrs (by rw [hk])
  rw [List.length_map, hlen] at w
  have l := chain_least hr hc w (lv_len _ _) (fun a ha => by have := lv_le _ _ a ha; rw [List.length_map, hlen] at this; exact this)
  refine Nat.le_trans l ?_
  rw [cw_levels ps d (fun p hp => (h p hp).2)]
  refine Nat.le_trans ?_ (lsum_low hr ps hs d)
  rw [lv_map d _ (fun r hr => (hrs r hr).1), List.map_map]
  refine Nat.le_of_eq (congrArg List.sum (List.map_congr_left fun t _ => ?_))
  show pre s (List.countP (fun r => decide (t < r)) (ps.map (·.2))) = pre s _
  rw [lng_len, List.countP_map]
  rfl
end Go.Proofs.Ytabnafjndljimaa
