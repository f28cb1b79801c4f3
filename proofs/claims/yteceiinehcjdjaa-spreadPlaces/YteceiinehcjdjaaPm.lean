/-
  Classes and states counted, place by place: plain lists; each condition stands at its theorem.
-/
import Derived.Test.YteceiinehcjdjaaSp
namespace Go.Proofs.Yteceiinehcjdjaa
open Go.ChangeShapes Go.WideShapes Go.ChangeAt Go.RowKit
open Go.ChangeMaps (open_string shut_string)

/-! ### rows by functions; classes counted; states counted -/
def rowF (f : Nat → Nat) (s : Nat) : List Nat := (List.range s).map f
theorem rowF_len (f : Nat → Nat) (s : Nat) : (rowF f s).length = s := by simp [rowF]
theorem rowF_get (f : Nat → Nat) (s p : Nat) (hp : p < s) : g (rowF f s) p = f p := by
  unfold g rowF; rw [List.getD_eq_getElem?_getD, List.getElem?_map, List.getElem?_range hp]; rfl
theorem rowF_congr {f f' : Nat → Nat} {s : Nat} (h : ∀ t, t < s → f t = f' t) : rowF f s = rowF f' s := List.map_congr_left (fun t ht => h t (List.mem_range.1 ht))
theorem rowF_set (f : Nat → Nat) (s p : Nat) : (rowF f s).set p (f p + 1) = rowF (fun t => f t + if t = p then 1 else 0) s := by
  apply List.ext_getElem?
  intro t
  rw [List.getElem?_set]
  unfold rowF
  rw [List.getElem?_map, List.getElem?_map]
  by_cases ht : t < s
  · rw [List.getElem?_range ht]
    by_cases e : p = t
    · subst e; simp [ht]
    · have : ¬ t = p := fun h => e h.symm
      simp [e, this]
  · rw [List.getElem?_eq_none (by simp; omega)]
    by_cases e : p = t
    · subst e; simp [ht]
    · simp [e]
theorem nxt_any {L cs : List Nat} (h : ∀ c ∈ cs, c < L.length) (c : Nat) : ∀ m, m ≤ cs.length → g (nxt L cs m) c = g L c + (cs.take m).count c := by
  intro m
  induction m with
  | zero => intro _; simp [nxt]
  | succ m ih =>
    intro hm
    have hc := h _ (g_mem cs m (by omega))
    rw [take_snoc cs m (by omega), List.count_append, ← g_eq cs m (by omega), List.count_singleton]
    simp only [nxt]
    unfold g at *
    rw [set_getD _ _ _ _ (by rw [nxt_len]; exact hc)]
    by_cases e : c = cs.getD m 0
    · subst e
      rw [if_pos rfl, ih (by omega)]; simp; omega
    · rw [if_neg e, ih (by omega)]
      have : (cs.getD m 0 == c) = false := by simpa using fun h => e h.symm
      rw [this]; simp
def zr : List Nat := List.replicate 65 0
theorem zr_get (c : Nat) : g zr c = 0 := by
  unfold g zr; rw [List.getD_eq_getElem?_getD, List.getElem?_replicate]; split <;> rfl
theorem cnt_get {k : Nat} {M cs : List Nat} (h : Spd k M cs) (c m : Nat) (hm : m ≤ cs.length) : g (nxt zr cs m) c = (cs.take m).count c := by
  rw [nxt_any (fun c hc => by have := (spd_lt h hc).1; simp [zr]; omega) c m hm, zr_get, Nat.zero_add]
theorem cnt_all {k : Nat} {M cs : List Nat} (h : Spd k M cs) : nxt zr cs (2 ^ k) = M := by
  apply List.ext_getElem?
  intro c
  by_cases hc : c < 65
  · have e1 : (nxt zr cs (2 ^ k)).length = 65 := by rw [nxt_len]; simp [zr]
    have := cnt_get h c (2 ^ k) (by rw [h.all]; exact Nat.le_refl _)
    rw [List.take_of_length_le (by rw [h.all]; exact Nat.le_refl _), h.cnt, g_eq _ _ (by omega), g_eq _ _ (by rw [h.len]; exact hc)] at this
    rw [List.getElem?_eq_getElem (by omega), List.getElem?_eq_getElem (by rw [h.len]; exact hc), this]
  · rw [List.getElem?_eq_none (by rw [nxt_len]; simp [zr]; omega), List.getElem?_eq_none (by rw [h.len]; omega)]
theorem cnt_next {k : Nat} {M cs : List Nat} (_h : Spd k M cs) (m : Nat) (hm : m < cs.length) (c : Nat) : (cs.take (m + 1)).count c = (cs.take m).count c + if g cs m = c then 1 else 0 := by
  rw [take_snoc cs m hm, List.count_append, ← g_eq cs m hm, List.count_singleton]
  by_cases e : g cs m = c
  · simp [e]
  · have : (g cs m == c) = false := by simpa using e
    simp [e, this]
def hF (K n m t : Nat) : Nat := hit K (t + 2 ^ K) n m
def inF (K n m e j t : Nat) : Nat := hF K n m t + if e ≤ t ∧ t < e + j then 1 else 0
theorem inF_zero (K n m e t : Nat) : inF K n m e 0 t = hF K n m t := by unfold inF; rw [if_neg (by omega)]; rfl
theorem inF_succ (K n m e j t : Nat) : inF K n m e (j + 1) t = inF K n m e j t + if t = e + j then 1 else 0 := by
  unfold inF
  by_cases h : t = e + j
  · rw [if_pos (by omega), if_neg (by omega), if_pos h]
  · by_cases h2 : e ≤ t ∧ t < e + j
    · rw [if_pos (by omega), if_pos h2, if_neg h]
    · rw [if_neg (by omega), if_neg h2, if_neg h]
theorem inF_all (K n m t : Nat) (h : 2 ^ K ≤ (n + m) * 2 ^ bts K (n + m)) : inF K n m ((n + m) * 2 ^ bts K (n + m) - 2 ^ K) (2 ^ bts K (n + m)) t = hF K n (m + 1) t := by
  unfold inF hF
  simp only [hit]
  congr 1
  by_cases h2 : (t + 2 ^ K) / 2 ^ bts K (n + m) = n + m
  · rw [if_pos h2, if_pos ((cell_states K (n + m) t h).2 h2)]
  · rw [if_neg h2, if_neg (fun e => h2 ((cell_states K (n + m) t h).1 e))]
theorem hF_bd (K n : Nat) : ∀ m t, hF K n m t ≤ m := by
  intro m
  induction m with
  | zero => intro t; simp [hF, hit]
  | succ m ih =>
    intro t
    have := ih t
    unfold hF at *
    simp only [hit]
    split <;> omega
theorem hF_end {K n t : Nat} (hn : n ≤ 2 ^ K) (ht : t < 2 ^ K) : hF K n n t = if 0 < n then 1 else 0 := by
  unfold hF
  by_cases h : 0 < n
  · rw [if_pos h]; exact hit_all h hn (by omega) (by rw [Nat.pow_succ]; omega)
  · obtain rfl : n = 0 := by omega
    rfl
/-- What a place says: its class, bits and base are in bounds. -/
theorem cel_bd {k : Nat} {M cs : List Nat} (h : Spd k M cs) (i : Nat) (hi : i < 2 ^ k) : ∃ c b e, cel k M cs i = (c, b, e) ∧ g cs i = c ∧ c < 65 ∧ b ≤ k ∧ e + 2 ^ b ≤ 2 ^ k ∧ b = bts k (g M c + (cs.take i).count c) ∧ e = (g M c + (cs.take i).count c) * 2 ^ b - 2 ^ k ∧ 2 ^ k ≤ (g M c + (cs.take i).count c) * 2 ^ b := by
  have him : i < cs.length := by rw [h.all]; exact hi
  obtain ⟨x1, x2, x3, x4⟩ := xat_bd h i him
  have xe := xat_eq h i him
  obtain ⟨f1, f2⟩ := cell_fits k _ x3 x4
  obtain ⟨l1, l2, l3, l4⟩ := log2_bd x3 x4
  refine ⟨g cs i, bts k (xat M cs i), xat M cs i * 2 ^ bts k (xat M cs i) - 2 ^ k, rfl, rfl, (spd_lt h (g_mem cs i him)).1, by omega, ?_, by rw [← xe], by rw [← xe], by rw [← xe]; exact f1⟩
  rw [Nat.pow_succ] at f2
  omega
end Go.Proofs.Yteceiinehcjdjaa
