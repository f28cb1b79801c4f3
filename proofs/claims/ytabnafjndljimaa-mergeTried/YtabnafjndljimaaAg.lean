/-
  Lengths and frequencies at their places; classes alike often; each more than all ahead together.
-/
import Derived.Test.YtabnafjndljimaaAw
namespace Go.Proofs.Ytabnafjndljimaa
open Go.ChangeShapes Go.WideShapes Go.ChangeAt Go.RowKit
open Go.ChangeMaps (open_string shut_string)

/-! ### what stands where lengths were put -/
theorem fold_set_no (ps : List (Nat × Nat)) (c : Nat) (h : ∀ p ∈ ps, p.1 ≠ c) : ∀ l : List Nat, (ps.foldl (fun l p => l.set p.1 p.2) l).getD c 0 = l.getD c 0 := by
  induction ps with
  | nil => intro l; rfl
  | cons p ps ih =>
    intro l
    rw [List.foldl_cons, ih (fun q hq => h q (List.mem_cons_of_mem _ hq))]
    simp only [List.getD_eq_getElem?_getD]
    rw [List.getElem?_set, if_neg (h p List.mem_cons_self)]
theorem fold_set_at : ∀ (ps : List (Nat × Nat)) (l : List Nat) (q : Nat) (hq : q < ps.length), (ps.map (·.1)).Nodup → ps[q].1 < l.length → at0 (ps.foldl (fun l p => l.set p.1 p.2) l) ps[q].1 = ps[q].2
  | [], _, q, hq, _, _ => by simp at hq
  | p :: ps, l, 0, _, hn, hl => by
    show at0 _ p.1 = p.2
    have hl' : p.1 < l.length := hl
    rw [List.map_cons, List.nodup_cons] at hn
    rw [List.foldl_cons]
    unfold at0
    rw [fold_set_no ps p.1 (fun x hx e => hn.1 (by rw [← e]; exact List.mem_map_of_mem hx)), List.getD_eq_getElem?_getD, List.getElem?_set, if_pos rfl, if_pos hl']; rfl
  | p :: ps, l, q + 1, hq, hn, hl => by
    rw [List.map_cons, List.nodup_cons] at hn
    rw [List.foldl_cons]
    exact fold_set_at ps (l.set p.1 p.2) q (by simpa using hq) hn.2 (by rw [List.length_set]; exact hl)
theorem put_at (o r : List Nat) (q : Nat) (ho : q < o.length) (hr : r.length = o.length) (hn : o.Nodup) (h65 : o[q] < 65) : at0 (put o r) o[q] = at0 r q := by
  have hz : q < (o.zip r).length := by rw [List.length_zip]; omega
  have e1 : (o.zip r)[q].1 = o[q] := by simp
  have e2 : (o.zip r)[q].2 = r[q] := by simp
  have := fold_set_at (o.zip r) (List.replicate 65 0) q hz (by rw [List.map_fst_zip (by omega)]; exact hn) (by rw [e1]; simpa using h65)
  rw [e1, e2] at this
  unfold put
  rw [this]
  unfold at0
  rw [List.getD_eq_getElem?_getD, List.getElem?_eq_getElem (by omega)]; rfl
theorem put_no (o r : List Nat) (c : Nat) (h : c ∉ o) : at0 (put o r) c = 0 := by
  unfold put at0
  rw [fold_set_no (o.zip r) c (fun p hp e => h (by rw [← e]; exact (List.of_mem_zip hp).1))]
  rw [List.getD_eq_getElem?_getD, List.getElem?_replicate]
  split <;> rfl
/-! ### frequencies set at some places -/
def asg (ps : List (Nat × Int)) : List Int := ps.foldl (fun f p => f.set p.1 p.2) (List.replicate 65 0)
theorem asg_snoc (ps : List (Nat × Int)) (p : Nat × Int) : asg (ps ++ [p]) = (asg ps).set p.1 p.2 := by unfold asg; rw [List.foldl_append]; rfl
theorem asg_len (ps : List (Nat × Int)) : (asg ps).length = 65 := by
  have : ∀ (ps : List (Nat × Int)) (l : List Int), (ps.foldl (fun f p => f.set p.1 p.2) l).length = l.length := fun ps => by
    induction ps with
    | nil => intro l; rfl
    | cons p ps ih => intro l; rw [List.foldl_cons, ih, List.length_set]
  unfold asg; rw [this]; simp
theorem fr_set (f : List Int) (p : Nat) (z : Int) (c : Nat) (h : p < f.length) : fr (f.set p z) c = if c = p then z else fr f c := by
  unfold fr
  rw [List.getD_eq_getElem?_getD, List.getD_eq_getElem?_getD, List.getElem?_set]
  by_cases e : p = c
  · subst e; rw [if_pos rfl, if_pos h, if_pos rfl]; rfl
  · rw [if_neg e, if_neg (fun h => e h.symm)]
theorem fr_zero (c : Nat) : fr (asg []) c = 0 := by
  show (List.replicate 65 (0 : Int)).getD c 0 = 0
  rw [List.getD_eq_getElem?_getD, List.getElem?_replicate]
  split <;> rfl
theorem snoc_ind {α : Type} {motive : List α → Prop} (nil : motive []) (snoc : ∀ l a, motive l → motive (l ++ [a])) (l : List α) : motive l := by
  rw [← l.reverse_reverse]
  induction l.reverse with
  | nil => exact nil
  | cons a m ih => rw [List.reverse_cons]; exact snoc _ _ ih
theorem asg_no (ps : List (Nat × Int)) (h65 : ∀ p ∈ ps, p.1 < 65) (c : Nat) (h : ∀ p ∈ ps, p.1 ≠ c) : fr (asg ps) c = 0 := by
  induction ps using snoc_ind with
  | nil => exact fr_zero c
  | snoc ps p ih =>
    have hp : p ∈ ps ++ [p] := by simp
    rw [asg_snoc, fr_set _ _ _ _ (by rw [asg_len]; exact h65 p hp), if_neg (fun e => h p hp e.symm)]
    exact ih (fun q hq => h65 q (List.mem_append_left _ hq)) (fun q hq => h q (List.mem_append_left _ hq))
theorem asg_at (ps : List (Nat × Int)) (h65 : ∀ p ∈ ps, p.1 < 65) (hn : (ps.map (·.1)).Nodup) : ∀ p ∈ ps, fr (asg ps) p.1 = p.2 := by
  induction ps using snoc_ind with
  | nil => intro p hp; simp at hp
  | snoc ps q ih =>
    intro p hp
    have hq : q ∈ ps ++ [q] := by simp
    rw [List.map_append, List.nodup_append] at hn
    rw [asg_snoc, fr_set _ _ _ _ (by rw [asg_len]; exact h65 q hq)]
    rcases List.mem_append.1 hp with h | h
    · rw [if_neg (fun e => hn.2.2 p.1 (List.mem_map_of_mem h) q.1 (by simp) e)]
      exact ih (fun x hx => h65 x (List.mem_append_left _ hx)) hn.1 p h
    · rw [List.mem_singleton.1 h, if_pos rfl]
theorem asg_mem (ps : List (Nat × Int)) (B : Int) (h0 : 0 ≤ B) (hb : ∀ p ∈ ps, 0 ≤ p.2 ∧ p.2 ≤ B) : ∀ z ∈ asg ps, 0 ≤ z ∧ z ≤ B := by
  induction ps using snoc_ind with
  | nil => intro z hz; have := List.eq_of_mem_replicate (show z ∈ List.replicate 65 (0 : Int) from hz); omega
  | snoc ps q ih =>
    intro z hz
    rw [asg_snoc] at hz
    rcases List.mem_or_eq_of_mem_set hz with h | h
    · exact ih (fun p hp => hb p (List.mem_append_left _ hp)) z h
    · rw [h]; exact hb q (by simp)
theorem asg_order (ps : List (Nat × Int)) (h65 : ∀ p ∈ ps, p.1 < 65) (hn : (ps.map (·.1)).Nodup) (hp : ∀ p ∈ ps, 0 < p.2) (o : List Nat) (h : Ordered (asg ps) 65 o) : o.Perm (ps.map (·.1)) := by
  refine (List.perm_ext_iff_of_nodup (ordered_nodup h) hn).2 fun c => ?_
  rw [ordered_mem h c]
  constructor
  · intro ⟨h1, h2⟩
    by_cases e : ∃ p ∈ ps, p.1 = c
    · obtain ⟨p, hp, rfl⟩ := e; exact List.mem_map_of_mem hp
    · rw [asg_no ps h65 c (fun p hp e' => e ⟨p, hp, e'⟩)] at h2; omega
  · intro hc
    obtain ⟨p, hp', rfl⟩ := List.mem_map.1 hc
    exact ⟨h65 p hp', by rw [asg_at ps h65 hn p hp']; exact hp p hp'⟩
theorem asg_cs (ps : List (Nat × Int)) (h65 : ∀ p ∈ ps, p.1 < 65) (hn : (ps.map (·.1)).Nodup) (hp : ∀ p ∈ ps, 0 < p.2) (o : List Nat) (h : Ordered (asg ps) 65 o) : (cs (asg ps) o).Perm (ps.map (fun p => p.2.toNat)) := by
  have p1 := (asg_order ps h65 hn hp o h).map (fun c => (fr (asg ps) c).toNat)
  refine p1.trans ?_
  rw [List.map_map]
  exact List.Perm.of_eq (List.map_congr_left fun p hp' => by show (fr (asg ps) p.1).toNat = _; rw [asg_at ps h65 hn p hp'])
theorem cs_rising {f : List Int} {n : Nat} {o : List Nat} (h : Ordered f n o) : Rising (cs f o).reverse := rising_of fun i j hij hj => by
  rw [List.length_reverse] at hj
  rw [at0_rev _ _ (by omega), at0_rev _ _ (by omega)]
  exact cs_falls h _ _ (by omega) (by omega)
theorem cs_pos' {f : List Int} {n : Nat} {o : List Nat} (h : Ordered f n o) : ∀ x ∈ (cs f o).reverse, 0 < x := fun x hx => cs_pos h x (List.mem_reverse.1 hx)
theorem mayB_of (f : List Int) (limit : Nat) (h : ∀ z ∈ f, 0 ≤ z ∧ z ≤ 16777216) (h7 : 7 ≤ limit) (h15 : limit ≤ 15) : mayB f 65 (limit : Int) = true := by
  have e : f.any badz = false := by
    rw [List.any_eq_false]
    intro z hz
    have := h z hz
    unfold badz; simp; omega
  unfold mayB
  rw [e]
  have a : decide ((7 : Int) ≤ (limit : Int)) = true := decide_eq_true (by omega)
  have b : decide ((limit : Int) ≤ 15) = true := decide_eq_true (by omega)
  rw [a, b]; rfl
/-! ### classes alike often -/
def fls (N : Nat) : Nat → Nat → List Nat
  | 0, _ => []
  | d + 1, k => min k N :: fls N d (2 * (k - min k N))
theorem flat_at (N x : Nat) (i : Nat) (h : i < N) : at0 (List.replicate N x) i = x := by unfold at0; rw [List.getD_eq_getElem?_getD, List.getElem?_replicate, if_pos h]; rfl
theorem flat_low (N x : Nat) (hx : 0 < x) : ∀ d i, i < (TL (List.replicate N x) d).length → x ≤ at0 (TL (List.replicate N x) d) i
  | 0, i, h => by simp [TL] at h
  | d + 1, i, h => by
    rcases mrg_mem _ _ _ (at0_mem _ i h) with h' | h'
    · have := List.eq_of_mem_replicate h'
      show x ≤ at0 (mrg _ _) i
      omega
    · obtain ⟨t, ht, e⟩ := List.getElem_of_mem h'
      have ht' := ht
      rw [prs_len] at ht'
      have e' : at0 (prs (TL (List.replicate N x) d)) t = at0 (mrg (List.replicate N x) (prs (TL (List.replicate N x) d))) i := by
        rw [← e]; unfold at0; rw [List.getD_eq_getElem?_getD, List.getElem?_eq_getElem ht]; rfl
      show x ≤ at0 (mrg (List.replicate N x) (prs (TL (List.replicate N x) d))) i
      rw [← e', prs_at _ t ht']
      have := flat_low N x hx d (2 * t) (by omega)
      omega
theorem flat_chain (N x : Nat) (hx : 0 < x) : ∀ d k ls, Chain (List.replicate N x) d k ls → ls = fls N d k
  | 0, k, ls, h => h.2
  | d + 1, k, ls, h => by
    obtain ⟨a, r, rfl, h1, h2⟩ := h
    have ha : a = min k N := by
      obtain ⟨q1, q2, q3, q4, q5⟩ := h1
      rw [List.length_replicate] at q1 q5
      by_cases e : a = k ∨ a = N
      · omega
      · have := q5 a 0 (Nat.le_refl _) (by omega) (by omega)
        rw [flat_at N x a (by omega), prs_at _ 0 (by rw [prs_len] at q3; omega)] at this
        rw [prs_len] at q3
        have u1 := flat_low N x hx d (2 * 0) (by omega)
        have u2 := flat_low N x hx d (2 * 0 + 1) (by omega)
        omega
    subst ha
    rw [fls, flat_chain N x hx d _ r h2]
theorem flat_ln : ∀ k, k < 7 → 0 < k → ∀ r, r < 2 ^ k → ln (fls (2 ^ k) 7 (2 * 2 ^ k - 2)) r = k := by decide +kernel
/-! ### each more than all ahead together -/
def stp (m : Nat) : List Nat := (List.range m).map (fun i => 2 ^ i)
def sls (m d : Nat) : List Nat := (List.range d).map (fun l => if l + 1 < m then m - l else 0)
theorem steep_chain : ∀ d, d < 16 → 7 ≤ d → ∀ m, m < d + 2 → 2 ≤ m → chainB (stp m) d (2 * m - 2) (sls m d) = true := by decide +kernel
theorem steep_ln : ∀ d, d < 16 → 7 ≤ d → ∀ m, m < d + 2 → 2 ≤ m → ∀ i, i < m → ln (sls m d) i = min (m - i) (m - 1) := by decide +kernel
end Go.Proofs.Ytabnafjndljimaa
