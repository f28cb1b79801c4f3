/-
  The lengths that the cheapest packages say are those of the splits.
-/
import Derived.Test.YtabnafjndljimaaMq
import Derived.Test.YtabnafjndljimaaPs
namespace Go.Proofs.Ytabnafjndljimaa
open Go.ChangeShapes Go.WideShapes Go.ChangeAt Go.RowKit
open Go.ChangeMaps (open_string shut_string)

/-! ### sums of packages; a single's number -/
def vec (N : Nat) (ls : List Nat) : List Nat := (List.range N).map (fun q => ln ls (N - 1 - q))
def unit (N r : Nat) : List Nat := (List.replicate N 0).set r 1
def ks (cs : List Nat) : List Nat := (List.range cs.length).map (fun q => fk (at0 cs q) (unit cs.length q))
theorem vec_len (N : Nat) (ls : List Nat) : (vec N ls).length = N := by simp [vec]
theorem unit_len (N r : Nat) : (unit N r).length = N := by simp [unit]
theorem unit_le (N r : Nat) : ∀ t ∈ unit N r, t ≤ 1 := by
  intro t ht
  unfold unit at ht
  rcases List.mem_or_eq_of_mem_set ht with h | h
  · have := List.eq_of_mem_replicate h; omega
  · omega
theorem sum_flip (h : Nat → Nat) : ∀ N, ((List.range N).map h).sum = ((List.range N).map (fun q => h (N - 1 - q))).sum
  | 0 => rfl
  | N + 1 => by
    rw [List.range_succ, List.map_append, List.sum_append, sum_flip h N, ← List.range_succ, List.range_succ_eq_map]
    simp only [List.map_cons, List.map_nil, List.sum_cons, List.sum_nil, Nat.add_zero, List.map_map]
    have e : (List.range N).map ((fun q => h (N + 1 - 1 - q)) ∘ Nat.succ) = (List.range N).map (fun q => h (N - 1 - q)) := by
      apply List.map_congr_left
      intro q _
      show h (N + 1 - 1 - (q + 1)) = h (N - 1 - q)
      congr 1; omega
    rw [e]
    show _ = h (N + 1 - 1 - 0) + _
    rw [show N + 1 - 1 - 0 = N by omega]; omega
theorem fk_scale (k : Nat) : ∀ (ts : List Nat) (a : Nat), fk (k * a) (ts.map (k * ·)) = k * fk a ts
  | [], a => rfl
  | t :: ts, a => by
    rw [List.map_cons, fk_cons, fk_cons, ← fk_scale k ts]
    have e : k * a * MB + k * t = k * (a * MB + t) := by rw [Nat.mul_add, Nat.mul_assoc]
    rw [e]
theorem fk_zero : ∀ n, fk 0 (List.replicate n 0) = 0
  | 0 => rfl
  | n + 1 => by rw [List.replicate_succ, fk_cons, Nat.zero_mul, Nat.zero_add]; exact fk_zero n
/-- The first m lengths, and noughts: the sum of as many singles, each so often. -/
theorem fk_part (cs lens : List Nat) (hl : lens.length = cs.length) : ∀ m, m ≤ cs.length →
    fk (((List.range m).map (fun q => at0 lens q * at0 cs q)).sum) (lens.take m ++ List.replicate (cs.length - m) 0) = ((List.range m).map (fun q => at0 lens q * fk (at0 cs q) (unit cs.length q))).sum
  | 0, _ => by simp [fk_zero]
  | m + 1, hm => by
    rw [List.range_succ, List.map_append, List.sum_append, List.map_append, List.sum_append, ← fk_part cs lens hl m (by omega)]
    simp only [List.map_cons, List.map_nil, List.sum_cons, List.sum_nil, Nat.add_zero]
    rw [← fk_scale, ← fk_add _ _ _ _ (by simp [unit_len]; omega)]
    congr 1
    apply List.ext_getElem?
    intro i
    have hml : m < lens.length := by omega
    rw [List.getElem?_zipWith, List.getElem?_map]
    by_cases h1 : i < m
    · rw [List.getElem?_append_left (by simp; omega), List.getElem?_append_left (by simp; omega), List.getElem?_take, List.getElem?_take, if_pos (by omega), if_pos h1]
      unfold unit
      rw [List.getElem?_set, if_neg (by omega), List.getElem?_replicate, if_pos (by omega), List.getElem?_eq_getElem (by omega)]
      simp
    · by_cases h2 : i = m
      · subst h2
        rw [List.getElem?_append_left (by simp; omega), List.getElem?_append_right (by simp; omega), List.getElem?_take, if_pos (by omega)]
        unfold unit
        rw [List.getElem?_set, if_pos rfl, if_pos (by simp; omega), List.getElem?_replicate, if_pos (by simp; omega), List.getElem?_eq_getElem hml]
        simp [at0, List.getD_eq_getElem?_getD, hml]
      · by_cases h3 : i < cs.length
        · rw [List.getElem?_append_right (by simp; omega), List.getElem?_append_right (by simp; omega), List.getElem?_replicate, List.getElem?_replicate, if_pos (by simp; omega), if_pos (by simp; omega)]
          unfold unit
          rw [List.getElem?_set, if_neg (by omega), List.getElem?_replicate, if_pos (by omega)]
          simp
        · rw [List.getElem?_eq_none (by simp; omega), List.getElem?_eq_none (by simp; omega)]
theorem fk_all (cs lens : List Nat) (hl : lens.length = cs.length) : fk (((List.range cs.length).map (fun q => at0 lens q * at0 cs q)).sum) lens = ((List.range cs.length).map (fun q => at0 lens q * fk (at0 cs q) (unit cs.length q))).sum := by
  have := fk_part cs lens hl cs.length (Nat.le_refl _)
  rwa [List.take_of_length_le (by omega), Nat.sub_self, List.replicate_zero, List.append_nil] at this
/-! ### the singles, from the least frequent on, rise -/
theorem cmpL_at : ∀ (q : Nat) (s t : List Nat), (∀ i, i < q → at0 s i = at0 t i) → q < s.length → q < t.length → at0 s q < at0 t q → cmpL s t < 0
  | q, [], t, _, h, _, _ => by simp at h
  | q, _ :: _, [], _, _, h, _ => by simp at h
  | 0, a :: s, b :: t, _, _, _, h => by
    rw [at0_cons_zero, at0_cons_zero] at h
    rw [cmpL, if_pos h]; decide
  | q + 1, a :: s, b :: t, e, h1, h2, h => by
    have e0 := e 0 (by omega)
    rw [at0_cons_zero, at0_cons_zero] at e0
    subst e0
    rw [cmpL, if_neg (by omega), if_neg (by omega)]
    refine cmpL_at q s t (fun i hi => ?_) (by simpa using h1) (by simpa using h2) ?_
    · have := e (i + 1) (by omega); rwa [at0_cons_succ, at0_cons_succ] at this
    · rwa [at0_cons_succ, at0_cons_succ] at h
theorem unit_at (N r i : Nat) (hi : i < N) : at0 (unit N r) i = if i = r then 1 else 0 := by
  unfold at0 unit
  rw [List.getD_eq_getElem?_getD, List.getElem?_set]
  by_cases h : r = i
  · subst h; rw [if_pos rfl, if_pos (by simp; omega), if_pos rfl]; rfl
  · rw [if_neg h, List.getElem?_replicate, if_pos hi, if_neg (fun e => h e.symm)]; rfl
def Falls (cs : List Nat) : Prop := ∀ i j, i < j → j < cs.length → at0 cs j ≤ at0 cs i
theorem at0_rev (l : List Nat) (i : Nat) (h : i < l.length) : at0 l.reverse i = at0 l (l.length - 1 - i) := by
  unfold at0
  rw [List.getD_eq_getElem?_getD, List.getD_eq_getElem?_getD, List.getElem?_reverse h]
theorem ks_len (cs : List Nat) : (ks cs).length = cs.length := by simp [ks]
theorem ks_at (cs : List Nat) (q : Nat) (h : q < cs.length) : at0 (ks cs) q = fk (at0 cs q) (unit cs.length q) := by
  unfold at0 ks
  rw [List.getD_eq_getElem?_getD, List.getElem?_map, List.getElem?_range h]; rfl
theorem ks_rising (cs : List Nat) (h : Falls cs) : Rising (ks cs).reverse := by
  refine rising_of fun i j hij hj => ?_
  rw [List.length_reverse, ks_len] at hj
  rw [at0_rev _ _ (by rw [ks_len]; omega), at0_rev _ _ (by rw [ks_len]; omega), ks_len, ks_at _ _ (by omega), ks_at _ _ (by omega)]
  have hf := h (cs.length - 1 - j) (cs.length - 1 - i) (by omega) (by omega)
  apply Nat.le_of_lt
  have hb : ∀ r, ∀ x ∈ unit cs.length r, x < MB := fun r x hx => by have := unit_le _ _ x hx; unfold MB; omega
  refine (fk_lt _ _ _ _ (by rw [unit_len, unit_len]) (hb _) (hb _)).2 ?_
  by_cases e : at0 cs (cs.length - 1 - i) < at0 cs (cs.length - 1 - j)
  · exact .inl e
  · refine .inr ⟨by omega, cmpL_at (cs.length - 1 - j) _ _ (fun x hx => ?_) (by rw [unit_len]; omega) (by rw [unit_len]; omega) ?_⟩
    · rw [unit_at _ _ _ (by omega), unit_at _ _ _ (by omega), if_neg (by omega), if_neg (by omega)]
    · rw [unit_at _ _ _ (by omega), unit_at _ _ _ (by omega), if_neg (by omega), if_pos rfl]; omega
theorem ks_pos (cs : List Nat) (h : ∀ x ∈ cs, 0 < x) : ∀ x ∈ (ks cs).reverse, 0 < x := by
  intro x hx
  obtain ⟨q, hq, rfl⟩ := List.mem_map.1 (List.mem_reverse.1 hx)
  have hq := List.mem_range.1 hq
  have hc := h _ (at0_mem cs q hq)
  have : ∀ (ts : List Nat) (a : Nat), 0 < a → 0 < fk a ts := fun ts => by
    induction ts with
    | nil => intro a ha; exact ha
    | cons t ts ih => intro a ha; rw [fk_cons]; exact ih _ (by unfold MB; omega)
  exact this _ _ hc
theorem vec_at (N : Nat) (ls : List Nat) (q : Nat) (h : q < N) : at0 (vec N ls) q = ln ls (N - 1 - q) := by
  unfold at0 vec
  rw [List.getD_eq_getElem?_getD, List.getElem?_map, List.getElem?_range h]; rfl
/-- What the lengths of a chain cost, by the singles' numbers. -/
theorem chain_key (cs ls : List Nat) (hb : ∀ a ∈ ls, a ≤ cs.length) : (ls.map (pre (ks cs).reverse)).sum = fk (((List.range cs.length).map (fun q => at0 (vec cs.length ls) q * at0 cs q)).sum) (vec cs.length ls) := by
  rw [fk_all cs (vec cs.length ls) (vec_len _ _), ← ln_cost (ks cs).reverse ls (fun a ha => by rw [List.length_reverse, ks_len]; exact hb a ha), List.length_reverse, ks_len, sum_flip]
  congr 1
  apply List.map_congr_left
  intro q hq
  have hq := List.mem_range.1 hq
  rw [at0_rev _ _ (by rw [ks_len]; omega), ks_len, show cs.length - 1 - (cs.length - 1 - q) = q by omega, ks_at _ _ hq, vec_at _ _ _ hq, Nat.mul_comm]
theorem chain_f (cs ls : List Nat) (hb : ∀ a ∈ ls, a ≤ cs.length) : (ls.map (pre cs.reverse)).sum = ((List.range cs.length).map (fun q => at0 (vec cs.length ls) q * at0 cs q)).sum := by
  rw [← ln_cost cs.reverse ls (fun a ha => by rw [List.length_reverse]; exact hb a ha), List.length_reverse, sum_flip]
  congr 1
  apply List.map_congr_left
  intro q hq
  have hq := List.mem_range.1 hq
  rw [at0_rev _ _ (by omega), show cs.length - 1 - (cs.length - 1 - q) = q by omega, vec_at _ _ _ hq, Nat.mul_comm]
/-! ### the first of those that cost alike -/
theorem first_dev {s : List Nat} (hr : Rising s) : ∀ (d k : Nat) (ls bs : List Nat), Chain s d k ls → Wd k bs → bs.length = d → (∀ a ∈ bs, a ≤ s.length) → (bs.map (pre s)).sum = (ls.map (pre s)).sum → bs = ls ∨ ∃ p a r b t, ls = p ++ a :: r ∧ bs = p ++ b :: t ∧ a < b
  | 0, k, ls, bs, h, _, hl, _, _ => .inl (by rw [h.2, List.eq_nil_of_length_eq_zero hl])
  | d + 1, k, ls, bs, h, w, hl, hb, hc => by
    have hcost := chain_cost hr (d + 1) k ls h
    obtain ⟨a, r, rfl, h1, h2⟩ := h
    cases bs with
    | nil => simp at hl
    | cons b t =>
      obtain ⟨w1, w2⟩ := w
      have hlt : t.length = d := by simpa using hl
      have hbt : ∀ x ∈ t, x ≤ s.length := fun x hx => hb x (List.mem_cons_of_mem _ hx)
      have hbb := hb b List.mem_cons_self
      obtain ⟨g1, g2⟩ := wd_low hr t (2 * (k - b)) w2 hbt
      rw [hlt] at g1 g2
      have hB : k - b ≤ (prs (TL s d)).length := by rw [prs_len]; omega
      have sp := spl_least h1 b hbb w1 hB
      have h3 := h1.2.2.1
      rw [prs_len] at h3
      have c2 := chain_cost hr d _ r h2 (by omega)
      have ea : spc s (prs (TL s d)) k a = pre s a + (r.map (pre s)).sum := by unfold spc; rw [prs_pre _ _ h3, c2]
      have eb : spc s (prs (TL s d)) k b = pre s b + pre (TL s d) (2 * (k - b)) := by unfold spc; rw [prs_pre _ _ (by rw [prs_len] at hB; exact hB)]
      rw [List.map_cons, List.sum_cons, List.map_cons, List.sum_cons] at hc
      by_cases e1 : b < a
      · have := sp.2 e1; omega
      · by_cases e2 : a < b
        · exact .inr ⟨[], a, r, b, t, rfl, rfl, e2⟩
        · obtain rfl : a = b := by omega
          rcases first_dev hr d _ r t h2 w2 hlt hbt (by omega) with e | ⟨p, x, r', y, t', e1, e2, e3⟩
          · exact .inl (by rw [e])
          · exact .inr ⟨a :: p, x, r', y, t', by rw [e1]; rfl, by rw [e2]; rfl, e3⟩
theorem ln_append (a b : List Nat) (r : Nat) : ln (a ++ b) r = ln a r + ln b r := by unfold ln; exact List.countP_append
theorem ln_none (t : List Nat) (r : Nat) (h : ∀ x ∈ t, x ≤ r) : ln t r = 0 := by
  unfold ln; rw [List.countP_eq_zero]; intro x hx; have := h x hx; simp; omega
theorem dev_lex (N : Nat) (p r t : List Nat) (a b : Nat) (hab : a < b) (hb : b ≤ N) (f1 : (p ++ a :: r).Pairwise (fun a b => b ≤ a)) (f2 : (p ++ b :: t).Pairwise (fun a b => b ≤ a)) : cmpL (vec N (p ++ a :: r)) (vec N (p ++ b :: t)) < 0 := by
  have q1 := (List.pairwise_cons.1 (List.pairwise_append.1 f1).2.1).1
  have q2 := (List.pairwise_cons.1 (List.pairwise_append.1 f2).2.1).1
  have e1 : ∀ x, a ≤ x → ln (p ++ a :: r) x = ln p x := fun x hx => by
    rw [ln_append, ln_none (a :: r) x (fun y hy => by rcases List.mem_cons.1 hy with h | h; omega; have := q1 y h; omega), Nat.add_zero]
  have e2 : ∀ x, b ≤ x → ln (p ++ b :: t) x = ln p x := fun x hx => by
    rw [ln_append, ln_none (b :: t) x (fun y hy => by rcases List.mem_cons.1 hy with h | h; omega; have := q2 y h; omega), Nat.add_zero]
  refine cmpL_at (N - b) _ _ (fun i hi => ?_) (by rw [vec_len]; omega) (by rw [vec_len]; omega) ?_
  · rw [vec_at _ _ _ (by omega), vec_at _ _ _ (by omega), e1 _ (by omega), e2 _ (by omega)]
  · rw [vec_at _ _ _ (by omega), vec_at _ _ _ (by omega), e1 _ (by omega), ln_append, ln_cons, if_pos (by omega)]; omega
/-- What the cheapest packages say are the lengths of the splits. -/
theorem times_are (cs : List Nat) (limit : Nat) (hf : Falls cs) (hp : ∀ x ∈ cs, 0 < x) (h2 : 2 ≤ cs.length) (hN : cs.length ≤ 65) (h7 : 7 ≤ limit) (h15 : limit ≤ 15) (pk : Pk) (ok : PkOk cs.length 16777215 pk) (hk : key pk = pre (TL (ks cs).reverse limit) (2 * cs.length - 2)) :
    ∃ ls, Chain cs.reverse limit (2 * cs.length - 2) ls ∧ pk.ts = vec cs.length ls := by
  have hrW := ks_rising cs hf
  have hpW := ks_pos cs hp
  have hrF : Rising cs.reverse := rising_of fun i j hij hj => by
    rw [List.length_reverse] at hj
    rw [at0_rev _ _ (by omega), at0_rev _ _ (by omega)]
    exact hf _ _ (by omega) (by omega)
  have hpF : ∀ x ∈ cs.reverse, 0 < x := fun x hx => hp x (List.mem_reverse.1 hx)
  have lW : (ks cs).reverse.length = cs.length := by rw [List.length_reverse, ks_len]
  have lF : cs.reverse.length = cs.length := List.length_reverse
  obtain ⟨bs, cW⟩ := chain_there (s := (ks cs).reverse) hrW (d := limit) (by omega) h7 h15
  obtain ⟨ls, cF⟩ := chain_there (s := cs.reverse) hrF (d := limit) (by omega) h7 h15
  rw [lW] at cW
  rw [lF] at cF
  obtain ⟨wW, dW, bW⟩ := chain_wd _ _ _ cW
  obtain ⟨wF, dF, bF⟩ := chain_wd _ _ _ cF
  rw [lW] at bW
  rw [lF] at bF
  have room : 2 * cs.length - 2 ≤ (TL (ks cs).reverse limit).length := by rw [TL_tl, lW]; exact tl_room _ hN limit h15 h7
  rw [chain_cost hrW limit _ bs cW room, chain_key cs bs bW] at hk
  have vb : ∀ ms : List Nat, ms.length = limit → ∀ x ∈ vec cs.length ms, x < MB := fun ms hm x hx => by
    obtain ⟨q, _, rfl⟩ := List.mem_map.1 hx
    have := ln_le ms (cs.length - 1 - q); unfold MB; omega
  obtain ⟨_, hts⟩ := fk_inj pk.ts (vec cs.length bs) pk.c _ (by rw [ok.1, vec_len]) (fun x hx => by have := ok.2.1 x hx; unfold MB; omega) (vb bs dW) hk
  have leF := chain_least hrF cF wW dW (fun a ha => by rw [lF]; exact bW a ha)
  have leW := chain_least hrW cW wF dF (fun a ha => by rw [lW]; exact bF a ha)
  rw [chain_key cs bs bW, chain_key cs ls bF] at leW
  rw [chain_f cs bs bW, chain_f cs ls bF] at leF
  have nlt := fun h => Nat.not_lt.2 leW ((fk_lt (vec cs.length ls) (vec cs.length bs) _ _ (by rw [vec_len, vec_len]) (vb ls dF) (vb bs dW)).2 h)
  have ec : ((List.range cs.length).map (fun q => at0 (vec cs.length ls) q * at0 cs q)).sum = ((List.range cs.length).map (fun q => at0 (vec cs.length bs) q * at0 cs q)).sum := by
    by_cases e : ((List.range cs.length).map (fun q => at0 (vec cs.length ls) q * at0 cs q)).sum < ((List.range cs.length).map (fun q => at0 (vec cs.length bs) q * at0 cs q)).sum
    · exact absurd (.inl e) nlt
    · omega
  refine ⟨ls, cF, ?_⟩
  rcases first_dev hrF limit _ ls bs cF wW dW (fun a ha => by rw [lF]; exact bW a ha) (by rw [chain_f cs bs bW, chain_f cs ls bF, ec]) with e | ⟨p, a, r, b, t, e1, e2, e3⟩
  · rw [hts, e]
  · exfalso
    refine nlt (.inr ⟨ec, ?_⟩)
    have fF := chain_falls hrF hpF _ _ _ cF
    have fW := chain_falls hrW hpW _ _ _ cW
    rw [e1] at fF ⊢
    have hbb := bW b (by rw [e2]; simp)
    rw [e2] at fW ⊢
    exact dev_lex cs.length p r t a b e3 hbb fF fW
end Go.Proofs.Ytabnafjndljimaa
