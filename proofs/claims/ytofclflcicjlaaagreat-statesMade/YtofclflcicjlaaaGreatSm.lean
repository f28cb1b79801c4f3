/-
  Classes and states counted, place by place: plain lists; each condition stands at its theorem; laid ahead for layer 14 (in no claim): the place from which a state comes, the chain of states: plain lists; each condition stands at its theorem.
-/
import Derived.Test.YtofclflcicjlaaaGreatSp
namespace Go.Proofs.YtofclflcicjlaaaGreat
open Go.ChangeShapes Go.WideShapes Go.ChangeAt Go.RowKit
open Go.ChangeMaps (open_string shut_string)

/-! ### rows by functions; classes counted; states counted -/
def rowF (f : Nat → Nat) (s : Nat) : List Nat := (List.range s).map f
theorem rowF_len (f : Nat → Nat) (s : Nat) : (rowF f s).length = s := by simp [rowF]
theorem rowF_get (f : Nat → Nat) (s p : Nat) (hp : p < s) : g (rowF f s) p = f p := by
  unfold g rowF; rw [List.getD_eq_getElem?_getD, List.getElem?_map, List.getElem?_range hp]; rfl
theorem rowF_congr {f f' : Nat → Nat} {s : Nat} (h : ∀ t, t < s → f t = f' t) : rowF f s = rowF f' s := List.map_congr_left (fun t ht => h t (List.mem_range.1 ht))
theorem rowF_set (f : Nat → Nat) (s p : Nat) : (rowF f s).set p (f p + 1) = rowF (fun t => f t + if t = p then 1 else 0) s := by
  apply List.ext_getElem?
  intro t
  rw [List.getElem?_set]
  unfold rowF
  rw [List.getElem?_map, List.getElem?_map]
  by_cases ht : t < s
  · rw [List.getElem?_range ht]
    by_cases e : p = t
    · subst e; simp [ht]
    · have : ¬ t = p := fun h => e h.symm
      simp [e, this]
  · rw [List.getElem?_eq_none (by simp; omega)]
    by_cases e : p = t
    · subst e; simp [ht]
    · simp [e]
theorem nxt_any {L cs : List Nat} (h : ∀ c ∈ cs, c < L.length) (c : Nat) : ∀ m, m ≤ cs.length → g (nxt L cs m) c = g L c + (cs.take m).count c := by
  intro m
  induction m with
  | zero => intro _; simp [nxt]
  | succ m ih =>
    intro hm
    have hc := h _ (g_mem cs m (by omega))
    rw [take_snoc cs m (by omega), List.count_append, ← g_eq cs m (by omega), List.count_singleton]
    simp only [nxt]
    unfold g at *
    rw [set_getD _ _ _ _ (by rw [nxt_len]; exact hc)]
    by_cases e : c = cs.getD m 0
    · subst e
      rw [if_pos rfl, ih (by omega)]; simp; omega
    · rw [if_neg e, ih (by omega)]
      have : (cs.getD m 0 == c) = false := by simpa using fun h => e h.symm
      rw [this]; simp
def zr : List Nat := List.replicate 65 0
theorem zr_get (c : Nat) : g zr c = 0 := by
  unfold g zr; rw [List.getD_eq_getElem?_getD, List.getElem?_replicate]; split <;> rfl
theorem cnt_get {k : Nat} {M cs : List Nat} (h : Spd k M cs) (c m : Nat) (hm : m ≤ cs.length) : g (nxt zr cs m) c = (cs.take m).count c := by
  rw [nxt_any (fun c hc => by have := (spd_lt h hc).1; simp [zr]; omega) c m hm, zr_get, Nat.zero_add]
theorem cnt_all {k : Nat} {M cs : List Nat} (h : Spd k M cs) : nxt zr cs (2 ^ k) = M := by
  apply List.ext_getElem?
  intro c
  by_cases hc : c < 65
  · have e1 : (nxt zr cs (2 ^ k)).length = 65 := by rw [nxt_len]; simp [zr]
    have := cnt_get h c (2 ^ k) (by rw [h.all]; exact Nat.le_refl _)
    rw [List.take_of_length_le (by rw [h.all]; exact Nat.le_refl _), h.cnt, g_eq _ _ (by omega), g_eq _ _ (by rw [h.len]; exact hc)] at this
    rw [List.getElem?_eq_getElem (by omega), List.getElem?_eq_getElem (by rw [h.len]; exact hc), this]
  · rw [List.getElem?_eq_none (by rw [nxt_len]; simp [zr]; omega), List.getElem?_eq_none (by rw [h.len]; omega)]
theorem cnt_next {k : Nat} {M cs : List Nat} (_h : Spd k M cs) (m : Nat) (hm : m < cs.length) (c : Nat) : (cs.take (m + 1)).count c = (cs.take m).count c + if g cs m = c then 1 else 0 := by
  rw [take_snoc cs m hm, List.count_append, ← g_eq cs m hm, List.count_singleton]
  by_cases e : g cs m = c
  · simp [e]
  · have : (g cs m == c) = false := by simpa using e
    simp [e, this]
def hF (K n m t : Nat) : Nat := hit K (t + 2 ^ K) n m
def inF (K n m e j t : Nat) : Nat := hF K n m t + if e ≤ t ∧ t < e + j then 1 else 0
theorem inF_zero (K n m e t : Nat) : inF K n m e 0 t = hF K n m t := by unfold inF; rw [if_neg (by omega)]; rfl
theorem inF_succ (K n m e j t : Nat) : inF K n m e (j + 1) t = inF K n m e j t + if t = e + j then 1 else 0 := by
  unfold inF
  by_cases h : t = e + j
  · rw [if_pos (by omega), if_neg (by omega), if_pos h]
  · by_cases h2 : e ≤ t ∧ t < e + j
    · rw [if_pos (by omega), if_pos h2, if_neg h]
    · rw [if_neg (by omega), if_neg h2, if_neg h]
theorem inF_all (K n m t : Nat) (h : 2 ^ K ≤ (n + m) * 2 ^ bts K (n + m)) : inF K n m ((n + m) * 2 ^ bts K (n + m) - 2 ^ K) (2 ^ bts K (n + m)) t = hF K n (m + 1) t := by
  unfold inF hF
  simp only [hit]
  congr 1
  by_cases h2 : (t + 2 ^ K) / 2 ^ bts K (n + m) = n + m
  · rw [if_pos h2, if_pos ((cell_states K (n + m) t h).2 h2)]
  · rw [if_neg h2, if_neg (fun e => h2 ((cell_states K (n + m) t h).1 e))]
theorem hF_bd (K n : Nat) : ∀ m t, hF K n m t ≤ m := by
  intro m
  induction m with
  | zero => intro t; simp [hF, hit]
  | succ m ih =>
    intro t
    have := ih t
    unfold hF at *
    simp only [hit]
    split <;> omega
theorem hF_end {K n t : Nat} (hn : n ≤ 2 ^ K) (ht : t < 2 ^ K) : hF K n n t = if 0 < n then 1 else 0 := by
  unfold hF
  by_cases h : 0 < n
  · rw [if_pos h]; exact hit_all h hn (by omega) (by rw [Nat.pow_succ]; omega)
  · obtain rfl : n = 0 := by omega
    rfl
/-- What a place says: its class, bits and base are in bounds. -/
theorem cel_bd {k : Nat} {M cs : List Nat} (h : Spd k M cs) (i : Nat) (hi : i < 2 ^ k) : ∃ c b e, cel k M cs i = (c, b, e) ∧ g cs i = c ∧ c < 65 ∧ b ≤ k ∧ e + 2 ^ b ≤ 2 ^ k ∧ b = bts k (g M c + (cs.take i).count c) ∧ e = (g M c + (cs.take i).count c) * 2 ^ b - 2 ^ k ∧ 2 ^ k ≤ (g M c + (cs.take i).count c) * 2 ^ b := by
  have him : i < cs.length := by rw [h.all]; exact hi
  obtain ⟨x1, x2, x3, x4⟩ := xat_bd h i him
  have xe := xat_eq h i him
  obtain ⟨f1, f2⟩ := cell_fits k _ x3 x4
  obtain ⟨l1, l2, l3, l4⟩ := log2_bd x3 x4
  refine ⟨g cs i, bts k (xat M cs i), xat M cs i * 2 ^ bts k (xat M cs i) - 2 ^ k, rfl, rfl, (spd_lt h (g_mem cs i him)).1, by omega, ?_, by rw [← xe], by rw [← xe], by rw [← xe]; exact f1⟩
  rw [Nat.pow_succ] at f2
  omega

/-! ### the place from which a state comes -/
/-- Of the places of a class there is one with so many of its class ahead. -/
theorem place_of (c : Nat) : ∀ (cs : List Nat) (m : Nat), m < cs.count c → ∃ p, p < cs.length ∧ g cs p = c ∧ (cs.take p).count c = m := by
  intro cs
  induction cs with
  | nil => intro m h; simp at h
  | cons y cs ih =>
    intro m h
    by_cases e : y = c
    · subst e
      cases m with
      | zero => exact ⟨0, by simp, by simp [g], by simp⟩
      | succ m =>
        obtain ⟨p, h1, h2, h3⟩ := ih m (by simpa using h)
        exact ⟨p + 1, by simpa using h1, by simpa [g] using h2, by simp [h3]⟩
    · have e' : (y == c) = false := by simpa using e
      obtain ⟨p, h1, h2, h3⟩ := ih m (by simpa [List.count_cons, e'] using h)
      exact ⟨p + 1, by simpa using h1, by simpa [g] using h2, by simp [List.count_cons, e', h3]⟩
theorem take_cnt_lt {cs : List Nat} {p q : Nat} (hp : p < cs.length) (hpq : p < q) : (cs.take p).count (g cs p) < (cs.take q).count (g cs p) := by
  have h1 : (cs.take (p + 1)).count (g cs p) ≤ (cs.take q).count (g cs p) := by
    have : cs.take (p + 1) = (cs.take q).take (p + 1) := by rw [List.take_take, Nat.min_eq_left (by omega)]
    rw [this]
    exact (List.take_sublist _ _).count_le _
  rw [take_snoc cs p hp, List.count_append, ← g_eq cs p hp] at h1
  simp at h1; omega
def hits (K : Nat) (L cs : List Nat) (c x p : Nat) : Bool := decide (g cs p = c) && decide ((cel K L cs p).2.2 ≤ x) && decide (x < (cel K L cs p).2.2 + 2 ^ (cel K L cs p).2.1)
theorem hits_iff {K : Nat} {L cs : List Nat} (h : Spd K L cs) {c x p : Nat} (hp : p < 2 ^ K) :
    hits K L cs c x p = true ↔ g cs p = c ∧ (x + 2 ^ K) / 2 ^ bts K (g L c + (cs.take p).count c) = g L c + (cs.take p).count c := by
  unfold hits
  simp only [Bool.and_eq_true, decide_eq_true_eq, and_assoc]
  have him : p < cs.length := by rw [h.all]; exact hp
  obtain ⟨x1, x2, x3, x4⟩ := xat_bd h p him
  obtain ⟨f1, f2⟩ := cell_fits K _ x3 x4
  have xe := xat_eq h p him
  constructor
  · rintro ⟨e, h1, h2⟩
    subst e
    rw [← xe]
    exact ⟨rfl, (cell_states K _ x f1).1 ⟨h1, h2⟩⟩
  · rintro ⟨e, h1⟩
    subst e
    rw [← xe] at h1
    exact ⟨rfl, (cell_states K _ x f1).2 h1⟩
/-- The one place of a class from which one comes to a state. -/
theorem hits_one {K : Nat} {L cs : List Nat} (h : Spd K L cs) {c x : Nat} (hc : 0 < g L c) (hx : x < 2 ^ K) :
    ∃ p, p < 2 ^ K ∧ hits K L cs c x p = true ∧ ∀ q, q < 2 ^ K → hits K L cs c x q = true → q = p := by
  obtain ⟨X, ⟨a1, a2, a3⟩, u⟩ := reach (g L c) K (x + 2 ^ K) hc (spd_le h c) (by omega) (by rw [Nat.pow_succ]; omega)
  obtain ⟨p, p1, p2, p3⟩ := place_of c cs (X - g L c) (by rw [h.cnt]; omega)
  have hp : p < 2 ^ K := by rw [← h.all]; exact p1
  refine ⟨p, hp, (hits_iff h hp).2 ⟨p2, by rw [p3, show g L c + (X - g L c) = X from by omega]; exact a3⟩, fun q hq hh => ?_⟩
  obtain ⟨e, h1⟩ := (hits_iff h hq).1 hh
  have hqm : q < cs.length := by rw [h.all]; exact hq
  have c1 := cnt_lt h q hqm
  rw [e] at c1
  have := u _ (by omega) (by omega) h1
  rcases Nat.lt_trichotomy q p with l | l | l
  · have := take_cnt_lt hqm l
    rw [e] at this; omega
  · exact l
  · have := take_cnt_lt p1 l
    rw [p2] at this; omega
def fnd (K : Nat) (L cs : List Nat) (c x : Nat) : Nat := ((List.range (2 ^ K)).find? (hits K L cs c x)).getD 0
theorem fnd_is {K : Nat} {L cs : List Nat} (h : Spd K L cs) {c x : Nat} (hc : 0 < g L c) (hx : x < 2 ^ K) :
    fnd K L cs c x < 2 ^ K ∧ hits K L cs c x (fnd K L cs c x) = true ∧ ∀ q, q < 2 ^ K → hits K L cs c x q = true → q = fnd K L cs c x := by
  obtain ⟨p, p1, p2, p3⟩ := hits_one h hc hx
  have e : fnd K L cs c x = p := by
    unfold fnd
    cases hf : (List.range (2 ^ K)).find? (hits K L cs c x) with
    | none =>
      rw [List.find?_eq_none] at hf
      exact absurd p2 (hf p (List.mem_range.2 p1))
    | some q =>
      exact p3 q (List.mem_range.1 (List.mem_of_find?_eq_some hf)) (List.find?_some hf)
  rw [e]
  exact ⟨p1, p2, p3⟩
/-- Its cell: the class, and the state within what it says. -/
theorem fnd_cel {K : Nat} {L cs : List Nat} (h : Spd K L cs) {c x : Nat} (hc : 0 < g L c) (hx : x < 2 ^ K) :
    ∃ b e, cel K L cs (fnd K L cs c x) = (c, b, e) ∧ e ≤ x ∧ x < e + 2 ^ b ∧ b ≤ K ∧ e + 2 ^ b ≤ 2 ^ K := by
  obtain ⟨f1, f2, f3⟩ := fnd_is h hc hx
  unfold hits at f2
  simp only [Bool.and_eq_true, decide_eq_true_eq, and_assoc] at f2
  obtain ⟨c', b, e, hcel, hg, -, hb, he, -⟩ := cel_bd h _ f1
  rw [hcel] at f2
  obtain ⟨g1, g2, g3⟩ := f2
  rw [hg] at g1
  subst g1
  exact ⟨b, e, hcel, g2, g3, hb, he⟩
/-! ### the chain of states, from the last part on -/
def sts (K : Nat) (L cs : List Nat) : List Nat → Nat
  | [] => 0
  | c :: l => fnd K L cs c (sts K L cs l)
/-- What is put: of the last part first. -/
def vls (K : Nat) (L cs : List Nat) : List Nat → List (Nat × Nat)
  | [] => []
  | c :: l => vls K L cs l ++ [(sts K L cs l - (cel K L cs (fnd K L cs c (sts K L cs l))).2.2, (cel K L cs (fnd K L cs c (sts K L cs l))).2.1)]
theorem vls_len (K : Nat) (L cs : List Nat) (l : List Nat) : (vls K L cs l).length = l.length := by
  induction l with
  | nil => rfl
  | cons c l ih => simp [vls, ih]
theorem sts_lt {K : Nat} {L cs : List Nat} (h : Spd K L cs) : ∀ l : List Nat, (∀ c ∈ l, 0 < g L c) → sts K L cs l < 2 ^ K := by
  intro l
  induction l with
  | nil => intro _; exact Nat.two_pow_pos K
  | cons c l ih => intro hl; exact (fnd_is h (hl c (by simp)) (ih (fun d hd => hl d (by simp [hd])))).1
theorem vls_bd {K : Nat} {L cs : List Nat} (h : Spd K L cs) : ∀ l : List Nat, (∀ c ∈ l, 0 < g L c) → ∀ v ∈ vls K L cs l, v.1 < 2 ^ v.2 ∧ v.2 ≤ K := by
  intro l
  induction l with
  | nil => intro _ v hv; simp [vls] at hv
  | cons c l ih =>
    intro hl v hv
    simp only [vls] at hv
    rcases List.mem_append.1 hv with hv | hv
    · exact ih (fun d hd => hl d (by simp [hd])) v hv
    · obtain ⟨b, e, hcel, h1, h2, h3, h4⟩ := fnd_cel h (hl c (by simp)) (sts_lt h l (fun d hd => hl d (by simp [hd])))
      rw [hcel] at hv
      simp at hv
      subst hv
      simp only
      omega
/-- From the state ahead of a part one comes to the one behind it. -/
theorem sts_step {K : Nat} {L cs : List Nat} (h : Spd K L cs) (c : Nat) (l : List Nat) (hl : ∀ d ∈ c :: l, 0 < g L d) :
    ∃ b e v, cel K L cs (sts K L cs (c :: l)) = (c, b, e) ∧ vls K L cs (c :: l) = vls K L cs l ++ [(v, b)] ∧ e + v = sts K L cs l ∧ v < 2 ^ b ∧ b ≤ K := by
  obtain ⟨b, e, hcel, h1, h2, h3, h4⟩ := fnd_cel h (hl c (by simp)) (sts_lt h l (fun d hd => hl d (by simp [hd])))
  refine ⟨b, e, sts K L cs l - e, hcel, ?_, by omega, by omega, h3⟩
  simp only [vls]
  rw [hcel]
end Go.Proofs.YtofclflcicjlaaaGreat
