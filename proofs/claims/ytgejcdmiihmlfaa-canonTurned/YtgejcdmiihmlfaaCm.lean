/-
  Codes by their lengths: whole numbers and lists alone; no Go in sight.
-/
import Derived.Test.YtgejcdmiihmlfaaMv
namespace Go.Proofs.Ytgejcdmiihmlfaa
open Go.ChangeShapes Go.WideShapes Go.ChangeAt Go.RowKit
open Go.ChangeMaps (open_string shut_string)

/-! ### lengths that may be -/
def nat (f : List Int) : List Nat := f.map Int.toNat
def okL (L : List Nat) : Bool := decide (mC L 65 = 0) || decide (mS L 65 = 32768) || (decide (mC L 65 = 1) && decide (mS L 65 = 16384))
def mayL (f : List Int) : Bool := decide (f.length = 65) && !(f.any badl) && okL (nat f)
theorem badl_no (z : Int) : badl z = false ↔ 0 ≤ z ∧ z ≤ 15 := by unfold badl; simp
theorem any_no (f : List Int) : f.any badl = false ↔ ∀ z ∈ f, 0 ≤ z ∧ z ≤ 15 := by
  rw [List.any_eq_false]
  constructor
  · intro h z hz; exact (badl_no z).1 (by simpa using h z hz)
  · intro h z hz; simp [(badl_no z).2 (h z hz)]
theorem nat_len (f : List Int) : (nat f).length = f.length := by simp [nat]
theorem nat_back (f : List Int) (h : ∀ z ∈ f, 0 ≤ z ∧ z ≤ 15) : (nat f).map Int.ofNat = f := by
  unfold nat
  rw [List.map_map]
  conv => rhs; rw [← List.map_id f]
  apply List.map_congr_left
  intro z hz
  have := h z hz
  simp [Function.comp, Int.toNat_of_nonneg this.1]
theorem at0_of (l : List Nat) (i : Nat) (h : i < l.length) : at0 l i = l[i] := by unfold at0; rw [List.getD_eq_getElem?_getD, List.getElem?_eq_getElem h]; rfl
theorem at0_out (l : List Nat) (i : Nat) (h : l.length ≤ i) : at0 l i = 0 := by unfold at0; rw [List.getD_eq_getElem?_getD, List.getElem?_eq_none h]; rfl
theorem nat_at (f : List Int) (h : ∀ z ∈ f, 0 ≤ z ∧ z ≤ 15) (i : Nat) : fr f i = (at0 (nat f) i : Int) := by rw [← fr_nat, nat_back f h]
theorem nat_bd (f : List Int) (h : ∀ z ∈ f, 0 ≤ z ∧ z ≤ 15) (i : Nat) : at0 (nat f) i ≤ 15 := by
  by_cases hi : i < (nat f).length
  · rw [at0_of _ i hi]
    obtain ⟨z, hz, e⟩ := List.mem_map.1 (List.getElem_mem hi)
    have := h z hz
    omega
  · rw [at0_out _ i (by omega)]; omega
theorem nat_of (L : List Nat) : nat (L.map Int.ofNat) = L := by
  unfold nat
  rw [List.map_map]
  conv => rhs; rw [← List.map_id L]
  apply List.map_congr_left
  intro z _
  rfl
theorem of_bd (L : List Nat) (h : ∀ c, at0 L c ≤ 15) : ∀ z ∈ L.map Int.ofNat, (0 : Int) ≤ z ∧ z ≤ 15 := by
  intro z hz
  obtain ⟨n, hn, rfl⟩ := List.mem_map.1 hz
  obtain ⟨i, hi, rfl⟩ := List.getElem_of_mem hn
  have := h i
  rw [at0_of L i hi] at this
  simp; omega
theorem mayL_of (L : List Nat) (hl : L.length = 65) (h : ∀ c, at0 L c ≤ 15) : mayL (L.map Int.ofNat) = okL L := by
  unfold mayL
  rw [(any_no _).2 (of_bd L h), nat_of]; simp [hl]
theorem mayL_yes {f : List Int} (h : mayL f = true) : f.length = 65 ∧ (∀ z ∈ f, 0 ≤ z ∧ z ≤ 15) ∧ okL (nat f) = true := by
  unfold mayL at h
  simp only [Bool.and_eq_true, decide_eq_true_eq, Bool.not_eq_true'] at h
  exact ⟨h.1.1, (any_no f).1 h.1.2, h.2⟩
theorem okL_iff (L : List Nat) : okL L = true ↔ mC L 65 = 0 ∨ mS L 65 = 32768 ∨ (mC L 65 = 1 ∧ mS L 65 = 16384) := by
  unfold okL; simp [or_assoc]
/-- The number of those that are there bounds how much they take. -/
theorem mS_mC (L : List Nat) : ∀ i, mS L i ≤ mC L i * 16384
  | 0 => by simp [mS, mC]
  | i + 1 => by
    have ih := mS_mC L i
    rw [mS_succ, mC_succ]
    by_cases h : 0 < at0 L i
    · rw [if_pos h, if_pos h, Nat.add_mul]
      have : 2 ^ (15 - at0 L i) ≤ 16384 := Nat.le_trans (Nat.pow_le_pow_right (by omega) (by omega : 15 - at0 L i ≤ 14)) (by decide)
      omega
    · rw [if_neg h, if_neg h]; omega
theorem ok_sum {L : List Nat} (h : okL L = true) : mS L 65 ≤ 32768 := by
  have := mS_mC L 65
  rcases (okL_iff L).1 h with h | h | h
  · rw [h] at this; omega
  · omega
  · omega

/-! ### codes by their lengths -/
def w15 (l : Nat) : Nat := 2 ^ (15 - l)
def acc (ls : List Nat) : Nat := (ls.map w15).sum
theorem w15_pos (l : Nat) : 0 < w15 l := Nat.two_pow_pos _
theorem w15_step (l m : Nat) (h : l ≤ m) (hm : m ≤ 15) : 2 ^ (m - l) * w15 m = w15 l := by
  unfold w15; rw [← Nat.pow_add, show m - l + (15 - m) = 15 - l by omega]
theorem w15_full (l : Nat) (h : l ≤ 15) : 2 ^ l * w15 l = 32768 := by
  unfold w15; rw [← Nat.pow_add, show l + (15 - l) = 15 by omega]
theorem acc_cons (l : Nat) (ls : List Nat) : acc (l :: ls) = w15 l + acc ls := by unfold acc; rw [List.map_cons, List.sum_cons]
theorem acc_append (a b : List Nat) : acc (a ++ b) = acc a + acc b := by unfold acc; rw [List.map_append, List.sum_append]
theorem acc_perm {a b : List Nat} (h : a.Perm b) : acc a = acc b := by unfold acc; exact (h.map w15).sum_nat
def row (L : List Nat) (n m : Nat) : List Nat := (List.range m).filter (fun c => decide (at0 L c = n))
def byLen (L : List Nat) : Nat → List Nat
  | 0 => []
  | n + 1 => byLen L n ++ row L (n + 1) 65
theorem row_succ (L : List Nat) (n m : Nat) : row L n (m + 1) = if at0 L m = n then row L n m ++ [m] else row L n m := by
  unfold row
  rw [List.range_succ, List.filter_append]
  by_cases h : at0 L m = n
  · rw [if_pos h]; simp [h]
  · rw [if_neg h]; simp [h]
theorem row_mem (L : List Nat) (n m c : Nat) : c ∈ row L n m ↔ c < m ∧ at0 L c = n := by unfold row; simp
theorem byLen_mem (L : List Nat) : ∀ n c, c ∈ byLen L n ↔ c < 65 ∧ 1 ≤ at0 L c ∧ at0 L c ≤ n
  | 0, c => by simp [byLen]; omega
  | n + 1, c => by
    rw [byLen, List.mem_append, byLen_mem L n c, row_mem]
    omega
theorem byLen_nodup (L : List Nat) : ∀ n, (byLen L n).Nodup
  | 0 => List.Pairwise.nil
  | n + 1 => by
    rw [byLen, List.nodup_append]
    refine ⟨byLen_nodup L n, List.Pairwise.filter _ List.nodup_range, fun a ha b hb e => ?_⟩
    have h1 := (byLen_mem L n a).1 ha
    have h2 := (row_mem L (n + 1) 65 b).1 hb
    subst e; omega
def lt2 (L : List Nat) (a b : Nat) : Prop := at0 L a < at0 L b ∨ (at0 L a = at0 L b ∧ a < b)
theorem row_sorted (L : List Nat) (n m : Nat) : (row L n m).Pairwise (lt2 L) := by
  unfold row
  rw [List.pairwise_filter]
  refine List.Pairwise.imp_of_mem ?_ List.pairwise_lt_range
  intro a b _ _ hab ha hb
  have ha' : at0 L a = n := by simpa using ha
  have hb' : at0 L b = n := by simpa using hb
  exact .inr ⟨by omega, hab⟩
theorem byLen_sorted (L : List Nat) : ∀ n, (byLen L n).Pairwise (lt2 L)
  | 0 => List.Pairwise.nil
  | n + 1 => by
    rw [byLen, List.pairwise_append]
    refine ⟨byLen_sorted L n, row_sorted L (n + 1) 65, fun a ha b hb => ?_⟩
    have h1 := (byLen_mem L n a).1 ha
    have h2 := (row_mem L (n + 1) 65 b).1 hb
    exact .inl (by omega)
theorem byLen_perm (L : List Nat) (hb : ∀ c, at0 L c ≤ 15) : (byLen L 15).Perm ((List.range 65).filter (fun c => decide (0 < at0 L c))) := by
  refine (List.perm_ext_iff_of_nodup (byLen_nodup L 15) (List.Pairwise.filter _ List.nodup_range)).2 (fun c => ?_)
  rw [byLen_mem, List.mem_filter, List.mem_range, decide_eq_true_iff]
  constructor
  · rintro ⟨h1, h2, _⟩; exact ⟨h1, h2⟩
  · rintro ⟨h1, h2⟩; exact ⟨h1, h2, hb c⟩
theorem sum_filterN (f : Nat → Nat) (p : Nat → Bool) : ∀ l : List Nat, ((l.filter p).map f).sum = (l.map (fun c => if p c = true then f c else 0)).sum
  | [] => rfl
  | c :: l => by
    rw [List.map_cons, List.sum_cons, ← sum_filterN f p l]
    by_cases h : p c = true
    · rw [List.filter_cons_of_pos h, List.map_cons, List.sum_cons, if_pos h]
    · rw [List.filter_cons_of_neg h, if_neg h, Nat.zero_add]
theorem byLen_acc (L : List Nat) (hb : ∀ c, at0 L c ≤ 15) : acc ((byLen L 15).map (at0 L)) = mS L 65 := by
  unfold acc w15 mS
  rw [List.map_map, ((byLen_perm L hb).map _).sum_nat, sum_filterN]
  simp only [Function.comp, decide_eq_true_eq]
/-- What comes out of the heap is in this order. -/
theorem out_one {f : List Int} (hb : ∀ z ∈ f, 0 ≤ z ∧ z ≤ 15) {out : List Nat} (h : PopInv (ltl f) (places f 65) out []) : out = byLen (nat f) 15 := by
  have e : places f 65 = (List.range 65).filter (fun c => decide (0 < at0 (nat f) c)) := by
    unfold places
    apply List.filter_congr
    intro c _
    rw [nat_at f hb]; simp
  have hp := h.1
  rw [List.append_nil, e] at hp
  refine List.Perm.eq_of_pairwise (fun x y _ _ h1 h2 => ltl_anti f x y h1 h2) h.2.1 ?_ (hp.trans (byLen_perm (nat f) (nat_bd f hb)).symm)
  refine (byLen_sorted (nat f) 15).imp ?_
  intro a b hab
  unfold lt2 at hab
  unfold ltl
  rw [nat_at f hb, nat_at f hb]; omega

def stepC (L : List Nat) (s : Nat × Nat × List (Nat × Nat)) (c : Nat) : Nat × Nat × List (Nat × Nat) :=
  (s.1 * 2 ^ (at0 L c - s.2.1) + 1, at0 L c, s.2.2.set c (s.1 * 2 ^ (at0 L c - s.2.1), at0 L c))
def foldC (L p : List Nat) : Nat × Nat × List (Nat × Nat) := p.foldl (stepC L) (0, 0, List.replicate 65 (0, 0))
def codesOf (L : List Nat) : List (Nat × Nat) := (foldC L (byLen L 15)).2.2
theorem foldC_snoc (L p : List Nat) (c : Nat) : foldC L (p ++ [c]) = stepC L (foldC L p) c := by unfold foldC; rw [List.foldl_append]; rfl
theorem fold_last (L : List Nat) : ∀ (p : List Nat) (s : Nat × Nat × List (Nat × Nat)), (p.foldl (stepC L) s).2.1 = s.2.1 ∨ ∃ a ∈ p, (p.foldl (stepC L) s).2.1 = at0 L a
  | [], s => .inl rfl
  | c :: p, s => by
    rw [List.foldl_cons]
    rcases fold_last L p (stepC L s c) with h | ⟨a, ha, h⟩
    · exact .inr ⟨c, List.mem_cons_self, h⟩
    · exact .inr ⟨a, List.mem_cons_of_mem _ ha, h⟩
theorem foldC_le (L p : List Nat) (n : Nat) (h : ∀ a ∈ p, at0 L a ≤ n) : (foldC L p).2.1 ≤ n := by
  rcases fold_last L p (0, 0, List.replicate 65 (0, 0)) with e | ⟨a, ha, e⟩
  · unfold foldC; rw [e]; exact Nat.zero_le _
  · unfold foldC; rw [e]; exact h a ha
theorem fold_key (L : List Nat) : ∀ (p : List Nat) (s : Nat × Nat × List (Nat × Nat)), (s.2.1 :: p.map (at0 L)).Pairwise (· ≤ ·) → (∀ c ∈ p, at0 L c ≤ 15) →
    (p.foldl (stepC L) s).1 * w15 (p.foldl (stepC L) s).2.1 = s.1 * w15 s.2.1 + acc (p.map (at0 L))
  | [], s, _, _ => by simp [acc]
  | c :: p, s, hp, hb => by
    rw [List.map_cons, List.pairwise_cons] at hp
    have h1 := hp.1 (at0 L c) List.mem_cons_self
    have h2 := hb c List.mem_cons_self
    rw [List.foldl_cons, fold_key L p (stepC L s c) hp.2 (fun a ha => hb a (List.mem_cons_of_mem _ ha)), List.map_cons, acc_cons]
    show (s.1 * 2 ^ (at0 L c - s.2.1) + 1) * w15 (at0 L c) + _ = _
    rw [Nat.add_mul, Nat.one_mul, Nat.mul_assoc, w15_step _ _ h1 h2]; omega
theorem rising_of_sorted {L p : List Nat} (h : p.Pairwise (fun a b => at0 L a ≤ at0 L b)) : ((0 : Nat) :: p.map (at0 L)).Pairwise (· ≤ ·) := by
  rw [List.pairwise_cons, List.pairwise_map]
  exact ⟨fun _ _ => Nat.zero_le _, h⟩
theorem foldC_key (L p : List Nat) (h : p.Pairwise (fun a b => at0 L a ≤ at0 L b)) (hb : ∀ c, at0 L c ≤ 15) : (foldC L p).1 * w15 (foldC L p).2.1 = acc (p.map (at0 L)) := by
  have := fold_key L p (0, 0, List.replicate 65 (0, 0)) (rising_of_sorted h) (fun c _ => hb c)
  unfold foldC
  rw [this]; simp
theorem acc_bd (L p : List Nat) : acc (p.map (at0 L)) ≤ p.length * 32768 := by
  induction p with
  | nil => simp [acc]
  | cons c p ih =>
    rw [List.map_cons, acc_cons, List.length_cons, Nat.succ_mul]
    have := pow_15 (at0 L c)
    unfold w15; omega
/-- The next code's bits: they are no more than all ahead take, and that times its weight. -/
theorem next_key (L p : List Nat) (c : Nat) (h : p.Pairwise (fun a b => at0 L a ≤ at0 L b)) (hc : ∀ a ∈ p, at0 L a ≤ at0 L c) (hb : ∀ c, at0 L c ≤ 15) :
    (foldC L p).1 * 2 ^ (at0 L c - (foldC L p).2.1) * w15 (at0 L c) = acc (p.map (at0 L)) := by
  rw [Nat.mul_assoc, w15_step _ _ (foldC_le L p _ hc) (hb c), foldC_key L p h hb]
theorem next_bd (L p : List Nat) (c : Nat) (h : p.Pairwise (fun a b => at0 L a ≤ at0 L b)) (hc : ∀ a ∈ p, at0 L a ≤ at0 L c) (hb : ∀ c, at0 L c ≤ 15) :
    (foldC L p).1 * 2 ^ (at0 L c - (foldC L p).2.1) ≤ p.length * 32768 := by
  have h1 := next_key L p c h hc hb
  have h2 := acc_bd L p
  have h3 := Nat.le_mul_of_pos_right ((foldC L p).1 * 2 ^ (at0 L c - (foldC L p).2.1)) (w15_pos (at0 L c))
  omega
theorem foldC_bd (L p : List Nat) (h : p.Pairwise (fun a b => at0 L a ≤ at0 L b)) (hb : ∀ c, at0 L c ≤ 15) : (foldC L p).1 ≤ p.length * 32768 := by
  have h1 := foldC_key L p h hb
  have h2 := acc_bd L p
  have h3 := Nat.le_mul_of_pos_right (foldC L p).1 (w15_pos (foldC L p).2.1)
  omega
theorem fold_len (L : List Nat) : ∀ (p : List Nat) (s : Nat × Nat × List (Nat × Nat)), (p.foldl (stepC L) s).2.2.length = s.2.2.length
  | [], s => rfl
  | c :: p, s => by rw [List.foldl_cons, fold_len L p]; show (s.2.2.set _ _).length = _; rw [List.length_set]
theorem foldC_len (L p : List Nat) : (foldC L p).2.2.length = 65 := by unfold foldC; rw [fold_len]; simp
theorem codes_len (L : List Nat) : (codesOf L).length = 65 := foldC_len L _
def cat (l : List (Nat × Nat)) (i : Nat) : Nat × Nat := l.getD i (0, 0)
theorem cat_set (l : List (Nat × Nat)) (i : Nat) (p : Nat × Nat) (c : Nat) (h : i < l.length) : cat (l.set i p) c = if c = i then p else cat l c := by
  unfold cat
  rw [List.getD_eq_getElem?_getD, List.getD_eq_getElem?_getD, List.getElem?_set]
  by_cases e : i = c
  · subst e; rw [if_pos rfl, if_pos h, if_pos rfl]; rfl
  · rw [if_neg e, if_neg (fun h => e h.symm)]
theorem fold_no (L : List Nat) (c : Nat) : ∀ (p : List Nat) (s : Nat × Nat × List (Nat × Nat)), c ∉ p → (∀ a ∈ p, a < s.2.2.length) → cat (p.foldl (stepC L) s).2.2 c = cat s.2.2 c
  | [], s, _, _ => rfl
  | a :: p, s, h, hl => by
    rw [List.foldl_cons, fold_no L c p _ (fun m => h (List.mem_cons_of_mem _ m)) (fun x hx => by
      show x < (s.2.2.set _ _).length
      rw [List.length_set]; exact hl x (List.mem_cons_of_mem _ hx))]
    show cat (s.2.2.set a _) c = _
    rw [cat_set _ _ _ _ (hl a List.mem_cons_self), if_neg (fun e => h (by rw [e]; exact List.mem_cons_self))]
theorem code_no (L : List Nat) (c : Nat) (h : at0 L c = 0) : cat (codesOf L) c = (0, 0) := by
  have hn : c ∉ byLen L 15 := fun m => by have := (byLen_mem L 15 c).1 m; omega
  unfold codesOf foldC
  rw [fold_no L c _ _ hn (fun a ha => by have := ((byLen_mem L 15 a).1 ha).1; simpa using this)]
  unfold cat
  rw [List.getD_eq_getElem?_getD, List.getElem?_replicate]
  split <;> rfl
theorem sorted_le {L p : List Nat} (h : p.Pairwise (lt2 L)) : p.Pairwise (fun a b => at0 L a ≤ at0 L b) := h.imp (fun {a b} hab => by unfold lt2 at hab; omega)
/-- The code of the class that stands at a place of the order: its bits, filled up, are the sum of all ahead. -/
theorem code_at (L : List Nat) (hb : ∀ c, at0 L c ≤ 15) (p q : List Nat) (c : Nat) (h : byLen L 15 = p ++ c :: q) :
    ∃ b, cat (codesOf L) c = (b, at0 L c) ∧ b * w15 (at0 L c) = acc (p.map (at0 L)) := by
  have hs := byLen_sorted L 15
  have hn := byLen_nodup L 15
  have hm : ∀ a ∈ byLen L 15, a < 65 := fun a ha => ((byLen_mem L 15 a).1 ha).1
  rw [h] at hs hn hm
  obtain ⟨s1, s2, s3⟩ := List.pairwise_append.1 hs
  have hle : ∀ a ∈ p, at0 L a ≤ at0 L c := fun a ha => by have := s3 a ha c List.mem_cons_self; unfold lt2 at this; omega
  refine ⟨_, ?_, next_key L p c (sorted_le s1) hle hb⟩
  have hc65 := hm c (by simp)
  have hcq : c ∉ q := (List.nodup_cons.1 ((List.nodup_append.1 hn).2.1)).1
  have l1 : (stepC L (foldC L p) c).2.2.length = 65 := by
    show ((foldC L p).2.2.set _ _).length = 65
    rw [List.length_set, foldC_len]
  have e1 : (foldC L (p ++ c :: q)).2.2 = (q.foldl (stepC L) (stepC L (foldC L p) c)).2.2 := by
    unfold foldC; rw [List.foldl_append, List.foldl_cons]
  unfold codesOf
  rw [h, e1, fold_no L c q _ hcq (fun a ha => by rw [l1]; exact hm a (by simp [ha]))]
  show cat ((foldC L p).2.2.set c _) c = _
  rw [cat_set _ _ _ _ (by rw [foldC_len]; exact hc65), if_pos rfl]
theorem split_at {l : List Nat} {c : Nat} (h : c ∈ l) : ∃ p q, l = p ++ c :: q := List.append_of_mem h
theorem code_len (L : List Nat) (hb : ∀ c, at0 L c ≤ 15) (c : Nat) (hc : c < 65) : (cat (codesOf L) c).2 = at0 L c := by
  by_cases h : at0 L c = 0
  · rw [code_no L c h, h]
  · obtain ⟨p, q, e⟩ := split_at ((byLen_mem L 15 c).2 ⟨hc, by omega, hb c⟩)
    obtain ⟨b, e1, _⟩ := code_at L hb p q c e
    rw [e1]
/-- A code fits its length. -/
theorem code_fit (L : List Nat) (hb : ∀ c, at0 L c ≤ 15) (hs : mS L 65 ≤ 32768) (c : Nat) (hc : c < 65) : (cat (codesOf L) c).1 < 2 ^ at0 L c := by
  by_cases h : at0 L c = 0
  · rw [code_no L c h, h]; decide
  · obtain ⟨p, q, e⟩ := split_at ((byLen_mem L 15 c).2 ⟨hc, by omega, hb c⟩)
    obtain ⟨b, e1, e2⟩ := code_at L hb p q c e
    rw [e1]
    show b < 2 ^ at0 L c
    have ha := byLen_acc L hb
    rw [e, List.map_append, acc_append, List.map_cons, acc_cons] at ha
    have f := w15_full (at0 L c) (hb c)
    have p0 := w15_pos (at0 L c)
    by_cases hlt : b < 2 ^ at0 L c
    · exact hlt
    · have := Nat.mul_le_mul_right (w15 (at0 L c)) (Nat.not_lt.1 hlt)
      omega
/-- No code begins another one. -/
theorem code_apart (L : List Nat) (hb : ∀ c, at0 L c ≤ 15) (i j : Nat) (hi : i < 65) (hj : j < 65) (hne : i ≠ j) (h0 : 0 < at0 L i) (hle : at0 L i ≤ at0 L j) :
    (cat (codesOf L) j).1 / 2 ^ (at0 L j - at0 L i) ≠ (cat (codesOf L) i).1 := by
  have mi := (byLen_mem L 15 i).2 ⟨hi, h0, hb i⟩
  have mj := (byLen_mem L 15 j).2 ⟨hj, by omega, hb j⟩
  obtain ⟨p, q, e⟩ := split_at mi
  obtain ⟨b, b1, b2⟩ := code_at L hb p q i e
  obtain ⟨x, hx⟩ : ∃ x, 2 ^ (at0 L j - at0 L i) = x := ⟨_, rfl⟩
  have st := w15_step _ _ hle (hb j)
  have xp : 0 < x := by rw [← hx]; exact Nat.two_pow_pos _
  rw [hx] at st ⊢
  have wp := w15_pos (at0 L j)
  have hj' : j ∈ p ∨ j ∈ q := by
    rw [e] at mj
    rcases List.mem_append.1 mj with h | h
    · exact .inl h
    · rcases List.mem_cons.1 h with h | h
      · exact absurd h.symm hne
      · exact .inr h
  rcases hj' with hm | hm
  · obtain ⟨p1, p2, rfl⟩ := split_at hm
    have e' : byLen L 15 = p1 ++ j :: (p2 ++ i :: q) := by rw [e]; simp
    obtain ⟨d, d1, d2⟩ := code_at L hb p1 _ j e'
    rw [b1, d1]
    show d / x ≠ b
    rw [List.map_append, acc_append, List.map_cons, acc_cons, ← d2, ← st] at b2
    intro hd
    have hle2 : (d + 1) * w15 (at0 L j) ≤ b * x * w15 (at0 L j) := by rw [Nat.add_mul, Nat.one_mul, Nat.mul_assoc]; omega
    have h3 := Nat.le_of_mul_le_mul_right hle2 wp
    have h4 : d / x * x ≤ d := Nat.div_mul_le_self d x
    rw [hd] at h4; omega
  · obtain ⟨q1, q2, rfl⟩ := split_at hm
    have e' : byLen L 15 = (p ++ i :: q1) ++ j :: q2 := by rw [e]; simp
    obtain ⟨d, d1, d2⟩ := code_at L hb _ q2 j e'
    rw [b1, d1]
    show d / x ≠ b
    rw [List.map_append, acc_append, List.map_cons, acc_cons, ← b2, ← st] at d2
    intro hd
    have hle2 : (b + 1) * x * w15 (at0 L j) ≤ d * w15 (at0 L j) := by rw [Nat.add_mul, Nat.add_mul, Nat.one_mul, Nat.mul_assoc]; omega
    have h3 := Nat.le_of_mul_le_mul_right hle2 wp
    have h4 : b + 1 ≤ d / x := (Nat.le_div_iff_mul_le xp).2 h3
    omega
end Go.Proofs.Ytgejcdmiihmlfaa
