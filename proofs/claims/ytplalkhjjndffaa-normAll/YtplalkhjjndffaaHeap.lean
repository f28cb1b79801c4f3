/-
  A heap in a list, by its steps up and down, and what comes out of it one after the other; entries in memory.
-/
import Derived.Test.YtplalkhjjndffaaRw
namespace Go.Proofs.Ytplalkhjjndffaa
open Go.ChangeShapes Go.WideShapes Go.ChangeAt Go.RowKit
open Go.ChangeMaps (open_string shut_string)

/-! ### places by two: a heap in a list -/
def g (l : List Nat) (i : Nat) : Nat := l.getD i 0
theorem g_eq (l : List Nat) (i : Nat) (h : i < l.length) : g l i = l[i] := by unfold g; rw [List.getD_eq_getElem?_getD, List.getElem?_eq_getElem h]; rfl
def sw (l : List Nat) (i j : Nat) : List Nat := (l.set i (g l j)).set j (g l i)
theorem sw_len (l : List Nat) (i j : Nat) : (sw l i j).length = l.length := by unfold sw; rw [List.length_set, List.length_set]
theorem sw_at (l : List Nat) (i j : Nat) (hi : i < l.length) (hj : j < l.length) (k : Nat) : g (sw l i j) k = if k = j then g l i else if k = i then g l j else g l k := by
  unfold sw g
  simp only [List.getD_eq_getElem?_getD, List.getElem?_set, List.length_set]
  by_cases h1 : j = k
  · subst h1; simp [hj]
  · have h1' : ¬ k = j := fun e => h1 e.symm
    by_cases h2 : i = k
    · subst h2; simp [h1, h1', hi]
    · have h2' : ¬ k = i := fun e => h2 e.symm
      simp [h1, h1', h2, h2']
theorem sw_perm (l : List Nat) (i j : Nat) (hi : i < l.length) (hj : j < l.length) : (sw l i j).Perm l := by
  unfold sw
  rw [g_eq l i hi, g_eq l j hj]
  exact List.set_set_perm hi hj

/-- An order that is asked by 'lt' alone: what is not above goes on. -/
structure Ord (lt : Nat → Nat → Prop) : Prop where
  irr : ∀ a, ¬ lt a a
  tr : ∀ a b c, lt a b → lt b c → lt a c
  ntr : ∀ a b c, ¬ lt b a → ¬ lt c b → ¬ lt c a
theorem Ord.asym {lt : Nat → Nat → Prop} (o : Ord lt) {a b : Nat} (h : lt a b) : ¬ lt b a := fun k => o.irr _ (o.tr _ _ _ h k)

def HeapFrom (lt : Nat → Nat → Prop) (l : List Nat) (n i0 : Nat) : Prop := ∀ k, 0 < k → k < n → i0 ≤ (k - 1) / 2 → ¬ lt (g l k) (g l ((k - 1) / 2))

/-! ### up -/
def UpInv (lt : Nat → Nat → Prop) (l : List Nat) (j : Nat) : Prop :=
  j < l.length ∧ (∀ k, 0 < k → k < l.length → k ≠ j → ¬ lt (g l k) (g l ((k - 1) / 2))) ∧ (0 < j → ∀ c, 0 < c → c < l.length → (c - 1) / 2 = j → ¬ lt (g l c) (g l ((j - 1) / 2)))
theorem up_done {lt : Nat → Nat → Prop} {l : List Nat} {j : Nat} (h : UpInv lt l j) (hd : j = 0 ∨ ¬ lt (g l j) (g l ((j - 1) / 2))) : HeapFrom lt l l.length 0 := by
  intro k h0 hk _
  by_cases e : k = j
  · subst e
    rcases hd with hd | hd
    · omega
    · exact hd
  · exact h.2.1 k h0 hk e
theorem up_step {lt : Nat → Nat → Prop} (o : Ord lt) {l : List Nat} {j : Nat} (h : UpInv lt l j) (hj : 0 < j) (hl : lt (g l j) (g l ((j - 1) / 2))) : UpInv lt (sw l ((j - 1) / 2) j) ((j - 1) / 2) := by
  obtain ⟨h1, h2, h3⟩ := h
  obtain ⟨i, hi⟩ : ∃ i, (j - 1) / 2 = i := ⟨_, rfl⟩
  rw [hi] at hl ⊢
  have hij : i < j := by omega
  have hil : i < l.length := by omega
  have S := sw_at l i j hil h1
  have Si : g (sw l i j) i = g l j := by rw [S, if_neg (by omega), if_pos rfl]
  have Sj : g (sw l i j) j = g l i := by rw [S, if_pos rfl]
  have So : ∀ k, k ≠ i → k ≠ j → g (sw l i j) k = g l k := fun k a b => by rw [S, if_neg b, if_neg a]
  have h3' := h3 hj
  rw [hi] at h3'
  refine ⟨by rw [sw_len]; exact hil, fun k hk0 hk hki => ?_, fun hi0 c hc0 hc hci => ?_⟩
  · rw [sw_len] at hk
    by_cases e : k = j
    · subst e; rw [hi, Sj, Si]; exact o.asym hl
    · by_cases e1 : (k - 1) / 2 = j
      · rw [e1, Sj, So k hki e]; exact h3' k hk0 hk e1
      · by_cases e2 : (k - 1) / 2 = i
        · rw [e2, Si, So k hki e]
          have a := h2 k hk0 hk e
          rw [e2] at a
          exact o.ntr _ _ _ (o.asym hl) a
        · rw [So k hki e, So _ e2 e1]; exact h2 k hk0 hk e
  · rw [sw_len] at hc
    have hp : (i - 1) / 2 ≠ i := by omega
    have hp2 : (i - 1) / 2 ≠ j := by omega
    have hI := h2 i hi0 hil (by omega)
    rw [So _ hp hp2]
    by_cases e : c = j
    · subst e; rw [Sj]; exact hI
    · rw [So c (by omega) e]
      have a := h2 c hc0 hc e
      rw [hci] at a
      exact o.ntr _ _ _ hI a
theorem up_start {lt : Nat → Nat → Prop} {l : List Nat} (h : HeapFrom lt l l.length 0) (x : Nat) : UpInv lt (l ++ [x]) l.length := by
  have e : ∀ k, k < l.length → g (l ++ [x]) k = g l k := fun k hk => by unfold g; rw [List.getD_eq_getElem?_getD, List.getD_eq_getElem?_getD, List.getElem?_append_left hk]
  refine ⟨by simp, fun k h0 hk hne => ?_, fun _ c h0 hc hcl => ?_⟩
  · rw [List.length_append, List.length_singleton] at hk
    rw [e k (by omega), e _ (by omega)]
    exact h k h0 (by omega) (Nat.zero_le _)
  · rw [List.length_append, List.length_singleton] at hc
    omega

/-! ### down, among the first n -/
def DnInv (lt : Nat → Nat → Prop) (l : List Nat) (n i0 i : Nat) : Prop :=
  n ≤ l.length ∧ i0 ≤ i ∧ (∀ k, 0 < k → k < n → i0 ≤ (k - 1) / 2 → (k - 1) / 2 ≠ i → ¬ lt (g l k) (g l ((k - 1) / 2))) ∧
    (i0 < i → i0 ≤ (i - 1) / 2 ∧ ∀ c, 0 < c → c < n → (c - 1) / 2 = i → ¬ lt (g l c) (g l ((i - 1) / 2)))
theorem dn_start {lt : Nat → Nat → Prop} {l : List Nat} {n i0 : Nat} (hn : n ≤ l.length) (h : HeapFrom lt l n (i0 + 1)) : DnInv lt l n i0 i0 :=
  ⟨hn, Nat.le_refl _, fun k h0 hk hi hne => h k h0 hk (by omega), fun a => by omega⟩
theorem dn_done {lt : Nat → Nat → Prop} {l : List Nat} {n i0 i : Nat} (h : DnInv lt l n i0 i) (hd : ∀ c, 0 < c → c < n → (c - 1) / 2 = i → ¬ lt (g l c) (g l i)) : HeapFrom lt l n i0 := by
  intro k h0 hk hi
  by_cases e : (k - 1) / 2 = i
  · rw [e]; exact hd k h0 hk e
  · exact h.2.2.1 k h0 hk hi e
theorem dn_step {lt : Nat → Nat → Prop} (o : Ord lt) {l : List Nat} {n i0 i j : Nat} (h : DnInv lt l n i0 i) (hj0 : 0 < j) (hj : j < n) (hji : (j - 1) / 2 = i)
    (hm : ∀ c, 0 < c → c < n → (c - 1) / 2 = i → ¬ lt (g l c) (g l j)) (hl : lt (g l j) (g l i)) : DnInv lt (sw l i j) n i0 j := by
  obtain ⟨h1, h2, h3, h4⟩ := h
  have hij : i < j := by omega
  have S := sw_at l i j (by omega) (by omega)
  have Si : g (sw l i j) i = g l j := by rw [S, if_neg (by omega), if_pos rfl]
  have Sj : g (sw l i j) j = g l i := by rw [S, if_pos rfl]
  have So : ∀ k, k ≠ i → k ≠ j → g (sw l i j) k = g l k := fun k a b => by rw [S, if_neg b, if_neg a]
  refine ⟨by rw [sw_len]; exact h1, by omega, fun k hk0 hk hi hne => ?_, fun _ => ⟨by omega, fun c hc0 hc hcj => ?_⟩⟩
  · by_cases e : k = j
    · subst e; rw [hji, Sj, Si]; exact o.asym hl
    · by_cases e1 : (k - 1) / 2 = i
      · rw [e1, Si, So k (by omega) e]; exact hm k hk0 hk e1
      · by_cases e2 : k = i
        · subst e2
          rw [Si, So _ (by omega) (by omega)]
          exact (h4 (by omega)).2 j hj0 hj hji
        · rw [So k e2 e, So _ e1 hne]; exact h3 k hk0 hk hi e1
  · rw [hji, Si, So c (by omega) (by omega)]
    have a := h3 c hc0 hc (by omega) (by omega)
    rw [hcj] at a
    exact a
theorem heap_root {lt : Nat → Nat → Prop} (o : Ord lt) {l : List Nat} {n : Nat} (h : HeapFrom lt l n 0) : ∀ k, k < n → ¬ lt (g l k) (g l 0) := by
  intro k
  induction k using Nat.strongRecOn with
  | _ k ih =>
    intro hk
    by_cases e : k = 0
    · subst e; exact o.irr _
    · exact o.ntr _ _ _ (ih ((k - 1) / 2) (by omega) (by omega)) (h k (by omega) hk (Nat.zero_le _))
/-- Of a heap, with its first and its last one changed for one another, down is to be gone from the first. -/
theorem pop_start {lt : Nat → Nat → Prop} {l : List Nat} {n : Nat} (hn : l.length = n + 1) (h : HeapFrom lt l (n + 1) 0) : DnInv lt (sw l 0 n) n 0 0 := by
  have S := sw_at l 0 n (by omega) (by omega)
  refine dn_start (by rw [sw_len]; omega) fun k h0 hk hi => ?_
  rw [S, if_neg (by omega), if_neg (by omega), S, if_neg (by omega), if_neg (by omega)]
  exact h k h0 (by omega) (Nat.zero_le _)

/-! ### one after the other -/
def PopInv (lt : Nat → Nat → Prop) (all out l : List Nat) : Prop :=
  (out ++ l).Perm all ∧ out.Pairwise (fun a b => ¬ lt b a) ∧ (∀ a ∈ out, ∀ b ∈ l, ¬ lt b a) ∧ HeapFrom lt l l.length 0
theorem split_last (c : List Nat) (n : Nat) (h : c.length = n + 1) : c = c.take n ++ [g c n] := by
  have h' : n < c.length := by omega
  rw [g_eq c n h']
  have := List.take_append_getElem h'
  rw [this, List.take_of_length_le (by omega)]
theorem g_mem (l : List Nat) (i : Nat) (h : i < l.length) : g l i ∈ l := by rw [g_eq l i h]; exact List.getElem_mem h
theorem mem_g {l : List Nat} {x : Nat} (h : x ∈ l) : ∃ i, i < l.length ∧ g l i = x := by
  obtain ⟨i, hi, e⟩ := List.getElem_of_mem h
  exact ⟨i, hi, by rw [g_eq l i hi]; exact e⟩
theorem pop_next {lt : Nat → Nat → Prop} (o : Ord lt) {all out l c : List Nat} {n : Nat} (h : PopInv lt all out l) (hn : l.length = n + 1) (hc : c.Perm (sw l 0 n)) (hcn : g c n = g (sw l 0 n) n) (hh : HeapFrom lt c n 0) :
    g c n = g l 0 ∧ PopInv lt all (out ++ [g l 0]) (c.take n) := by
  obtain ⟨h1, h2, h3, h4⟩ := h
  have p := hc.trans (sw_perm l 0 n (by omega) (by omega))
  have hl : c.length = n + 1 := by rw [p.length_eq]; exact hn
  have e : g c n = g l 0 := by rw [hcn, sw_at l 0 n (by omega) (by omega), if_pos rfl]
  have sp := split_last c n hl
  rw [e] at sp
  have mem : ∀ b, b ∈ c.take n → b ∈ l := fun b hb => p.mem_iff.1 (List.mem_of_mem_take hb)
  refine ⟨e, ?_, ?_, ?_, ?_⟩
  · refine List.Perm.trans ?_ h1
    rw [List.append_assoc]
    refine List.Perm.append_left _ ?_
    refine List.Perm.trans List.perm_append_comm ?_
    rw [← sp]; exact p
  · rw [List.pairwise_append]
    refine ⟨h2, List.pairwise_singleton _ _, fun a ha b hb => ?_⟩
    rw [List.mem_singleton.1 hb]
    exact h3 a ha _ (g_mem l 0 (by omega))
  · intro a ha b hb
    rcases List.mem_append.1 ha with ha | ha
    · exact h3 a ha b (mem b hb)
    · rw [List.mem_singleton.1 ha]
      obtain ⟨i, hi, rfl⟩ := mem_g (mem b hb)
      exact heap_root o h4 i hi
  · have ht : (c.take n).length = n := by rw [List.length_take]; omega
    have gt : ∀ k, k < n → g (c.take n) k = g c k := fun k hk => by unfold g; rw [List.getD_eq_getElem?_getD, List.getD_eq_getElem?_getD, List.getElem?_take, if_pos hk]
    rw [ht]
    intro k h0 hk hi
    rw [gt k hk, gt _ (by omega)]
    exact hh k h0 hk hi

/-! ### the greatest first, of two alike the lesser place first -/
def fr (f : List Int) (p : Nat) : Int := f.getD p 0
def ltf (f : List Int) (p q : Nat) : Prop := fr f q < fr f p ∨ (fr f p = fr f q ∧ p < q)
theorem ltf_ord (f : List Int) : Ord (ltf f) where
  irr a := by unfold ltf; omega
  tr a b c := by unfold ltf; omega
  ntr a b c := by unfold ltf; omega
def places (f : List Int) (n : Nat) : List Nat := (List.range n).filter (fun p => decide (0 < fr f p))
theorem places_succ (f : List Int) (n : Nat) : places f (n + 1) = if 0 < fr f n then places f n ++ [n] else places f n := by
  unfold places
  rw [List.range_succ, List.filter_append]
  by_cases h : 0 < fr f n
  · rw [if_pos h]; simp [h]
  · rw [if_neg h]; simp [h]
theorem places_mem (f : List Int) (n p : Nat) : p ∈ places f n ↔ p < n ∧ 0 < fr f p := by unfold places; simp
def Ordered (f : List Int) (n : Nat) (l : List Nat) : Prop := l.Perm (places f n) ∧ l.Pairwise (fun a b => ¬ ltf f b a)
theorem ordered_mem {f : List Int} {n : Nat} {l : List Nat} (h : Ordered f n l) (p : Nat) : p ∈ l ↔ p < n ∧ 0 < fr f p := by rw [h.1.mem_iff, places_mem]
theorem ordered_of_pop {f : List Int} {n : Nat} {out : List Nat} (h : PopInv (ltf f) (places f n) out []) : Ordered f n out := by
  refine ⟨?_, h.2.1⟩
  have := h.1
  rwa [List.append_nil] at this
/-- A place set in where it belongs. -/
theorem ordered_ins {f : List Int} {n k : Nat} {l : List Nat} (h : Ordered f n l) (hn : 0 < fr f n) (hk : k ≤ l.length) (hd : ∀ b ∈ l.drop k, fr f b < fr f n) (he : k = 0 ∨ fr f n ≤ fr f (g l (k - 1))) :
    Ordered f (n + 1) (l.take k ++ n :: l.drop k) := by
  have hlt : ∀ p ∈ l, p < n := fun p hp => ((ordered_mem h p).1 hp).1
  have hsp : l.take k ++ l.drop k = l := List.take_append_drop k l
  have hpw := h.2
  rw [← hsp, List.pairwise_append] at hpw
  obtain ⟨p1, p2, p3⟩ := hpw
  refine ⟨?_, ?_⟩
  · rw [places_succ, if_pos hn]
    refine List.Perm.trans List.perm_middle ?_
    rw [hsp]
    exact (List.Perm.cons n h.1).trans (List.perm_append_singleton n _).symm
  · rw [List.pairwise_append, List.pairwise_cons]
    refine ⟨p1, ⟨fun b hb => ?_, p2⟩, fun a ha b hb => ?_⟩
    · have := hd b hb
      unfold ltf; omega
    · have aB : fr f n ≤ fr f a := by
        rcases he with rfl | he
        · simp at ha
        · obtain ⟨i, hi, e⟩ := mem_g ha
          rw [List.length_take] at hi
          have ge : g (l.take k) i = g l i := by unfold g; rw [List.getD_eq_getElem?_getD, List.getD_eq_getElem?_getD, List.getElem?_take, if_pos (by omega)]
          rw [ge] at e
          have hk1 : k - 1 < l.length := by omega
          by_cases hik : i = k - 1
          · rw [← e, hik]; exact he
          · have := List.pairwise_iff_getElem.1 h.2 i (k - 1) (by omega) hk1 (by omega)
            rw [← g_eq l i (by omega), ← g_eq l (k - 1) hk1, e] at this
            unfold ltf at this; omega
      have haN := hlt a (List.mem_of_mem_take ha)
      rcases List.mem_cons.1 hb with rfl | hb
      · unfold ltf; omega
      · exact p3 a ha b hb
theorem ordered_skip {f : List Int} {n : Nat} {l : List Nat} (h : Ordered f n l) (hn : ¬ 0 < fr f n) : Ordered f (n + 1) l := by
  refine ⟨?_, h.2⟩
  rw [places_succ, if_neg hn]; exact h.1
theorem ordered_zero (f : List Int) : Ordered f 0 [] := ⟨List.Perm.refl _, List.Pairwise.nil⟩

/-! ### the entries: a place, and the number that stands there -/
def ev (f : List Int) (p : Nat) : List Value := [.int .i64 (p : Int), .int .i64 (fr f p)]
def evs (f : List Int) (l : List Nat) : List Value := l.flatMap (ev f)
theorem evs_append (f : List Int) (a b : List Nat) : evs f (a ++ b) = evs f a ++ evs f b := by simp [evs]
theorem evs_fst (f : List Int) (l : List Nat) (i : Nat) (h : i < l.length) : (evs f l)[i * 2]? = some (.int .i64 (g l i : Int)) := by
  rw [g_eq l i h]
  induction l generalizing i with
  | nil => simp at h
  | cons p l ih =>
    cases i with
    | zero => rfl
    | succ i =>
      rw [evs, List.flatMap_cons, ← evs, List.getElem?_append_right (by simp [ev]; omega)]
      have : (i + 1) * 2 - (ev f p).length = i * 2 := by simp [ev]; omega
      rw [this, ih i (by simpa using h)]; rfl
theorem evs_snd (f : List Int) (l : List Nat) (i : Nat) (h : i < l.length) : (evs f l)[i * 2 + 1]? = some (.int .i64 (fr f (g l i))) := by
  rw [g_eq l i h]
  induction l generalizing i with
  | nil => simp at h
  | cons p l ih =>
    cases i with
    | zero => rfl
    | succ i =>
      rw [evs, List.flatMap_cons, ← evs, List.getElem?_append_right (by simp [ev]; omega)]
      have : (i + 1) * 2 + 1 - (ev f p).length = i * 2 + 1 := by simp [ev]; omega
      rw [this, ih i (by simpa using h)]; rfl
theorem evs_set (f : List Int) (l : List Nat) (i p : Nat) : ((evs f l).set (i * 2) (.int .i64 (p : Int))).set (i * 2 + 1) (.int .i64 (fr f p)) = evs f (l.set i p) := by
  induction l generalizing i with
  | nil => rfl
  | cons q l ih =>
    cases i with
    | zero => rfl
    | succ i =>
      have e : evs f (q :: l) = .int .i64 (q : Int) :: .int .i64 (fr f q) :: evs f l := rfl
      rw [e, show (i + 1) * 2 = i * 2 + 1 + 1 from by omega, List.set_cons_succ, List.set_cons_succ, List.set_cons_succ, List.set_cons_succ, ih]; rfl
theorem evs_take (f : List Int) (l : List Nat) (n : Nat) : (evs f l).take (n * 2) = evs f (l.take n) := by
  induction l generalizing n with
  | nil => simp [evs]
  | cons q l ih =>
    cases n with
    | zero => simp [evs]
    | succ n =>
      have e : evs f (q :: l) = .int .i64 (q : Int) :: .int .i64 (fr f q) :: evs f l := rfl
      rw [e, show (n + 1) * 2 = n * 2 + 1 + 1 from by omega, List.take_succ_cons, List.take_succ_cons, ih, List.take_succ_cons]; rfl
/-- Block A holds a queue of these places; its row lies in v. -/
def Qu (W : World) (A : Nat) (v : Value) (f : List Int) (l : List Nat) : Prop :=
  Blk W A #[v] 78 ∧ W.ownsRow 0 80 2 v l.length (evs f l) ∧ v.ownBlock ≠ some A
def foot (A : Nat) (v : Value) (k : Nat) : Prop := k = A ∨ v.ownBlock = some k
theorem qu_kept {W W' : World} {S : Nat → Prop} {A : Nat} {v : Value} {f : List Int} {l : List Nat} (h : Qu W A v f l) (c : Chg S W W') (hS : ∀ k, foot A v k → ¬ S k) : Qu W' A v f l :=
  ⟨blk_kept h.1 c (hS A (.inl rfl)), own_kept h.2.1 c (fun k hk => hS k (.inr hk)), h.2.2⟩
theorem qu_cell {W : World} {A : Nat} {v : Value} {f : List Int} {l : List Nat} (h : Qu W A v f l) : W.cell? ⟨A, 0, none⟩ = some v ∧ W.frozen? ⟨A, 0, none⟩ = false :=
  ⟨by rw [blk_cell h.1]; rfl, blk_free h.1 0⟩
theorem qu_val {W : World} {A : Nat} {v : Value} {f : List Int} {l : List Nat} (h : Qu W A v f l) : ∃ a cap, v = .slice a l.length cap ∧ l.length ≤ cap ∧ (0 < l.length → ∃ b, a = some ⟨b, 0, none⟩) := by
  rcases h.2.1.2 with ⟨hv, hn⟩ | ⟨b, cap, cur, hv, _, _, hc, _⟩
  · exact ⟨none, 0, by rw [hv, hn], by omega, fun h0 => by omega⟩
  · exact ⟨_, cap, hv, hc, fun _ => ⟨b, rfl⟩⟩

end Go.Proofs.Ytplalkhjjndffaa
