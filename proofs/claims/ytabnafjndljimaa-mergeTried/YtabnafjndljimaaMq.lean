/-
  Packages as numbers, tables of packages, and queues of them in memory.
-/
import Derived.Test.YtabnafjndljimaaPn
import Derived.Test.YtabnafjndljimaaHeap
namespace Go.Proofs.Ytabnafjndljimaa
open Go.ChangeShapes Go.WideShapes Go.ChangeAt Go.RowKit
open Go.ChangeMaps (open_string shut_string)

/-! ### packages: what they cost, and how often each class is in them, as one number -/
/-- A package in memory: what it costs, where its times lie, and what they are. -/
structure Pk where
  c : Nat
  b : Nat
  cap : Nat
  ts : List Nat
def MB : Nat := 16777216
def fk (a : Nat) (ts : List Nat) : Nat := ts.foldl (fun a t => a * MB + t) a
def key (p : Pk) : Nat := fk p.c p.ts
def cmpL : List Nat → List Nat → Int
  | a :: l, b :: m => if a < b then -1 else if b < a then 1 else cmpL l m
  | _, _ => 0
theorem fk_cons (a t : Nat) (ts : List Nat) : fk a (t :: ts) = fk (a * MB + t) ts := rfl
theorem fk_lt : ∀ (s t : List Nat) (a b : Nat), s.length = t.length → (∀ x ∈ s, x < MB) → (∀ x ∈ t, x < MB) → (fk a s < fk b t ↔ a < b ∨ (a = b ∧ cmpL s t < 0))
  | [], [], a, b, _, _, _ => by show a < b ↔ _; simp [cmpL]
  | [], _ :: _, a, b, h, _, _ => by simp at h
  | _ :: _, [], a, b, h, _, _ => by simp at h
  | x :: s, y :: t, a, b, h, hs, ht => by
    have i := fk_lt s t (a * MB + x) (b * MB + y) (by simpa using h) (fun z hz => hs z (List.mem_cons_of_mem _ hz)) (fun z hz => ht z (List.mem_cons_of_mem _ hz))
    have h1 := hs x List.mem_cons_self
    have h2 := ht y List.mem_cons_self
    rw [fk_cons, fk_cons, i, cmpL]
    unfold MB at h1 h2 ⊢
    by_cases e1 : x < y
    · rw [if_pos e1]; constructor
      · rintro (h | ⟨h, _⟩)
        · omega
        · omega
      · intro h; left; omega
    · by_cases e2 : y < x
      · rw [if_neg e1, if_pos e2]; constructor
        · rintro (h | ⟨h, _⟩)
          · left; omega
          · left; omega
        · rintro (h | ⟨_, h⟩)
          · left; omega
          · omega
      · obtain rfl : x = y := by omega
        rw [if_neg e1, if_neg e2]; constructor
        · rintro (h | ⟨h, h'⟩)
          · left; omega
          · exact .inr ⟨by omega, h'⟩
        · rintro (h | ⟨h, h'⟩)
          · left; omega
          · exact .inr ⟨by omega, h'⟩
theorem fk_add : ∀ (s t : List Nat) (a b : Nat), s.length = t.length → fk (a + b) (List.zipWith (· + ·) s t) = fk a s + fk b t
  | [], [], a, b, _ => rfl
  | [], _ :: _, a, b, h => by simp at h
  | _ :: _, [], a, b, h => by simp at h
  | x :: s, y :: t, a, b, h => by
    rw [List.zipWith_cons_cons, fk_cons, fk_cons, fk_cons, ← fk_add s t _ _ (by simpa using h)]
    have e : (a + b) * MB + (x + y) = (a * MB + x) + (b * MB + y) := by unfold MB; omega
    rw [e]
theorem fk_inj : ∀ (s t : List Nat) (a b : Nat), s.length = t.length → (∀ x ∈ s, x < MB) → (∀ x ∈ t, x < MB) → fk a s = fk b t → a = b ∧ s = t
  | [], [], a, b, _, _, _, e => ⟨e, rfl⟩
  | [], _ :: _, a, b, h, _, _, _ => by simp at h
  | _ :: _, [], a, b, h, _, _, _ => by simp at h
  | x :: s, y :: t, a, b, h, hs, ht, e => by
    obtain ⟨i1, i2⟩ := fk_inj s t (a * MB + x) (b * MB + y) (by simpa using h) (fun z hz => hs z (List.mem_cons_of_mem _ hz)) (fun z hz => ht z (List.mem_cons_of_mem _ hz)) e
    have h1 := hs x List.mem_cons_self
    have h2 := ht y List.mem_cons_self
    unfold MB at h1 h2 i1
    obtain ⟨rfl, rfl⟩ : a = b ∧ x = y := by omega
    exact ⟨rfl, by rw [i2]⟩
theorem cmpL_drop (s t : List Nat) (i : Nat) (hs : i < s.length) (ht : i < t.length) : cmpL (s.drop i) (t.drop i) = if s[i] < t[i] then -1 else if t[i] < s[i] then 1 else cmpL (s.drop (i + 1)) (t.drop (i + 1)) := by
  rw [List.drop_eq_getElem_cons hs, List.drop_eq_getElem_cons ht, cmpL]

/-! ### a table of packages, and the queue of its places -/
def T (tbl : List Pk) (i : Nat) : Pk := tbl.getD i ⟨0, 0, 0, []⟩
theorem T_eq (tbl : List Pk) (i : Nat) (h : i < tbl.length) : T tbl i = tbl[i] := by unfold T; rw [List.getD_eq_getElem?_getD, List.getElem?_eq_getElem h]; rfl
theorem T_mem (tbl : List Pk) (i : Nat) (h : i < tbl.length) : T tbl i ∈ tbl := by rw [T_eq tbl i h]; exact List.getElem_mem h
def K (tbl : List Pk) (i : Nat) : Nat := key (T tbl i)
def klt (tbl : List Pk) (i j : Nat) : Prop := K tbl i < K tbl j
theorem klt_ord (tbl : List Pk) : Ord (klt tbl) where
  irr a := by unfold klt; omega
  tr a b c := by unfold klt; omega
  ntr a b c := by unfold klt; omega
theorem K_range (tbl : List Pk) : (List.range tbl.length).map (K tbl) = tbl.map key := by
  apply List.ext_getElem?
  intro i
  by_cases h : i < tbl.length
  · rw [List.getElem?_map, List.getElem?_range h, List.getElem?_map, List.getElem?_eq_getElem h]
    show some (key (T tbl i)) = _
    rw [T_eq tbl i h]; rfl
  · rw [List.getElem?_eq_none (by simp; omega), List.getElem?_eq_none (by simp; omega)]
theorem pop_take {tbl : List Pk} {out l L : List Nat} (h : PopInv (klt tbl) (List.range tbl.length) out l) (hL : (tbl.map key).Perm L) (hr : Rising L) : out.map (K tbl) = L.take out.length := by
  obtain ⟨h1, h2, h3, _⟩ := h
  have p1 : (out.map (K tbl) ++ l.map (K tbl)).Perm L := by
    refine List.Perm.trans ?_ hL
    rw [← K_range, ← List.map_append]
    exact h1.map _
  let m := (l.map (K tbl)).mergeSort (fun a b => decide (a ≤ b))
  have pm : m.Perm (l.map (K tbl)) := List.mergeSort_perm _ _
  have sm : m.Pairwise (fun a b => decide (a ≤ b) = true) := List.pairwise_mergeSort (fun a b c h k => by simp at h k ⊢; omega) (fun a b => by simp; omega) _
  have e : out.map (K tbl) ++ m = L := by
    refine List.Perm.eq_of_pairwise (le := (· ≤ ·)) (fun a b _ _ h k => Nat.le_antisymm h k) ?_ hr ((List.Perm.append_left _ pm).trans p1)
    rw [List.pairwise_append]
    refine ⟨?_, sm.imp (fun h => by simpa using h), fun a ha b hb => ?_⟩
    · rw [List.pairwise_map]
      exact h2.imp (fun h => by unfold klt at h; omega)
    · obtain ⟨i, hi, rfl⟩ := List.mem_map.1 ha
      obtain ⟨j, hj, rfl⟩ := List.mem_map.1 (pm.mem_iff.1 hb)
      have := h3 i hi j hj
      unfold klt at this; omega
  rw [← e, List.take_append_of_le_length (by simp), List.take_of_length_le (by simp)]
theorem pop_key {tbl : List Pk} {out l L : List Nat} {x : Nat} (h : PopInv (klt tbl) (List.range tbl.length) (out ++ [x]) l) (hL : (tbl.map key).Perm L) (hr : Rising L) : K tbl x = at0 L out.length := by
  have := pop_take h hL hr
  rw [List.map_append, List.map_singleton, List.length_append, List.length_singleton] at this
  have e : (out.map (K tbl) ++ [K tbl x])[out.length]? = some (K tbl x) := by simp
  rw [this, List.getElem?_take, if_pos (by omega)] at e
  unfold at0
  rw [List.getD_eq_getElem?_getD, e]; rfl
/-- Two cells an element. -/
def tvs (u v : Nat → Value) (l : List Nat) : List Value := l.flatMap (fun i => [u i, v i])
theorem tvs_cons (u v : Nat → Value) (i : Nat) (l : List Nat) : tvs u v (i :: l) = u i :: v i :: tvs u v l := rfl
theorem tvs_len (u v : Nat → Value) (l : List Nat) : (tvs u v l).length = l.length * 2 := by
  induction l with
  | nil => rfl
  | cons p l ih => rw [tvs_cons, List.length_cons, List.length_cons, ih, List.length_cons]; omega
theorem tvs_append (u v : Nat → Value) (a b : List Nat) : tvs u v (a ++ b) = tvs u v a ++ tvs u v b := by simp [tvs]
theorem tvs_fst (u v : Nat → Value) (l : List Nat) (i : Nat) (h : i < l.length) : (tvs u v l)[i * 2]? = some (u (g l i)) := by
  rw [g_eq l i h]
  induction l generalizing i with
  | nil => simp at h
  | cons p l ih =>
    cases i with
    | zero => rfl
    | succ i =>
      rw [tvs_cons, show (i + 1) * 2 = i * 2 + 1 + 1 from by omega, List.getElem?_cons_succ, List.getElem?_cons_succ, ih i (by simpa using h)]; rfl
theorem tvs_snd (u v : Nat → Value) (l : List Nat) (i : Nat) (h : i < l.length) : (tvs u v l)[i * 2 + 1]? = some (v (g l i)) := by
  rw [g_eq l i h]
  induction l generalizing i with
  | nil => simp at h
  | cons p l ih =>
    cases i with
    | zero => rfl
    | succ i =>
      rw [tvs_cons, show (i + 1) * 2 + 1 = i * 2 + 1 + 1 + 1 from by omega, List.getElem?_cons_succ, List.getElem?_cons_succ, ih i (by simpa using h)]; rfl
theorem tvs_set (u v : Nat → Value) (l : List Nat) (i p : Nat) : ((tvs u v l).set (i * 2) (u p)).set (i * 2 + 1) (v p) = tvs u v (l.set i p) := by
  induction l generalizing i with
  | nil => rfl
  | cons q l ih =>
    cases i with
    | zero => rfl
    | succ i =>
      rw [tvs_cons, show (i + 1) * 2 = i * 2 + 1 + 1 from by omega, List.set_cons_succ, List.set_cons_succ, List.set_cons_succ, List.set_cons_succ, ih]; rfl
theorem tvs_sw (u v : Nat → Value) (l : List Nat) (i j : Nat) : ((((tvs u v l).set (i * 2) (u (g l j))).set (i * 2 + 1) (v (g l j))).set (j * 2) (u (g l i))).set (j * 2 + 1) (v (g l i)) = tvs u v (sw l i j) := by
  rw [tvs_set, tvs_set]; rfl
theorem tvs_take (u v : Nat → Value) (l : List Nat) (n : Nat) : (tvs u v l).take (n * 2) = tvs u v (l.take n) := by
  induction l generalizing n with
  | nil => simp [tvs]
  | cons q l ih =>
    cases n with
    | zero => simp [tvs]
    | succ n =>
      rw [tvs_cons, show (n + 1) * 2 = n * 2 + 1 + 1 from by omega, List.take_succ_cons, List.take_succ_cons, ih, List.take_succ_cons, tvs_cons]
/-! ### packages in memory -/
def ni (l : List Nat) : List Value := ivs (l.map Int.ofNat)
theorem ni_len (l : List Nat) : (ni l).length = l.length := by simp [ni, ivs]
theorem ni_at (l : List Nat) (j : Nat) (hj : j < l.length) : (ni l)[j]? = some (.int .i64 (l[j] : Int)) := by simp [ni, ivs, iv, hj]
theorem ni_set (l : List Nat) (i z : Nat) : (ni l).set i (.int .i64 (z : Int)) = ni (l.set i z) := by unfold ni; rw [ivs_set, List.map_set]; rfl
def pcv (N : Nat) (p : Pk) : Value := .slice (some ⟨p.b, 0, none⟩) N p.cap
def pav (N : Nat) (p : Pk) : Value := .agg #[.int .i64 (p.c : Int), pcv N p]
def Tm (W : World) (N : Nat) (p : Pk) : Prop := W.ownsRow 0 3 1 (pcv N p) N (ni p.ts)
def PkOk (N D : Nat) (p : Pk) : Prop := p.ts.length = N ∧ (∀ t ∈ p.ts, t ≤ D) ∧ p.c ≤ 16777216 * D
def kvs (N : Nat) (tbl : List Pk) (l : List Nat) : List Value := tvs (fun i => .int .i64 ((T tbl i).c : Int)) (fun i => pcv N (T tbl i)) l

/-- The table's packages can be read, and lie apart from the blocks S. -/
def Tbl (W : World) (N D : Nat) (tbl : List Pk) (S : Nat → Prop) : Prop := ∀ p ∈ tbl, PkOk N D p ∧ Tm W N p ∧ ¬ S p.b
/-- Block A holds a queue of these places of the table; its row lies in v. -/
def Qp (W : World) (A : Nat) (v : Value) (N D : Nat) (tbl : List Pk) (l : List Nat) : Prop :=
  Blk W A #[v] 89 ∧ W.ownsRow 0 63 2 v l.length (kvs N tbl l) ∧ v.ownBlock ≠ some A ∧ Tbl W N D tbl (foot A v) ∧ (∀ i ∈ l, i < tbl.length)
theorem tm_kept {W W' : World} {S : Nat → Prop} {N : Nat} {p : Pk} (h : Tm W N p) (c : Chg S W W') (hS : ¬ S p.b) : Tm W' N p :=
  own_kept h c (fun k hk => by simp [pcv, Value.ownBlock] at hk; subst hk; exact hS)
theorem tbl_kept {W W' : World} {S R : Nat → Prop} {N D : Nat} {tbl : List Pk} (h : Tbl W N D tbl R) (c : Chg S W W') (hS : ∀ k, S k → R k) : Tbl W' N D tbl R :=
  fun p hp => ⟨(h p hp).1, tm_kept (h p hp).2.1 c (fun s => (h p hp).2.2 (hS _ s)), (h p hp).2.2⟩
theorem qp_no {W W' : World} {A : Nat} {v : Value} {N D : Nat} {tbl : List Pk} {l : List Nat} (h : Qp W A v N D tbl l) (c : Chg (fun _ => False) W W') : Qp W' A v N D tbl l :=
  ⟨blk_kept h.1 c (fun h => h), own_kept h.2.1 c (fun _ _ h => h), h.2.2.1, tbl_kept h.2.2.2.1 c (fun _ h => h.elim), h.2.2.2.2⟩
theorem qp_kept {W W' : World} {S : Nat → Prop} {A : Nat} {v : Value} {N D : Nat} {tbl : List Pk} {l : List Nat} (h : Qp W A v N D tbl l) (c : Chg S W W') (hS : ∀ k, foot A v k → ¬ S k) (hT : ∀ p ∈ tbl, ¬ S p.b) : Qp W' A v N D tbl l :=
  ⟨blk_kept h.1 c (hS A (.inl rfl)), own_kept h.2.1 c (fun k hk => hS k (.inr hk)), h.2.2.1, fun p hp => ⟨(h.2.2.2.1 p hp).1, tm_kept (h.2.2.2.1 p hp).2.1 c (hT p hp), (h.2.2.2.1 p hp).2.2⟩, h.2.2.2.2⟩
theorem qp_cell {W : World} {A : Nat} {v : Value} {N D : Nat} {tbl : List Pk} {l : List Nat} (h : Qp W A v N D tbl l) : W.cell? ⟨A, 0, none⟩ = some v ∧ W.frozen? ⟨A, 0, none⟩ = false :=
  ⟨by rw [blk_cell h.1]; rfl, blk_free h.1 0⟩
theorem key_lt {N D : Nat} {p q : Pk} (hp : PkOk N D p) (hq : PkOk N D q) (hD : D < 16777216) : key p < key q ↔ p.c < q.c ∨ (p.c = q.c ∧ cmpL p.ts q.ts < 0) :=
  fk_lt p.ts q.ts p.c q.c (by rw [hp.1, hq.1]) (fun x hx => by have := hp.2.1 x hx; unfold MB; omega) (fun x hx => by have := hq.2.1 x hx; unfold MB; omega)
end Go.Proofs.Ytabnafjndljimaa
