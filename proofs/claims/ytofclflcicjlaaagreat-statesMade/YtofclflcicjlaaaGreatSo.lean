/-
  What the library's SortFunc, Search and Compare do, laid at this program; the program's own comparing of two sources; the sources of a class: the places from which one comes to its states, ordered by the first of them; the last one that is not above a state is the one; a row of sources, sorted: the same ones, rising; nothing else that was there turns.
-/
import Derived.Test.YtofclflcicjlaaaGreatRows
import Derived.Test.YtofclflcicjlaaaGreatSw
import Derived.Test.YtofclflcicjlaaaGreatSm
import Derived.Test.YtofclflcicjlaaaGreatBd
import Derived.Shelf.SlSortCmp.NoneTotal
import Derived.Shelf.SlSorted.Search
import Derived.Shelf.SlicesG.Cmp
import Derived.Shelf.Lay
import Derived.Ground.SlsfProg
import Derived.Ground.SlgcProg
import Derived.Ground.SlsoProg
import Derived.WalkKit
import Derived.ProofKit
import Derived.OpenShut
import Derived.Deep.QuietTactic
import Derived.BigQuiet
import Derived.Below
namespace Go.Proofs.YtofclflcicjlaaaGreat
open Go.ChangeShapes Go.WideShapes Go.ChangeAt Go.RowKit
open Go.ChangeMaps (open_string shut_string)
set_option maxRecDepth 100000
shelf_lay_g SlLaysF0.n6 Slsf 6 at Tryz 47 as Tryz.sortSrc
shelf_lay_g SlLaysC2.n5 Slgc 5 at Tryz 49 as Tryz.cmpInt
shelf_lay SlLaysO.n16 Slso 16 at Tryz as Tryz.search

abbrev Src := Nat × Nat × Nat × Nat
def enS (x : Src) : List Value := [.int .i64 (x.1 : Int), .int .i64 (x.2.1 : Int), .int .i64 (x.2.2.1 : Int), .int .i64 (x.2.2.2 : Int)]
def ens (l : List Src) : List Value := l.flatMap enS
theorem ens_len (l : List Src) : (ens l).length = l.length * 4 := by
  induction l with
  | nil => rfl
  | cons x l ih => simp only [ens, List.flatMap_cons, List.length_append] at ih ⊢; rw [ih]; simp [enS]; omega
theorem ens_snoc (l : List Src) (x : Src) : ens (l ++ [x]) = ens l ++ enS x := by unfold ens; rw [List.flatMap_append]; simp
theorem ens_one (l : List Src) : ∀ u ∈ ens l, u.oneCell' = true := by
  intro u hu
  obtain ⟨x, -, hx⟩ := List.mem_flatMap.1 hu
  simp [enS] at hx
  rcases hx with rfl | rfl | rfl | rfl <;> rfl
theorem ens_at (l : List Src) : ∀ (i u : Nat) (x : Src), l[i]? = some x → u < 4 → (ens l)[i * 4 + u]? = (enS x)[u]? := by
  induction l with
  | nil => intro i u x h; simp at h
  | cons y l ih =>
    intro i u x h hu
    cases i with
    | zero =>
      simp at h
      subst h
      have h4 : (enS y).length = 4 := rfl
      unfold ens
      rw [List.flatMap_cons, List.getElem?_append_left (by omega)]
      simp
    | succ i =>
      have h4 : (enS y).length = 4 := rfl
      unfold ens
      rw [List.flatMap_cons, List.getElem?_append_right (by omega), h4, show (i + 1) * 4 + u - 4 = i * 4 + u by omega]
      exact ih i u x (by simpa using h) hu
/-- The row of a class holds just its places. -/
def Sr (k : Nat) (L cs : List Nat) (c : Nat) (d : List Src) : Prop :=
  (∀ x ∈ d, ∃ p, p < 2 ^ k ∧ g cs p = c ∧ x = (p, cel k L cs p)) ∧ ∀ p, p < 2 ^ k → g cs p = c → (p, cel k L cs p) ∈ d
def Asc (d : List Src) : Prop := d.Pairwise fun x y => x.2.2.2 ≤ y.2.2.2
def rowS (k : Nat) (L cs : List Nat) (c m : Nat) : List Src := ((List.range m).filter fun p => decide (g cs p = c)).map fun p => (p, cel k L cs p)
theorem rowS_yes (k : Nat) (L cs : List Nat) (c m : Nat) (h : g cs m = c) : rowS k L cs c (m + 1) = rowS k L cs c m ++ [(m, cel k L cs m)] := by
  unfold rowS
  rw [List.range_succ, List.filter_append, List.map_append]
  simp [h]
theorem rowS_no (k : Nat) (L cs : List Nat) (c m : Nat) (h : g cs m ≠ c) : rowS k L cs c (m + 1) = rowS k L cs c m := by
  unfold rowS
  rw [List.range_succ, List.filter_append, List.map_append]
  simp [h]
theorem rowS_len (k : Nat) (L cs : List Nat) (c m : Nat) : (rowS k L cs c m).length ≤ m := by
  unfold rowS
  rw [List.length_map]
  refine Nat.le_trans (List.length_filter_le _ _) ?_
  simp
theorem rowS_sr (k : Nat) (L cs : List Nat) (c : Nat) : Sr k L cs c (rowS k L cs c (2 ^ k)) := by
  constructor
  · intro x hx
    obtain ⟨p, hp, rfl⟩ := List.mem_map.1 hx
    obtain ⟨h1, h2⟩ := List.mem_filter.1 hp
    exact ⟨p, List.mem_range.1 h1, by simpa using h2, rfl⟩
  · intro p hp hc
    exact List.mem_map.2 ⟨p, List.mem_filter.2 ⟨List.mem_range.2 hp, by simpa using hc⟩, rfl⟩
theorem sr_perm {k : Nat} {L cs : List Nat} {c : Nat} {d d' : List Src} (hp : d'.Perm d) (h : Sr k L cs c d) : Sr k L cs c d' :=
  ⟨fun x hx => h.1 x (hp.mem_iff.1 hx), fun p h1 h2 => hp.mem_iff.2 (h.2 p h1 h2)⟩
theorem sr_none {k : Nat} {L cs : List Nat} {c : Nat} {d : List Src} (hs : Spd k L cs) (h : Sr k L cs c d) (hc : g L c = 0) : d = [] := by
  cases d with
  | nil => rfl
  | cons x l =>
    obtain ⟨p, hp, hg, -⟩ := h.1 x (by simp)
    have := (spd_lt hs (g_mem cs p (by rw [hs.all]; exact hp))).2
    rw [hg] at this; omega
/-- In a list that rises those that are not above a number are the first ones. -/
theorem cnt_first (st : Nat) : ∀ (d : List Src), Asc d → ∀ i x, d[i]? = some x → (x.2.2.2 ≤ st ↔ i < d.countP fun y => decide (y.2.2.2 ≤ st)) := by
  intro d
  induction d with
  | nil => intro _ i x h; simp at h
  | cons y l ih =>
    intro hA i x h
    obtain ⟨h1, h2⟩ := List.pairwise_cons.1 hA
    by_cases hy : y.2.2.2 ≤ st
    · rw [List.countP_cons_of_pos (by simpa using hy)]
      cases i with
      | zero => simp at h; subst h; exact ⟨fun _ => by omega, fun _ => hy⟩
      | succ i => rw [ih h2 i x (by simpa using h)]; omega
    · have h0 : (l.countP fun y => decide (y.2.2.2 ≤ st)) = 0 := by
        rw [List.countP_eq_zero]
        intro z hz
        have := h1 z hz
        simp; omega
      rw [List.countP_cons_of_neg (by simpa using hy), h0]
      cases i with
      | zero => simp at h; subst h; exact ⟨fun e => absurd e hy, fun e => by omega⟩
      | succ i =>
        have hm : x ∈ l := List.mem_of_getElem? (by simpa using h)
        have := h1 x hm
        constructor <;> intro e <;> omega
theorem asc_at {d : List Src} (h : Asc d) {i j : Nat} {x y : Src} (hij : i ≤ j) (hx : d[i]? = some x) (hy : d[j]? = some y) : x.2.2.2 ≤ y.2.2.2 := by
  obtain ⟨hi, rfl⟩ := List.getElem?_eq_some_iff.1 hx
  obtain ⟨hj, rfl⟩ := List.getElem?_eq_some_iff.1 hy
  by_cases e : i = j
  · subst e; exact Nat.le_refl _
  · exact List.pairwise_iff_getElem.1 h i j hi hj (by omega)
theorem src_at {k : Nat} {L cs : List Nat} {c st : Nat} {d : List Src} (hs : Spd k L cs) (hr : Sr k L cs c d) (hA : Asc d) (hc : 0 < g L c) (hx : st < 2 ^ k) :
    ∃ m, (d.countP fun y => decide (y.2.2.2 ≤ st)) = m + 1 ∧ m < d.length ∧ d[m]? = some (fnd k L cs c st, cel k L cs (fnd k L cs c st)) := by
  obtain ⟨f1, f2, f3⟩ := fnd_is hs hc hx
  have hh := f2
  unfold hits at hh
  simp only [Bool.and_eq_true, decide_eq_true_eq, and_assoc] at hh
  obtain ⟨e1, e2, e3⟩ := hh
  obtain ⟨i, hi⟩ := List.mem_iff_getElem?.1 (hr.2 _ f1 e1)
  have h1 := (cnt_first st d hA i _ hi).1 e2
  obtain ⟨m, hm⟩ : ∃ m, (d.countP fun y => decide (y.2.2.2 ≤ st)) = m + 1 := ⟨(d.countP fun y => decide (y.2.2.2 ≤ st)) - 1, by omega⟩
  have hle : (d.countP fun y => decide (y.2.2.2 ≤ st)) ≤ d.length := List.countP_le_length
  have hml : m < d.length := by omega
  refine ⟨m, hm, hml, ?_⟩
  obtain ⟨x, hxm⟩ : ∃ x, d[m]? = some x := ⟨_, List.getElem?_eq_getElem hml⟩
  have h2 := (cnt_first st d hA m x hxm).2 (by omega)
  have h3 := asc_at hA (by omega : i ≤ m) hi hxm
  obtain ⟨p, hp, hg, rfl⟩ := hr.1 x (List.mem_of_getElem? hxm)
  obtain ⟨c', b, e, hcel, hg', -, hb, he, -⟩ := cel_bd hs p hp
  have pb := Nat.two_pow_pos b
  simp only at h2 h3
  have z1 : hits k L cs c e p = true := by
    unfold hits
    rw [hcel]
    simp only [Bool.and_eq_true, decide_eq_true_eq, and_assoc]
    exact ⟨hg, Nat.le_refl _, by omega⟩
  rw [hcel] at h2 h3
  simp only at h2 h3
  have z2 : hits k L cs c e (fnd k L cs c st) = true := by
    unfold hits
    simp only [Bool.and_eq_true, decide_eq_true_eq, and_assoc]
    exact ⟨e1, h3, by omega⟩
  obtain ⟨q, q1, q2, q3⟩ := hits_one hs hc (show e < 2 ^ k by omega)
  rw [hxm, show p = fnd k L cs c st from by rw [q3 _ hp z1, q3 _ f1 z2]]
open Go.Shelf Go.Lib Go.Sort
def cfS (x y : Src) : Int := compareInt (x.2.2.2 : Int) (y.2.2.2 : Int)
theorem ltS (x y : Src) : ltOf cfS x y = decide (x.2.2.2 < y.2.2.2) := by
  unfold ltOf cfS compareInt
  by_cases h1 : x.2.2.2 < y.2.2.2
  · have : (x.2.2.2 : Int) < (y.2.2.2 : Int) := by omega
    simp [h1, this]
  · have h0 : ¬ (x.2.2.2 : Int) < (y.2.2.2 : Int) := by omega
    by_cases h2 : (x.2.2.2 : Int) > (y.2.2.2 : Int)
    · simp [h1, h0, h2]
    · simp [h1, h0, h2]
theorem swoS : SWO (ltOf cfS) where
  irrefl x := by rw [ltS]; simp
  trans x y z h1 h2 := by rw [ltS] at *; simp at *; omega
  ntrans x y z h1 h2 := by rw [ltS] at *; simp at *; omega
set_option maxHeartbeats 1000000 in
theorem cmp_any (x y : Src) (W : World) : Calls Tryz.prog 48 #[.agg (enS x).toArray, .agg (enS y).toArray] W fun e w' => e = .returned (.int .i64 (cfS x y)) ∧ ∃ q os', w' = grow (W.drewN q) os' := by
  have hcon := fun W' => AnyG.cmp_Compare_int Tryz.cmpInt (x.2.2.2 : Int) (y.2.2.2 : Int) W'
  change ∀ W', Calls Tryz.prog 49 _ _ _ at hcon
  show Calls Tryz.prog 48 #[.agg #[.int .i64 (x.1 : Int), .int .i64 (x.2.1 : Int), .int .i64 (x.2.2.1 : Int), .int .i64 (x.2.2.2 : Int)], .agg #[.int .i64 (y.1 : Int), .int .i64 (y.2.1 : Int), .int .i64 (y.2.2.1 : Int), .int .i64 (y.2.2.2 : Int)]] W _
  unfold cfS
  generalize compareInt (x.2.2.2 : Int) (y.2.2.2 : Int) = r at hcon ⊢
  go_enter Tryz.func48, Tryz.ntmps48
  go_wp2_with (go_at_call 49; refine (hcon _).mono ?_; rintro e w' ⟨rfl, rfl⟩)
  go_ret
  exact ⟨rfl, 0, _, by rw [alloc_eq_grow, alloc_eq_grow, grow_grow]; rfl⟩
theorem cmpLaysS (blk off size : Nat) (w : World) : CmpLays Tryz.prog 48 #[] enS 4 cfS blk off size w := fun _ _ _ _ x y => cmp_any x y _
theorem chg_sorted {w : World} {b n : Nat} {d : Array Src} {os : Array Obj} : Chg (· = b) w (sortWorldK enS 4 w b 0 n d os) := by
  refine ⟨rfl, rfl, rfl, ?_, fun k hk hS => ?_⟩
  · show w.heap.size ≤ ((putRowK enS 4 (Sort.ahead w n) b 0 d).heap ++ os).size
    have : (putRowK enS 4 (Sort.ahead w n) b 0 d).heap.size = w.heap.size := by unfold putRowK; rw [size_putRow]; rfl
    rw [Array.size_append]; omega
  · have hs : (putRowK enS 4 (Sort.ahead w n) b 0 d).heap.size = w.heap.size := by unfold putRowK; rw [size_putRow]; rfl
    show ((putRowK enS 4 (Sort.ahead w n) b 0 d).heap ++ os)[k]? = _
    rw [Array.getElem?_append_left (by omega)]
    show (w.heap.modify b _)[k]? = _
    rw [Array.getElem?_modify, if_neg (fun e => hS e.symm)]
theorem holds_own {w : World} {b cap : Nat} {l : List Src} (h : w.ownsRow 0 109 4 (.slice (some ⟨b, 0, none⟩) l.length cap) l.length (ens l)) : HoldsK enS 4 w b 0 l.toArray := by
  intro j hj
  rw [size_flatK] at hj
  have hj' : j < l.length * 4 := by simpa using hj
  refine ⟨?_, ?_⟩
  · rw [get_flatK _ _ _ _ hj, Nat.zero_add, h.cellAt j hj']
    have hi : j / 4 < l.length := by omega
    have := ens_at l (j / 4) (j % 4) l[j / 4] (List.getElem?_eq_getElem hi) (by omega)
    rw [show j / 4 * 4 + j % 4 = j by omega] at this
    rw [this]
    have e : l.toArray[j / 4]! = l[j / 4] := by simp [hi]
    rw [e]
    have h4 : (enS l[j / 4]).length = 4 := rfl
    rw [getElem!_pos (enS l[j / 4]) (j % 4) (by omega), List.getElem?_eq_getElem (by omega)]
    rfl
  · rw [Nat.zero_add]; exact h.frozenAt j
theorem sort_any (b cap : Nat) (d : List Src) (w : World) (hH : HoldsK enS 4 w b 0 d.toArray) (hb : b < w.heap.size) (hl : d.length ≤ 100000) :
    Calls Tryz.prog 47 #[.slice (some ⟨b, 0, none⟩) (d.length : Nat) cap, .func (.func 48) #[] #[]] w fun e w' => e = .returned (.tuple #[]) ∧ ∃ d' : List Src, d'.Perm d ∧ Asc d' ∧ HoldsK enS 4 w' b 0 d'.toArray ∧ Chg (· = b) w w' := by
  have eg : ∀ args w, (callFunc 48 args).run Tryz.prog w = .ok (.enter 48 args) w := enters_of Tryz.func48 (by kernel_rfl) rfl
  have hcon := AnyQ.slices_SortFunc Tryz.sortSrc 4 Tryz.isAgg109 Tryz.sizeOf109 enS (fun _ => rfl) (fun x v hv => by simp [enS] at hv; rcases hv with rfl | rfl | rfl | rfl <;> rfl) cfS swoS 48 #[] b 0 cap d.toArray w eg (cmpLaysS b 0 d.toArray.size w) hH hb (by simp; omega)
  change Calls Tryz.prog 47 _ _ _ at hcon
  rw [List.size_toArray] at hcon
  refine hcon.mono ?_
  rintro e w' ⟨rfl, d', n, os, hp, hs, rfl⟩
  obtain ⟨p1, -, p3⟩ := hp
  have hz : d'.size = d.length := by simpa using p1
  refine ⟨rfl, d'.toList, ?_, ?_, ?_, chg_sorted⟩
  · have e1 : d'.extract 0 d.length = d' := by rw [← hz]; simp
    have e2 : d.toArray.extract 0 d.length = d.toArray := by simp
    rw [e1, e2] at p3
    exact p3
  · unfold Asc
    rw [List.pairwise_iff_getElem]
    intro i j hi hj hij
    have hjz : j < d'.size := by simpa using hj
    have := hs i j (Nat.zero_le _) hij (by omega)
    rw [ltS] at this
    simp at this
    rw [getElem!_pos d' i (by omega), getElem!_pos d' j hjz] at this
    simpa using this
  · have := holdsK_sortWorldK_c enS 4 w b 0 d.toArray d' n os hH hb p1
    simpa using this
theorem sort_none (p : Option Addr) (cap : Nat) (w : World) : Calls Tryz.prog 47 #[.slice p 0 cap, .func (.func 48) #[] #[]] w fun e w' => e = .returned (.tuple #[]) ∧ w' = w := by
  have hcon := AnyF.slices_SortFunc_none Tryz.sortSrc p cap (.func (.func 48) #[] #[]) w
  change Calls Tryz.prog 47 _ _ _ at hcon
  exact hcon
end Go.Proofs.YtofclflcicjlaaaGreat
