/-
  The calls of package zig return what the plain functions say, for every number and part; where they make memory nothing that was there turns; which blocks a call may change; blocks and rows of the call's own; lists of whole numbers and of parts that can be read; rows that make lays, cells of rows set anew; a heap in a list, by its steps up and down, and what comes out of it one after the other; entries in memory; elements appended to a row of the call's own, in a walk and in a region that draws: where the row then lies; the queue's own methods: what is called through the interface, Len, Less, Swap, Push; push and Pop of the heap, and the queue's next: what comes out, and what is left; order comes out of the heap: the places whose number is above nought, the greatest first, for every list of a thousand at the most; how many parts are of each class, for every list of a thousand at the most; whether two lists of numbers are one; parts of numbers are told again, and all are counted; what lies behind any slice appended to a row of the call's own; two lists together, and turned round; a part set in among others: what the steps of it leave as it was.
-/
import Derived.Test.YtofclflcicjlaaaGreatRows
import Derived.WalkKit
import Derived.ProofKit
import Derived.OpenShut
import Derived.Deep.QuietTactic
import Derived.BigQuiet
import Derived.Lib.BitFns
import Derived.Laws.BitsAllLaws
import Derived.WalkSmall
import Derived.Lib.Strings
import Derived.Lib.Slices
import Derived.Lib.Small
import Derived.Lib.Walk
import Derived.Deep.RegionHeld3
import Derived.Below
import Derived.Deep.Heap
import Derived.ArgAppend
import Derived.Maps.AppendAt
import Derived.Laws.IdiomStrings
import Derived.Deep.OwnRows
import Derived.Deep.RegionLaw
import Derived.Handy
import Derived.Deep.RegionWith
import Derived.OwnWalk
import Derived.Laws.OwnMore
namespace Go.Proofs.YtofclflcicjlaaaGreat
open Go.ChangeShapes Go.WideShapes Go.ChangeAt Go.RowKit
open Go.ChangeMaps (open_string shut_string)
theorem below_drewN {B : Nat} {a w : World} (h : Below B a w) (n : Nat) : Below B a (w.drewN n) := by
  induction n with
  | zero => exact h
  | succ n ih => exact ih.drew

theorem Hid.intro {p : Prop} (h : p) : Hid p := h
/-- From w to w' no old block has turned but those of S; the streams are as they were; no block has gone. -/
def Chg (S : Nat → Prop) (w w' : World) : Prop :=
  w'.os = w.os ∧ w'.tape = w.tape ∧ w'.output = w.output ∧ w.heap.size ≤ w'.heap.size ∧ ∀ k, k < w.heap.size → ¬ S k → w'.heap[k]? = w.heap[k]?
theorem chg_refl (S : Nat → Prop) (w : World) : Chg S w w := ⟨rfl, rfl, rfl, Nat.le_refl _, fun _ _ _ => rfl⟩
theorem chg_set {S : Nat → Prop} {a b : World} (h : Chg S a b) (p : Addr) (u : Value) (hp : p.block < a.heap.size → S p.block) : Chg S a (b.setCell p u) :=
  ⟨h.1, h.2.1, h.2.2.1, by rw [Go.Deep.nblk_setCell]; exact h.2.2.2.1,
   fun k hk hS => (Below.heap_setCell _ _ _ _ (fun e => by subst e; exact hS (hp hk))).trans (h.2.2.2.2 k hk hS)⟩
theorem chg_drew {S : Nat → Prop} {a b : World} (h : Chg S a b) : Chg S a b.drew := h
theorem chg_drewN {S : Nat → Prop} {a b : World} (h : Chg S a b) (m : Nat) : Chg S a (b.drewN m) := h
theorem chg_grown {S : Nat → Prop} {a b c : World} {row : Option Nat} (h : Chg S a b) (g : b.grownBy c row) (hr : ∀ k, row = some k → k < a.heap.size → S k) : Chg S a c :=
  ⟨g.os.trans h.1, g.tape.trans h.2.1, g.output.trans h.2.2.1, Nat.le_trans h.2.2.2.1 g.size,
   fun k hk hS => (g.block k (Nat.lt_of_lt_of_le hk h.2.2.2.1) (fun e => hS (hr k e.symm hk))).trans (h.2.2.2.2 k hk hS)⟩
theorem chg_below {S : Nat → Prop} {a b : World} {B : Nat} (h : Chg S a b) (hB : B ≤ a.heap.size) (hS : ∀ k, S k → B ≤ k) : Below B a b :=
  ⟨h.1, h.2.1, h.2.2.1, h.2.2.2.1, fun k hk => h.2.2.2.2 k (by omega) (fun s => by have := hS k s; omega)⟩
theorem chg_of {S : Nat → Prop} {a b : World} (h : Below a.heap.size a b) : Chg S a b := ⟨h.os, h.tape, h.output, h.size, fun k hk _ => h.block k hk⟩
theorem chg_from {S : Nat → Prop} {a b : World} {B : Nat} (h : Below B a b) (hS : ∀ k, k < a.heap.size → ¬ S k → k < B) : Chg S a b := ⟨h.os, h.tape, h.output, h.size, fun k hk hs => h.block k (hS k hk hs)⟩

/-- A block of cells, none frozen. -/
def Blk (W : World) (A : Nat) (cs : Array Value) (t : TypeId) : Prop := W.heap[A]? = some (.cells cs t (0, 0))
theorem blk_lt {W : World} {A : Nat} {cs : Array Value} {t : TypeId} (h : Blk W A cs t) : A < W.heap.size := (Array.getElem?_eq_some_iff.1 h).1
theorem blk_cell {W : World} {A : Nat} {cs : Array Value} {t : TypeId} (h : Blk W A cs t) (j : Nat) : W.cell? ⟨A, j, none⟩ = cs[j]? := by
  rw [Blk] at h; simp [World.cell?, h]
theorem blk_free {W : World} {A : Nat} {cs : Array Value} {t : TypeId} (h : Blk W A cs t) (j : Nat) : W.frozen? ⟨A, j, none⟩ = false := by
  rw [Blk] at h; simp [World.frozen?, h]
theorem blk_kept {W W' : World} {S : Nat → Prop} {A : Nat} {cs : Array Value} {t : TypeId} (h : Blk W A cs t) (g : Chg S W W') (hS : ¬ S A) : Blk W' A cs t :=
  (g.2.2.2.2 A (blk_lt h) hS).trans h
theorem blk_set {W : World} {A : Nat} {cs : Array Value} {t : TypeId} (h : Blk W A cs t) (j : Nat) (u : Value) : Blk (W.setCell ⟨A, j, none⟩ u) A (cs.setIfInBounds j u) t := by
  have hlt := blk_lt h
  have hv : W.heap[A] = .cells cs t (0, 0) := (Array.getElem?_eq_some_iff.1 h).2
  unfold Blk World.setCell
  rw [Array.getElem?_eq_getElem (by simpa using hlt), Array.getElem_modify]
  simp [hv]
theorem blk_alloc {W : World} {A : Nat} {cs : Array Value} {t : TypeId} (h : Blk W A cs t) (o : Obj) : Blk (W.alloc o) A cs t :=
  (Below.heap_alloc _ _ _ (blk_lt h)).trans h
theorem blk_drew {W : World} {A : Nat} {cs : Array Value} {t : TypeId} (h : Blk W A cs t) : Blk W.drew A cs t := h
theorem blk_new (W : World) (cs : Array Value) (t : TypeId) : Blk (W.alloc (.cells cs t)) W.heap.size cs t := Go.Deep.blk_alloc_new W _

theorem own_kept {W W' : World} {S : Nat → Prop} {base e size : Nat} {v : Value} {n : Nat} {xs : List Value} (h : W.ownsRow base e size v n xs) (g : Chg S W W') (hS : ∀ k, v.ownBlock = some k → ¬ S k) : W'.ownsRow base e size v n xs := by
  refine ⟨h.1, ?_⟩
  rcases h.2 with hn | ⟨b, cap, cur, rfl, hb, hg, rest⟩
  · exact .inl hn
  · exact .inr ⟨b, cap, cur, rfl, hb, (g.2.2.2.2 b (Array.getElem?_eq_some_iff.1 hg).1 (hS b rfl)).trans hg, rest⟩
theorem own_low {w : World} {base b' e size : Nat} {v : Value} {n : Nat} {xs : List Value} (h : w.ownsRow base e size v n xs) (hb : b' ≤ base) : w.ownsRow b' e size v n xs := by
  refine ⟨h.1, ?_⟩
  rcases h.2 with hn | ⟨g, cap, cur, hv, hg, rest⟩
  · exact .inl hn
  · exact .inr ⟨g, cap, cur, hv, Nat.le_trans hb hg, rest⟩

/-- The row has moved to new memory, or stands where it stood. -/
def Moved (W : World) (v v' : Value) : Prop := ∀ k, v'.ownBlock = some k → v.ownBlock = some k ∨ W.heap.size ≤ k

theorem info_all {e : TypeId} {z : Value} {s b : Nat} (h : (Tryz.prog.info? e).map (fun i => (i.zero, i.size, i.bytes)) = some (some z, s, b)) : ∃ i, Tryz.prog.info? e = some i ∧ i.zero = some z ∧ i.size = s ∧ i.bytes = b := by
  cases hi : Tryz.prog.info? e with
  | none => rw [hi] at h; simp at h
  | some i => rw [hi] at h; simp at h; exact ⟨i, rfl, h.1, h.2.1, h.2.2⟩
theorem info3 : (Tryz.prog.info? 3).map (fun i => (i.zero, i.size, i.bytes)) = some (some (.int .i64 0), 1, 8) := by kernel_rfl
/-- The whole numbers that a list of cells holds; the parts. -/
def iv (z : Int) : Value := .int .i64 z
def ivs (l : List Int) : List Value := l.map iv
/-- A list of whole numbers, or of parts, that can be read from an address on. -/
def RI (W : World) (a : Option Addr) (n : Nat) (zs : List Int) : Prop :=
  zs.length = n ∧ (0 < n → ∃ x, a = some x ∧ ∀ i (h : i < zs.length), W.cell? (x.add i) = some (.int .i64 zs[i]))
/-- All fit 64 bits. -/
def FI (zs : List Int) : Prop := ∀ z ∈ zs, -9223372036854775808 ≤ z ∧ z ≤ 9223372036854775807
theorem ri_below {W W' : World} {a : Option Addr} {n : Nat} {zs : List Int} (h : RI W a n zs) (g : Below W.heap.size W W') : RI W' a n zs :=
  ⟨h.1, fun h0 => by
    obtain ⟨x, hx, hc⟩ := h.2 h0
    exact ⟨x, hx, fun i hi => by rw [g.cell (World.block_lt_of_cell? _ _ (hc i hi))]; exact hc i hi⟩⟩
theorem own_ri {W : World} {base e : Nat} {v : Value} {n : Nat} {zs : List Int} (h : W.ownsRow base e 1 v n (ivs zs)) : ∃ a cap, v = .slice a n cap ∧ n ≤ cap ∧ cap ≤ maxLen ∧ RI W a n zs := by
  have hl : zs.length = n := by have := h.1; simpa [ivs] using this
  rcases h.2 with ⟨hv, hn⟩ | ⟨g, cap, cur, hv, _, hg, hc, hm, hs, ht⟩
  · exact ⟨none, 0, by rw [hv, hn], by omega, by decide, hl, fun h0 => by omega⟩
  · refine ⟨_, cap, hv, hc, hm, hl, fun _ => ⟨_, rfl, fun i hi => ?_⟩⟩
    refine h.cells (g := g) (by rw [hv]; rfl) i _ ?_
    simp [ivs, iv, hi]

theorem make_ints (t e : TypeId) (ht : Tryz.prog.underlying t = some (.slice e)) (hi : (Tryz.prog.info? e).map (fun i => (i.zero, i.size, i.bytes)) = some (some (.int .i64 0), 1, 8)) (n : Nat) (hn : n ≤ 100000) (W : World) :
    (Instr.makeSlice t (.int .i64 (n : Int)) (.int .i64 (n : Int))).run Tryz.prog W = .ok (.slice (some ⟨W.heap.size, 0, none⟩) n n) (W.alloc (.cells (madeCells #[.int .i64 0] n) e)) :=
  run_make_row' t e (.int .i64 0) 8 ht hi rfl .i64 .i64 n (by omega) (by omega) W
theorem made_ints (n : Nat) : (madeCells #[Value.int .i64 0] n).toList = ivs (List.replicate n 0) := by
  apply List.ext_getElem?
  intro i
  simp only [madeCells, ivs, Array.toList_map, Array.toList_range, List.getElem?_map, List.getElem?_replicate]
  by_cases h : i < n
  · simp [h, Nat.mod_one, iv]
  · simp [h]
theorem own_made_ints (W : World) (e n : Nat) (hn : n ≤ 100000) : (W.alloc (.cells (madeCells #[.int .i64 0] n) e)).ownsRow W.heap.size e 1 (.slice (some ⟨W.heap.size, 0, none⟩) n n) n (ivs (List.replicate n 0)) :=
  ⟨by simp [ivs], .inr ⟨_, n, _, rfl, Nat.le_refl _, blk_new _ _ _, Nat.le_refl _, by simp only [maxLen]; omega, by simp [madeCells], by rw [made_ints, List.take_of_length_le (by simp [ivs])]⟩⟩
/-- One cell of the row set anew. -/
theorem own_set {W : World} {base e size g n cap : Nat} {xs : List Value} (h : W.ownsRow base e size (.slice (some ⟨g, 0, none⟩) n cap) n xs) (j : Nat) (u : Value) :
    (W.setCell ⟨g, j, none⟩ u).ownsRow base e size (.slice (some ⟨g, 0, none⟩) n cap) n (xs.set j u) := by
  obtain ⟨h1, h2⟩ := h
  refine ⟨by simpa using h1, ?_⟩
  rcases h2 with ⟨h0, _⟩ | ⟨g', cap', cur, hv, hb, hg, hc, hm, hs, ht⟩
  · cases h0
  · injection hv with e1 e2 e3
    injection e1 with e1
    injection e1 with e1
    subst e1 e3
    refine .inr ⟨g, cap, cur.setIfInBounds j u, rfl, hb, blk_set hg j _, hc, hm, by simpa using hs, ?_⟩
    rw [Array.toList_setIfInBounds, List.take_set, ht]
theorem ivs_set (l : List Int) (i : Nat) (z : Int) : (ivs l).set i (.int .i64 z) = ivs (l.set i z) := by unfold ivs; rw [List.map_set]; rfl
/-- A cell of the row: it is there, and free. -/
theorem own_there {W : World} {base e size g n cap : Nat} {xs : List Value} (h : W.ownsRow base e size (.slice (some ⟨g, 0, none⟩) n cap) n xs) (j : Nat) (hj : j < n * size) :
    W.cell? ⟨g, j, none⟩ = xs[j]? ∧ (W.cell? ⟨g, j, none⟩).isSome = true ∧ W.frozen? ⟨g, j, none⟩ = false := by
  obtain ⟨h1, h2⟩ := h
  rcases h2 with ⟨h0, _⟩ | ⟨g', cap', cur, hv, hb, hg, hc, hm, hs, ht⟩
  · cases h0
  · injection hv with e1 e2 e3
    injection e1 with e1
    injection e1 with e1
    subst e1 e3
    have hx : W.cell? ⟨g, j, none⟩ = xs[j]? := by
      rw [blk_cell hg, ← ht, List.getElem?_take, if_pos hj]; simp
    refine ⟨hx, ?_, blk_free hg j⟩
    rw [hx, List.getElem?_eq_getElem (by omega)]; rfl

/-! ### places by two: a heap in a list -/
def g (l : List Nat) (i : Nat) : Nat := l.getD i 0
theorem g_eq (l : List Nat) (i : Nat) (h : i < l.length) : g l i = l[i] := by unfold g; rw [List.getD_eq_getElem?_getD, List.getElem?_eq_getElem h]; rfl
theorem g_mem (l : List Nat) (i : Nat) (h : i < l.length) : g l i ∈ l := by rw [g_eq l i h]; exact List.getElem_mem h
theorem mem_g {l : List Nat} {x : Nat} (h : x ∈ l) : ∃ i, i < l.length ∧ g l i = x := by
  obtain ⟨i, hi, e⟩ := List.getElem_of_mem h
  exact ⟨i, hi, by rw [g_eq l i hi]; exact e⟩
/-! ### the greatest first, of two alike the lesser place first -/
def fr (f : List Int) (p : Nat) : Int := f.getD p 0
def ltf (f : List Int) (p q : Nat) : Prop := fr f q < fr f p ∨ (fr f p = fr f q ∧ p < q)
def places (f : List Int) (n : Nat) : List Nat := (List.range n).filter (fun p => decide (0 < fr f p))
theorem places_succ (f : List Int) (n : Nat) : places f (n + 1) = if 0 < fr f n then places f n ++ [n] else places f n := by
  unfold places
  rw [List.range_succ, List.filter_append]
  by_cases h : 0 < fr f n
  · rw [if_pos h]; simp [h]
  · rw [if_neg h]; simp [h]
theorem places_mem (f : List Int) (n p : Nat) : p ∈ places f n ↔ p < n ∧ 0 < fr f p := by unfold places; simp
def Ordered (f : List Int) (n : Nat) (l : List Nat) : Prop := l.Perm (places f n) ∧ l.Pairwise (fun a b => ¬ ltf f b a)
theorem ordered_mem {f : List Int} {n : Nat} {l : List Nat} (h : Ordered f n l) (p : Nat) : p ∈ l ↔ p < n ∧ 0 < fr f p := by rw [h.1.mem_iff, places_mem]
/-- A place set in where it belongs. -/
theorem ordered_ins {f : List Int} {n k : Nat} {l : List Nat} (h : Ordered f n l) (hn : 0 < fr f n) (hk : k ≤ l.length) (hd : ∀ b ∈ l.drop k, fr f b < fr f n) (he : k = 0 ∨ fr f n ≤ fr f (g l (k - 1))) :
    Ordered f (n + 1) (l.take k ++ n :: l.drop k) := by
  have hlt : ∀ p ∈ l, p < n := fun p hp => ((ordered_mem h p).1 hp).1
  have hsp : l.take k ++ l.drop k = l := List.take_append_drop k l
  have hpw := h.2
  rw [← hsp, List.pairwise_append] at hpw
  obtain ⟨p1, p2, p3⟩ := hpw
  refine ⟨?_, ?_⟩
  · rw [places_succ, if_pos hn]
    refine List.Perm.trans List.perm_middle ?_
    rw [hsp]
    exact (List.Perm.cons n h.1).trans (List.perm_append_singleton n _).symm
  · rw [List.pairwise_append, List.pairwise_cons]
    refine ⟨p1, ⟨fun b hb => ?_, p2⟩, fun a ha b hb => ?_⟩
    · have := hd b hb
      unfold ltf; omega
    · have aB : fr f n ≤ fr f a := by
        rcases he with rfl | he
        · simp at ha
        · obtain ⟨i, hi, e⟩ := mem_g ha
          rw [List.length_take] at hi
          have ge : g (l.take k) i = g l i := by unfold g; rw [List.getD_eq_getElem?_getD, List.getD_eq_getElem?_getD, List.getElem?_take, if_pos (by omega)]
          rw [ge] at e
          have hk1 : k - 1 < l.length := by omega
          by_cases hik : i = k - 1
          · rw [← e, hik]; exact he
          · have := List.pairwise_iff_getElem.1 h.2 i (k - 1) (by omega) hk1 (by omega)
            rw [← g_eq l i (by omega), ← g_eq l (k - 1) hk1, e] at this
            unfold ltf at this; omega
      have haN := hlt a (List.mem_of_mem_take ha)
      rcases List.mem_cons.1 hb with rfl | hb
      · unfold ltf; omega
      · exact p3 a ha b hb
theorem ordered_skip {f : List Int} {n : Nat} {l : List Nat} (h : Ordered f n l) (hn : ¬ 0 < fr f n) : Ordered f (n + 1) l := by
  refine ⟨?_, h.2⟩
  rw [places_succ, if_neg hn]; exact h.1
theorem ordered_zero (f : List Int) : Ordered f 0 [] := ⟨List.Perm.refl _, List.Pairwise.nil⟩

theorem run_push {P : Program} (w : World) (t ty e : TypeId) (i : TypeInfo) (z : Value) (size bytes : Nat) (ht : P.underlying t = some (.slice e)) (hi : P.info? e = some i) (hz : i.zero = some z)
    (hsize : i.size = size) (hby : i.bytes = bytes) (hzs : z.cells.size = size) (hsz : 0 < size) (h16 : bytes ≤ 16)
    (v : Value) (n : Nat) (xs : List Value) (hown : w.ownsRow 0 e size v n xs)
    (a : Addr) (m c : Nat) (news : List Value) (hl : news.length = m * size) (hnews : ∀ j u, news[j]? = some u → w.cell? (a.add j) = some u) (h1 : ∀ u ∈ news, u.oneCell' = true) (hn : n + m ≤ 100000) :
    ∃ v' w', (Builtin.append_ #[t, t] ty #[v, .slice (some a) m c]).run P w = .ok v' w' ∧ w'.ownsRow 0 e size v' (n + m) (xs ++ news) ∧ w.grownBy w' v.ownBlock ∧ Moved w v v' := by
  have hb : (n + m) * bytes ≤ 140737488355328 := by
    have : (n + m) * bytes ≤ 100000 * 16 := Nat.mul_le_mul hn h16
    omega
  obtain ⟨v', w', r0, r1, r2, _, r4⟩ := run_append_own_at (P := P) w 0 t ty e i z size bytes ht hi hz hsize hby hzs hsz v n xs hown a m c news hl hnews h1 (by simp only [maxLen]; omega) hb (Nat.zero_le _)
  refine ⟨v', w', r0, r1, r2, fun k hk => ?_⟩
  rcases r4 with r4 | r4
  · left; rw [← r4]; exact hk
  · right; rw [hk] at r4; injection r4 with r4; omega
/-- Elements behind a row, as one step of a region that draws. -/
theorem step_push {P : Program} {ops : Array Oper} {o : Oper} {a : Act} {w : World} {K : Act → World → Prop} {Q : Exit → Act → World → Prop} {E : Prop}
    (hg : o.guard = none) (s x : Operand) (t : TypeId) (hop : o.op = Op.call { callee := Callee.builtin Builtin.append, args := #[s, x], argTypes := #[t, t] })
    (e : TypeId) (i : TypeInfo) (z : Value) (size bytes : Nat) (ht : P.underlying t = some (.slice e)) (hi : P.info? e = some i) (hz : i.zero = some z)
    (hsize : i.size = size) (hby : i.bytes = bytes) (hzs : z.cells.size = size) (hsz : 0 < size) (h16 : bytes ≤ 16)
    (v : Value) (n : Nat) (xs : List Value) (hs : a.eval s = v) (hown : w.ownsRow 0 e size v n xs)
    (ad : Addr) (m c : Nat) (news : List Value) (hx : a.eval x = .slice (some ad) m c) (hl : news.length = m * size) (hnews : ∀ j u, news[j]? = some u → w.cell? (ad.add j) = some u) (h1 : ∀ u ∈ news, u.oneCell' = true) (hn : n + m ≤ 100000)
    (hK : ∀ v' w', w'.ownsRow 0 e size v' (n + m) (xs ++ news) → w.grownBy w' v.ownBlock → Moved w v v' → K (a.put o.dst v') w') :
    if Region.wanted o (yielded ops a.tmps) = true then Oper.wp P o a w K Q else E := by
  have hw : Region.wanted o (yielded ops a.tmps) = true := by simp [Region.wanted, hg]
  rw [if_pos hw]
  obtain ⟨v', w', hrun, r1, r2, r3⟩ := run_push (P := P) w t o.type e i z size bytes ht hi hz hsize hby hzs hsz h16 v n xs hown ad m c news hl hnews h1 hn
  unfold Oper.wp
  simp [execOp, hop, resolve, invoke, builtin, hs, hx, hrun, Result.andThen]
  exact hK v' w' r1 r2 r3
theorem wpList_push {P : Program} (w : World) {ops : Array Oper} {rest : List Oper} {o : Oper} {a : Act} {Q : Exit → Act → World → Prop}
    (hg : o.guard = none) (s x : Operand) (t : TypeId) (hop : o.op = Op.call { callee := Callee.builtin Builtin.append, args := #[s, x], argTypes := #[t, t] })
    (e : TypeId) (i : TypeInfo) (z : Value) (size bytes : Nat) (ht : P.underlying t = some (.slice e)) (hi : P.info? e = some i) (hz : i.zero = some z)
    (hsize : i.size = size) (hby : i.bytes = bytes) (hzs : z.cells.size = size) (hsz : 0 < size) (h16 : bytes ≤ 16)
    (v : Value) (n : Nat) (xs : List Value) (hs : a.eval s = v) (hown : w.ownsRow 0 e size v n xs)
    (ad : Addr) (m c : Nat) (news : List Value) (hx : a.eval x = .slice (some ad) m c) (hl : news.length = m * size) (hnews : ∀ j u, news[j]? = some u → w.cell? (ad.add j) = some u) (h1 : ∀ u ∈ news, u.oneCell' = true) (hn : n + m ≤ 100000)
    (hK : ∀ v' w', w'.ownsRow 0 e size v' (n + m) (xs ++ news) → w.grownBy w' v.ownBlock → Moved w v v' → wpList P ops Q rest (a.put o.dst v') w') :
    wpList P ops Q (o :: rest) a w := by
  refine wpList_plain hg fun K hK' => ?_
  obtain ⟨v', w', hr, r1, r2, r3⟩ := run_push (P := P) w t o.type e i z size bytes ht hi hz hsize hby hzs hsz h16 v n xs hown ad m c news hl hnews h1 hn
  unfold Oper.wp execOp
  simp only [hop, resolve, invoke, builtin, Sem.run_bind, Sem.run_pure, Result.andThen_ok, List.map_toArray, List.map_cons, List.map_nil, hs, hx, hr]
  exact hK' _ _ (hK v' w' r1 r2 r3)
theorem drewN_chg (W : World) (k : Nat) : Chg (fun _ => False) W (W.drewN k) := chg_drewN (chg_refl _ _) k
theorem drew_chg (W : World) : Chg (fun _ => False) W W.drew := chg_drew (chg_refl _ _)
theorem own_drew {W : World} {base e size : Nat} {v : Value} {n : Nat} {xs : List Value} (h : W.ownsRow base e size v n xs) : W.drew.ownsRow base e size v n xs :=
  own_kept (S := fun _ => False) h (drew_chg W) (fun _ _ h => h)
theorem chg_in {a W : World} {b : Nat} (h : Chg (· = b) a W) (j : Nat) (u : Value) : Chg (· = b) a (W.setCell ⟨b, j, none⟩ u) := chg_set h _ _ (fun _ => rfl)
theorem own_slice {W : World} {base e size : Nat} {v : Value} {n : Nat} {xs : List Value} (h : W.ownsRow base e size v n xs) (hn : 0 < n) : ∃ b cap, v = .slice (some ⟨b, 0, none⟩) n cap := by
  rcases h.2 with ⟨_, h0⟩ | ⟨b, cap, cur, hv, _⟩
  · omega
  · exact ⟨b, cap, hv⟩
theorem two_new (w : World) (x y : Value) (t : TypeId) : ∀ j u, [x, y][j]? = some u → (w.alloc (.cells #[x, y] t)).cell? ((⟨w.heap.size, 0, none⟩ : Addr).add j) = some u := by
  intro j u hj
  rw [Addr.add_lit, blk_cell (blk_new w #[x, y] t), ← hj]
  simp
theorem own_take {W : World} {base e size g n m cap : Nat} {xs : List Value} (h : W.ownsRow base e size (.slice (some ⟨g, 0, none⟩) m cap) m xs) (hn : n ≤ m) : W.ownsRow base e size (.slice (some ⟨g, 0, none⟩) n cap) n (xs.take (n * size)) := by
  have hms : n * size ≤ m * size := Nat.mul_le_mul_right _ hn
  refine ⟨by rw [List.length_take, h.1]; omega, ?_⟩
  rcases h.2 with ⟨h0, _⟩ | ⟨g', cap', cur, hv, hb, hg, hc, hm, hs, ht⟩
  · cases h0
  · injection hv with e1 e2 e3
    injection e1 with e1
    injection e1 with e1
    subst e1 e3
    exact .inr ⟨g, cap, cur, rfl, hb, hg, by omega, hm, hs, by rw [← ht, List.take_take, Nat.min_eq_left hms]⟩

def nis (l : List Nat) : List Value := ivs (l.map Int.ofNat)
theorem nis_len (l : List Nat) : (nis l).length = l.length := by simp [nis, ivs]
theorem own_up {W : World} {base B e size : Nat} {v : Value} {n : Nat} {xs : List Value} (h : W.ownsRow base e size v n xs) (hB : ∀ k, v.ownBlock = some k → B ≤ k) : W.ownsRow B e size v n xs := by
  refine ⟨h.1, ?_⟩
  rcases h.2 with hn | ⟨g, cap, cur, hv, hg, rest⟩
  · exact .inl hn
  · exact .inr ⟨g, cap, cur, hv, hB g (by rw [hv]; rfl), rest⟩
def From (B : Nat) (v : Value) : Prop := ∀ k, v.ownBlock = some k → B ≤ k
theorem from_moved {B : Nat} {W : World} {v v' : Value} (h : From B v) (m : Moved W v v') (hB : B ≤ W.heap.size) : From B v' := fun k hk => (m k hk).elim (h k) (fun e => Nat.le_trans hB e)
theorem places_le (f : List Int) (i : Nat) : (places f i).length ≤ i := by
  unfold places
  have := List.length_filter_le (fun p => decide (0 < fr f p)) (List.range i)
  simpa using this
theorem fr_at (f : List Int) (i : Nat) (h : i < f.length) : fr f i = f[i] := by unfold fr; rw [List.getD_eq_getElem?_getD, List.getElem?_eq_getElem h]; rfl
theorem take_snoc {α : Type} (l : List α) (i : Nat) (h : i < l.length) : l.take (i + 1) = l.take i ++ [l[i]] := by rw [List.take_succ_eq_append_getElem h]
/-- Whatever is behind a slice (nil too) appended to a row of the call's own. -/
theorem run_pushS {P : Program} (w : World) (t ty e : TypeId) (i : TypeInfo) (z : Value) (size bytes : Nat) (ht : P.underlying t = some (.slice e)) (hi : P.info? e = some i) (hz : i.zero = some z)
    (hsize : i.size = size) (hby : i.bytes = bytes) (hzs : z.cells.size = size) (hsz : 0 < size) (h16 : bytes ≤ 16)
    (v : Value) (n : Nat) (xs : List Value) (hown : w.ownsRow 0 e size v n xs)
    (a : Option Addr) (m c : Nat) (news : List Value) (hl : news.length = m * size) (hc0 : a = none → c = 0 ∧ m = 0) (hnews : ∀ x, a = some x → ∀ j u, news[j]? = some u → w.cell? (x.add j) = some u) (h1 : ∀ u ∈ news, u.oneCell' = true) (hn : n + m ≤ 100000) :
    ∃ v' w', (Builtin.append_ #[t, t] ty #[v, .slice a m c]).run P w = .ok v' w' ∧ w'.ownsRow 0 e size v' (n + m) (xs ++ news) ∧ w.grownBy w' v.ownBlock ∧ Moved w v v' := by
  cases a with
  | some x => exact run_push w t ty e i z size bytes ht hi hz hsize hby hzs hsz h16 v n xs hown x m c news hl (hnews x rfl) h1 hn
  | none =>
    obtain ⟨rfl, rfl⟩ := hc0 rfl
    have hnil : news = [] := List.eq_nil_of_length_eq_zero (by simpa using hl)
    subst hnil
    refine ⟨v, w, run_append_owned_none (P := P) w 0 t ty e i size ht hi v n xs hown, ?_, ⟨rfl, rfl, rfl, Nat.le_refl _, fun _ _ _ => rfl⟩, fun k hk => .inl hk⟩
    rw [List.append_nil]; exact hown
theorem wpList_pushS {P : Program} (w : World) {ops : Array Oper} {rest : List Oper} {o : Oper} {a : Act} {Q : Exit → Act → World → Prop}
    (hg : o.guard = none) (s x : Operand) (t : TypeId) (hop : o.op = Op.call { callee := Callee.builtin Builtin.append, args := #[s, x], argTypes := #[t, t] })
    (e : TypeId) (i : TypeInfo) (z : Value) (size bytes : Nat) (ht : P.underlying t = some (.slice e)) (hi : P.info? e = some i) (hz : i.zero = some z)
    (hsize : i.size = size) (hby : i.bytes = bytes) (hzs : z.cells.size = size) (hsz : 0 < size) (h16 : bytes ≤ 16)
    (v : Value) (n : Nat) (xs : List Value) (hs : a.eval s = v) (hown : w.ownsRow 0 e size v n xs)
    (ad : Option Addr) (m c : Nat) (news : List Value) (hx : a.eval x = .slice ad m c) (hl : news.length = m * size) (hc0 : ad = none → c = 0 ∧ m = 0) (hnews : ∀ x, ad = some x → ∀ j u, news[j]? = some u → w.cell? (x.add j) = some u) (h1 : ∀ u ∈ news, u.oneCell' = true) (hn : n + m ≤ 100000)
    (hK : ∀ v' w', w'.ownsRow 0 e size v' (n + m) (xs ++ news) → w.grownBy w' v.ownBlock → Moved w v v' → wpList P ops Q rest (a.put o.dst v') w') :
    wpList P ops Q (o :: rest) a w := by
  refine wpList_plain hg fun K hK' => ?_
  obtain ⟨v', w', hr, r1, r2, r3⟩ := run_pushS (P := P) w t o.type e i z size bytes ht hi hz hsize hby hzs hsz h16 v n xs hown ad m c news hl hc0 hnews h1 hn
  unfold Oper.wp execOp
  simp only [hop, resolve, invoke, builtin, Sem.run_bind, Sem.run_pure, Result.andThen_ok, List.map_toArray, List.map_cons, List.map_nil, hs, hx, hr]
  exact hK' _ _ (hK v' w' r1 r2 r3)
theorem step_pushS {P : Program} {ops : Array Oper} {o : Oper} {a : Act} {w : World} {K : Act → World → Prop} {Q : Exit → Act → World → Prop} {E : Prop}
    (hg : o.guard = none) (s x : Operand) (t : TypeId) (hop : o.op = Op.call { callee := Callee.builtin Builtin.append, args := #[s, x], argTypes := #[t, t] })
    (e : TypeId) (i : TypeInfo) (z : Value) (size bytes : Nat) (ht : P.underlying t = some (.slice e)) (hi : P.info? e = some i) (hz : i.zero = some z)
    (hsize : i.size = size) (hby : i.bytes = bytes) (hzs : z.cells.size = size) (hsz : 0 < size) (h16 : bytes ≤ 16)
    (v : Value) (n : Nat) (xs : List Value) (hs : a.eval s = v) (hown : w.ownsRow 0 e size v n xs)
    (ad : Option Addr) (m c : Nat) (news : List Value) (hx : a.eval x = .slice ad m c) (hl : news.length = m * size) (hc0 : ad = none → c = 0 ∧ m = 0) (hnews : ∀ x, ad = some x → ∀ j u, news[j]? = some u → w.cell? (x.add j) = some u) (h1 : ∀ u ∈ news, u.oneCell' = true) (hn : n + m ≤ 100000)
    (hK : ∀ v' w', w'.ownsRow 0 e size v' (n + m) (xs ++ news) → w.grownBy w' v.ownBlock → Moved w v v' → K (a.put o.dst v') w') :
    if Region.wanted o (yielded ops a.tmps) = true then Oper.wp P o a w K Q else E := by
  have hw : Region.wanted o (yielded ops a.tmps) = true := by simp [Region.wanted, hg]
  rw [if_pos hw]
  obtain ⟨v', w', hrun, r1, r2, r3⟩ := run_pushS (P := P) w t o.type e i z size bytes ht hi hz hsize hby hzs hsz h16 v n xs hown ad m c news hl hc0 hnews h1 hn
  unfold Oper.wp
  simp [execOp, hop, resolve, invoke, builtin, hs, hx, hrun, Result.andThen]
  exact hK v' w' r1 r2 r3
theorem ivs_one (l : List Int) : ∀ u ∈ ivs l, u.oneCell' = true := by
  intro u hu
  obtain ⟨z, _, rfl⟩ := List.mem_map.1 hu
  rfl
theorem none_none {α : Type} {p q : Prop} {x : α} (h : some x = none) : p ∧ q := by cases h
theorem below_grown {B : Nat} {a b c : World} {row : Option Nat} (h : Below B a b) (g : b.grownBy c row) (hs : B ≤ b.heap.size) (hB : ∀ k, row = some k → B ≤ k) : Below B a c :=
  ⟨g.os.trans h.os, g.tape.trans h.tape, g.output.trans h.output, Nat.le_trans h.size g.size, fun k hk => (g.block k (by omega) (fun e => by have := hB k e.symm; omega)).trans (h.block k hk)⟩
end Go.Proofs.YtofclflcicjlaaaGreat
