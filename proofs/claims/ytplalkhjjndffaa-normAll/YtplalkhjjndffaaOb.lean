/-
  Which blocks a call may change; blocks and rows of the call's own; lists of whole numbers and of parts that can be read.
-/
import Derived.Test.YtplalkhjjndffaaZig
import Derived.Deep.RegionHeld3
import Derived.Below
import Derived.Deep.Heap
import Derived.ArgAppend
import Derived.Maps.AppendAt
import Derived.Laws.IdiomStrings
namespace Go.Proofs.Ytplalkhjjndffaa
open Go.ChangeShapes Go.WideShapes Go.ChangeAt Go.RowKit
open Go.ChangeMaps (open_string shut_string)

theorem Hid.intro {p : Prop} (h : p) : Hid p := h
/-- From w to w' no old block has turned but those of S; the streams are as they were; no block has gone. -/
def Chg (S : Nat → Prop) (w w' : World) : Prop :=
  w'.os = w.os ∧ w'.tape = w.tape ∧ w'.output = w.output ∧ w.heap.size ≤ w'.heap.size ∧ ∀ k, k < w.heap.size → ¬ S k → w'.heap[k]? = w.heap[k]?
theorem chg_refl (S : Nat → Prop) (w : World) : Chg S w w := ⟨rfl, rfl, rfl, Nat.le_refl _, fun _ _ _ => rfl⟩
theorem chg_size {S : Nat → Prop} {a b : World} (h : Chg S a b) : a.heap.size ≤ b.heap.size := h.2.2.2.1
theorem chg_trans {S T : Nat → Prop} {a b c : World} (h : Chg S a b) (g : Chg T b c) (hT : ∀ k, k < a.heap.size → T k → S k) : Chg S a c :=
  ⟨g.1.trans h.1, g.2.1.trans h.2.1, g.2.2.1.trans h.2.2.1, Nat.le_trans h.2.2.2.1 g.2.2.2.1,
   fun k hk hS => (g.2.2.2.2 k (Nat.lt_of_lt_of_le hk h.2.2.2.1) (fun t => hS (hT k hk t))).trans (h.2.2.2.2 k hk hS)⟩
theorem chg_same {S : Nat → Prop} {a b c : World} (h : Chg S a b) (g : Chg S b c) : Chg S a c := chg_trans h g (fun _ _ s => s)
theorem chg_mono {S T : Nat → Prop} {a b : World} (h : Chg S a b) (hT : ∀ k, k < a.heap.size → S k → T k) : Chg T a b :=
  ⟨h.1, h.2.1, h.2.2.1, h.2.2.2.1, fun k hk hS => h.2.2.2.2 k hk (fun t => hS (hT k hk t))⟩
theorem chg_alloc {S : Nat → Prop} {a b : World} (h : Chg S a b) (o : Obj) : Chg S a (b.alloc o) :=
  ⟨h.1, h.2.1, h.2.2.1, by simp; exact Nat.le_trans h.2.2.2.1 (Nat.le_succ _), fun k hk hS => (Below.heap_alloc _ _ _ (Nat.lt_of_lt_of_le hk h.2.2.2.1)).trans (h.2.2.2.2 k hk hS)⟩
theorem chg_set {S : Nat → Prop} {a b : World} (h : Chg S a b) (p : Addr) (u : Value) (hp : p.block < a.heap.size → S p.block) : Chg S a (b.setCell p u) :=
  ⟨h.1, h.2.1, h.2.2.1, by rw [Go.Deep.nblk_setCell]; exact h.2.2.2.1,
   fun k hk hS => (Below.heap_setCell _ _ _ _ (fun e => by subst e; exact hS (hp hk))).trans (h.2.2.2.2 k hk hS)⟩
theorem chg_drew {S : Nat → Prop} {a b : World} (h : Chg S a b) : Chg S a b.drew := h
theorem chg_drewN {S : Nat → Prop} {a b : World} (h : Chg S a b) (m : Nat) : Chg S a (b.drewN m) := h
theorem chg_grown {S : Nat → Prop} {a b c : World} {row : Option Nat} (h : Chg S a b) (g : b.grownBy c row) (hr : ∀ k, row = some k → k < a.heap.size → S k) : Chg S a c :=
  ⟨g.os.trans h.1, g.tape.trans h.2.1, g.output.trans h.2.2.1, Nat.le_trans h.2.2.2.1 g.size,
   fun k hk hS => (g.block k (Nat.lt_of_lt_of_le hk h.2.2.2.1) (fun e => hS (hr k e.symm hk))).trans (h.2.2.2.2 k hk hS)⟩
theorem chg_below {S : Nat → Prop} {a b : World} {B : Nat} (h : Chg S a b) (hB : B ≤ a.heap.size) (hS : ∀ k, S k → B ≤ k) : Below B a b :=
  ⟨h.1, h.2.1, h.2.2.1, h.2.2.2.1, fun k hk => h.2.2.2.2 k (by omega) (fun s => by have := hS k s; omega)⟩
theorem chg_of {S : Nat → Prop} {a b : World} (h : Below a.heap.size a b) : Chg S a b := ⟨h.os, h.tape, h.output, h.size, fun k hk _ => h.block k hk⟩
theorem chg_from {S : Nat → Prop} {a b : World} {B : Nat} (h : Below B a b) (hS : ∀ k, k < a.heap.size → ¬ S k → k < B) : Chg S a b := ⟨h.os, h.tape, h.output, h.size, fun k hk hs => h.block k (hS k hk hs)⟩

/-- A block of cells, none frozen. -/
def Blk (W : World) (A : Nat) (cs : Array Value) (t : TypeId) : Prop := W.heap[A]? = some (.cells cs t (0, 0))
theorem blk_lt {W : World} {A : Nat} {cs : Array Value} {t : TypeId} (h : Blk W A cs t) : A < W.heap.size := (Array.getElem?_eq_some_iff.1 h).1
theorem blk_cell {W : World} {A : Nat} {cs : Array Value} {t : TypeId} (h : Blk W A cs t) (j : Nat) : W.cell? ⟨A, j, none⟩ = cs[j]? := by
  rw [Blk] at h; simp [World.cell?, h]
theorem blk_free {W : World} {A : Nat} {cs : Array Value} {t : TypeId} (h : Blk W A cs t) (j : Nat) : W.frozen? ⟨A, j, none⟩ = false := by
  rw [Blk] at h; simp [World.frozen?, h]
theorem blk_kept {W W' : World} {S : Nat → Prop} {A : Nat} {cs : Array Value} {t : TypeId} (h : Blk W A cs t) (g : Chg S W W') (hS : ¬ S A) : Blk W' A cs t :=
  (g.2.2.2.2 A (blk_lt h) hS).trans h
theorem blk_set {W : World} {A : Nat} {cs : Array Value} {t : TypeId} (h : Blk W A cs t) (j : Nat) (u : Value) : Blk (W.setCell ⟨A, j, none⟩ u) A (cs.setIfInBounds j u) t := by
  have hlt := blk_lt h
  have hv : W.heap[A] = .cells cs t (0, 0) := (Array.getElem?_eq_some_iff.1 h).2
  unfold Blk World.setCell
  rw [Array.getElem?_eq_getElem (by simpa using hlt), Array.getElem_modify]
  simp [hv]
theorem blk_alloc {W : World} {A : Nat} {cs : Array Value} {t : TypeId} (h : Blk W A cs t) (o : Obj) : Blk (W.alloc o) A cs t :=
  (Below.heap_alloc _ _ _ (blk_lt h)).trans h
theorem blk_drew {W : World} {A : Nat} {cs : Array Value} {t : TypeId} (h : Blk W A cs t) : Blk W.drew A cs t := h
theorem blk_new (W : World) (cs : Array Value) (t : TypeId) : Blk (W.alloc (.cells cs t)) W.heap.size cs t := Go.Deep.blk_alloc_new W _

theorem own_kept {W W' : World} {S : Nat → Prop} {base e size : Nat} {v : Value} {n : Nat} {xs : List Value} (h : W.ownsRow base e size v n xs) (g : Chg S W W') (hS : ∀ k, v.ownBlock = some k → ¬ S k) : W'.ownsRow base e size v n xs := by
  refine ⟨h.1, ?_⟩
  rcases h.2 with hn | ⟨b, cap, cur, rfl, hb, hg, rest⟩
  · exact .inl hn
  · exact .inr ⟨b, cap, cur, rfl, hb, (g.2.2.2.2 b (Array.getElem?_eq_some_iff.1 hg).1 (hS b rfl)).trans hg, rest⟩
theorem own_low {w : World} {base b' e size : Nat} {v : Value} {n : Nat} {xs : List Value} (h : w.ownsRow base e size v n xs) (hb : b' ≤ base) : w.ownsRow b' e size v n xs := by
  refine ⟨h.1, ?_⟩
  rcases h.2 with hn | ⟨g, cap, cur, hv, hg, rest⟩
  · exact .inl hn
  · exact .inr ⟨g, cap, cur, hv, Nat.le_trans hb hg, rest⟩

/-- The row has moved to new memory, or stands where it stood. -/
def Moved (W : World) (v v' : Value) : Prop := ∀ k, v'.ownBlock = some k → v.ownBlock = some k ∨ W.heap.size ≤ k

theorem info_all {e : TypeId} {z : Value} {s b : Nat} (h : (Try.prog.info? e).map (fun i => (i.zero, i.size, i.bytes)) = some (some z, s, b)) : ∃ i, Try.prog.info? e = some i ∧ i.zero = some z ∧ i.size = s ∧ i.bytes = b := by
  cases hi : Try.prog.info? e with
  | none => rw [hi] at h; simp at h
  | some i => rw [hi] at h; simp at h; exact ⟨i, rfl, h.1, h.2.1, h.2.2⟩
theorem info3 : (Try.prog.info? 3).map (fun i => (i.zero, i.size, i.bytes)) = some (some (.int .i64 0), 1, 8) := by kernel_rfl
theorem info80 : (Try.prog.info? 80).map (fun i => (i.zero, i.size, i.bytes)) = some (some (.agg #[.int .i64 0, .int .i64 0]), 2, 16) := by kernel_rfl

/-- The whole numbers that a list of cells holds; the parts. -/
def iv (z : Int) : Value := .int .i64 z
def ivs (l : List Int) : List Value := l.map iv
def pv (p : Int × Int) : List Value := [.int .i64 p.1, .int .u64 p.2]
/-- A list of whole numbers, or of parts, that can be read from an address on. -/
def RI (W : World) (a : Option Addr) (n : Nat) (zs : List Int) : Prop :=
  zs.length = n ∧ (0 < n → ∃ x, a = some x ∧ ∀ i (h : i < zs.length), W.cell? (x.add i) = some (.int .i64 zs[i]))
/-- All fit 64 bits. -/
def FI (zs : List Int) : Prop := ∀ z ∈ zs, -9223372036854775808 ≤ z ∧ z ≤ 9223372036854775807
theorem ri_below {W W' : World} {a : Option Addr} {n : Nat} {zs : List Int} (h : RI W a n zs) (g : Below W.heap.size W W') : RI W' a n zs :=
  ⟨h.1, fun h0 => by
    obtain ⟨x, hx, hc⟩ := h.2 h0
    exact ⟨x, hx, fun i hi => by rw [g.cell (World.block_lt_of_cell? _ _ (hc i hi))]; exact hc i hi⟩⟩
theorem own_ri {W : World} {base e : Nat} {v : Value} {n : Nat} {zs : List Int} (h : W.ownsRow base e 1 v n (ivs zs)) : ∃ a cap, v = .slice a n cap ∧ n ≤ cap ∧ cap ≤ maxLen ∧ RI W a n zs := by
  have hl : zs.length = n := by have := h.1; simpa [ivs] using this
  rcases h.2 with ⟨hv, hn⟩ | ⟨g, cap, cur, hv, _, hg, hc, hm, hs, ht⟩
  · exact ⟨none, 0, by rw [hv, hn], by omega, by decide, hl, fun h0 => by omega⟩
  · refine ⟨_, cap, hv, hc, hm, hl, fun _ => ⟨_, rfl, fun i hi => ?_⟩⟩
    refine h.cells (g := g) (by rw [hv]; rfl) i _ ?_
    simp [ivs, iv, hi]
end Go.Proofs.Ytplalkhjjndffaa
