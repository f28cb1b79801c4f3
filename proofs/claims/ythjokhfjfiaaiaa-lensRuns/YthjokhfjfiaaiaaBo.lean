/-
  Objects in memory: which blocks a call may change; a writer of bits and a reader of bits as blocks; what stays of them when other blocks change.
-/
import Derived.Test.YthjokhfjfiaaiaaBm
import Derived.Test.YthjokhfjfiaaiaaRw
import Derived.Test.YthjokhfjfiaaiaaHeap
import Derived.Test.YthjokhfjfiaaiaaPush
import Derived.WalkKit
import Derived.ProofKit
import Derived.OpenShut
import Derived.ArgAppend
import Derived.Laws.IdiomStrings
import Derived.Deep.Heap
namespace Go.Proofs.Ythjokhfjfiaaiaa
open Go.ChangeShapes Go.WideShapes Go.ChangeAt Go.RowKit

def byteV (c : UInt8) : Value := .int .u8 (c.toNat : Int)
theorem chg_size {S : Nat → Prop} {a b : World} (h : Chg S a b) : a.heap.size ≤ b.heap.size := h.2.2.2.1
theorem blk_set_other {W : World} {A : Nat} {cs : Array Value} {t : TypeId} (h : Blk W A cs t) (p : Addr) (u : Value) (hp : A ≠ p.block) : Blk (W.setCell p u) A cs t :=
  (Below.heap_setCell _ _ _ _ hp).trans h
/-- Block A is a writer of sz bits, the number N; its bytes lie in v. -/
def Wr (W : World) (A : Nat) (v : Value) (sz N : Nat) : Prop :=
  Blk W A #[v, .int .i64 sz] 76 ∧ W.ownsRow 0 5 1 v (byc sz) ((byt N (byc sz)).map byteV) ∧ v.ownBlock ≠ some A ∧ N < 2 ^ sz

theorem wr_kept {W W' : World} {S : Nat → Prop} {A : Nat} {v : Value} {sz N : Nat} (h : Wr W A v sz N) (g : Chg S W W') (hS : ∀ k, foot A v k → ¬ S k) : Wr W' A v sz N :=
  ⟨blk_kept h.1 g (hS A (.inl rfl)), own_kept h.2.1 g (fun k hk => hS k (.inr hk)), h.2.2.1, h.2.2.2⟩

/-- A row of bytes with at least one: where it lies. -/
theorem own_at8 {W : World} {v : Value} {n : Nat} {l : List UInt8} (h : W.ownsRow 0 5 1 v n (l.map byteV)) (hn : 0 < n) :
    ∃ g cap cur, v = .slice (some ⟨g, 0, none⟩) n cap ∧ n ≤ cap ∧ Blk W g cur 5 ∧ cap ≤ cur.size ∧ cur.toList.take n = l.map byteV ∧ l.length = n := by
  obtain ⟨h1, h2⟩ := h
  rcases h2 with ⟨_, h0⟩ | ⟨g, cap, cur, hv, _, hg, hc, _, hs, ht⟩
  · omega
  · exact ⟨g, cap, cur, hv, hc, hg, by omega, by simpa using ht, by simpa using h1⟩

theorem own_cell8 {W : World} {g n : Nat} {cur : Array Value} {l : List UInt8} (h : Blk W g cur 5) (ht : cur.toList.take n = l.map byteV) (j : Nat) (hj : j < l.length) (hn : l.length = n) :
    W.cell? ⟨g, j, none⟩ = some (byteV l[j]) := by
  rw [blk_cell h]
  have : (cur.toList.take n)[j]? = some (byteV l[j]) := by rw [ht]; simp [hj]
  rw [List.getElem?_take, if_pos (by omega)] at this
  simpa using this

/-- One byte of the row set anew. -/
theorem own_set8 {W : World} {g n cap : Nat} {l : List UInt8} (h : W.ownsRow 0 5 1 (.slice (some ⟨g, 0, none⟩) n cap) n (l.map byteV)) (j : Nat) (c : UInt8) (x : Int) (hx : x = (c.toNat : Int)) :
    (W.setCell ⟨g, j, none⟩ (.int .u8 x)).ownsRow 0 5 1 (.slice (some ⟨g, 0, none⟩) n cap) n ((l.set j c).map byteV) := by
  subst hx
  obtain ⟨h1, h2⟩ := h
  refine ⟨by simpa using h1, ?_⟩
  rcases h2 with ⟨h0, _⟩ | ⟨g', cap', cur, hv, hb, hg, hc, hm, hs, ht⟩
  · cases h0
  · injection hv with e1 e2 e3
    injection e1 with e1
    injection e1 with e1
    subst e1 e3
    refine .inr ⟨g, cap, cur.setIfInBounds j (byteV c), rfl, hb, blk_set hg j _, hc, hm, by simpa using hs, ?_⟩
    rw [Array.toList_setIfInBounds, List.take_set, show n * 1 = n from by omega, show cur.toList.take n = l.map byteV from by simpa using ht, List.map_set]

theorem own_low8 {w : World} {base : Nat} {v : Value} {n : Nat} {xs : List Value} (h : w.ownsRow base 5 1 v n xs) : w.ownsRow 0 5 1 v n xs := by
  refine ⟨h.1, ?_⟩
  rcases h.2 with hn | ⟨g, cap, cur, hv, _, rest⟩
  · exact .inl hn
  · exact .inr ⟨g, cap, cur, hv, Nat.zero_le _, rest⟩

/-- One byte behind a row of the call's own: the row stands where it stood, or in new memory. -/
theorem wpList_push8 {P : Program} (w : World) {ops : Array Oper} {rest : List Oper} {o : Oper} {a : Act} {Q : Exit → Act → World → Prop}
    (hg : o.guard = none) (s x : Operand) (t : TypeId) (hop : o.op = Op.call { callee := Callee.builtin Builtin.append, args := #[s, x], argTypes := #[t, t] })
    (i : TypeInfo) (h1 : P.underlying t = some (.slice 5)) (h2 : P.info? 5 = some i) (h3 : i.zero = some (.int .u8 0)) (h4 : i.size = 1) (h5 : i.bytes = 1)
    (v : Value) (n : Nat) (l : List UInt8) (hs : a.eval s = v) (hown : w.ownsRow 0 5 1 v n (l.map byteV)) (hl : n ≤ 1000000)
    (ad : Addr) (z : Int) (c : UInt8) (hz : z = (c.toNat : Int)) (hx : a.eval x = .slice (some ad) 1 1) (hc : w.cell? ad = some (.int .u8 z))
    (hK : ∀ v' w', w'.ownsRow 0 5 1 v' (n + 1) ((l ++ [c]).map byteV) → w.grownBy w' v.ownBlock → Moved w v v' → wpList P ops Q rest (a.put o.dst v') w') :
    wpList P ops Q (o :: rest) a w := by
  subst hz
  have hmap : (l ++ [c]).map byteV = l.map byteV ++ [.int .u8 (c.toNat : Int)] := by simp [byteV]
  have hcn : ∀ j u, [Value.int .u8 (c.toNat : Int)][j]? = some u → w.cell? (ad.add j) = some u := by
    intro j u hj
    match j, hj with
    | 0, hj => simp at hj; subst hj; simpa [Addr.add] using hc
  rcases hown.2 with ⟨hv, hn0⟩ | ⟨g, cap, cur, hv, _, hgb, hcap, _, hsz, ht⟩
  · subst hn0
    have hl0 : l = [] := by have := hown.1; simpa using this
    subst hl0
    refine wpList_append_own w hg s x t hop w.heap.size 5 i (.int .u8 0) 1 1 h1 h2 h3 h4 h5 rfl (by decide) v 0 [] hs (by rw [hv]; exact World.ownsRow_nil _ _ _ _) ad 1 1 _ hx rfl hcn (by intro u hu; simp at hu; subst hu; rfl) (by simp only [maxLen]; omega) (by omega) (Nat.le_refl _) fun v' w' a1 a2 _ => ?_
    refine hK v' w' (by rw [hmap]; exact own_low8 a1) a2 fun k hk => .inr ?_
    exact (a1.lt k hk).1
  · have hlen : l.length = n := by have := hown.1; simpa using this
    have holds : ∀ j u, (l.map byteV)[j]? = some u → w.cell? ⟨g, 0 + j, none⟩ = some u := by
      intro j u hj
      have := hown.cells (g := g) (by rw [hv]; rfl) j u hj
      rw [Addr.add_lit] at this
      exact this
    refine wpList_append_arg w hg s x t hop 5 i (.int .u8 0) 1 1 h1 h2 h3 h4 h5 rfl (by decide) g 0 n cap (l.map byteV) (hs.trans hv) (by simp; omega) holds ad 1 1 _ hx rfl hcn (by intro u hu; simp at hu; subst hu; rfl) (fun hr j hj => ?_) (by simp only [maxLen]; omega) (by omega) (fun hr => ?_) (fun hr v' w' a1 a2 => ?_)
    · simp at hj; subst hj
      refine ⟨?_, blk_free hgb _⟩
      rw [blk_cell hgb]; simp; omega
    · simp only [World.setCells]
      refine hK _ _ ⟨by simp; omega, .inr ⟨g, cap, cur.setIfInBounds n (.int .u8 (c.toNat : Int)), rfl, Nat.zero_le _, ?_, hr, by omega, by simpa using hsz, ?_⟩⟩ ⟨rfl, rfl, rfl, by rw [Go.Deep.nblk_setCell]; exact Nat.le_refl _, fun k _ hk => Below.heap_setCell _ _ _ _ (fun e => hk (by rw [hv, e]; rfl))⟩ (fun k hk => .inl (by rw [hv]; exact hk))
      · have := blk_set hgb n (.int .u8 (c.toNat : Int))
        simpa [Blk] using this
      · rw [Nat.mul_one] at ht ⊢
        have hnc : n < cur.toList.length := by simp; omega
        rw [Array.toList_setIfInBounds, List.take_set, List.take_succ_eq_append_getElem hnc, ht, hmap, List.set_append_right _ _ (by simp; omega)]
        simp [hlen]
    · refine hK v' w' (by rw [hmap]; exact own_low8 a1) ⟨a2.os, a2.tape, a2.output, a2.size, fun k hk _ => a2.block k hk (by simp)⟩ (fun k hk => .inr (a1.lt k hk).1)

theorem info5 : (Try.prog.info? 5).map (fun i => (i.zero, i.size, i.bytes)) = some (some (.int .u8 0), 1, 1) := by kernel_rfl
end Go.Proofs.Ythjokhfjfiaaiaa
