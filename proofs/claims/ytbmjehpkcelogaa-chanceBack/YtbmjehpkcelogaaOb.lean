/-
  Objects in memory: which blocks a call may change, blocks of cells, rows of bytes that a call owns; a byte set behind a row; what an owner keeps.
-/
import Derived.Test.YtbmjehpkcelogaaRows
import Derived.WalkKit
import Derived.ProofKit
import Derived.OpenShut
import Derived.ArgAppend
import Derived.Laws.IdiomStrings
import Derived.Deep.Heap
import Derived.Deep.RegionLaw
import Derived.Deep.RegionHeld3
import Derived.Deep.QuietTactic
import Derived.Deep.RegionWith
import Derived.OwnWalk
import Derived.Below
import Derived.BigQuiet
import Derived.BigRegion
import Derived.Test.YtbmjehpkcelogaaMy
namespace Go.Proofs.Ytbmjehpkcelogaa
open Go.ChangeShapes Go.WideShapes Go.ChangeAt Go.RowKit
open Go.ChangeMaps (open_string shut_string)

def bs (l : List UInt8) : ByteArray := ⟨l.toArray⟩
theorem size_bs (l : List UInt8) : (bs l).size = l.length := by simp [bs, ByteArray.size]
theorem bs_list (s : ByteArray) : bs s.data.toList = s := rfl
theorem bs_data (l : List UInt8) : (bs l).data.toList = l := rfl
theorem len_data (s : ByteArray) : s.data.toList.length = s.size := Array.length_toList
theorem or_hi (a x k : Nat) (ha : a < 2 ^ k) : a ||| (x * 2 ^ k) = a + x * 2 ^ k := by
  rw [Nat.or_comm, Nat.mul_comm x, Nat.two_pow_add_eq_or_of_lt ha x |>.symm, Nat.add_comm]
def byteV (c : UInt8) : Value := .int .u8 (c.toNat : Int)
def ptr (A : Nat) : Value := .pointer (some ⟨A, 0, none⟩)

/-- From w to w' no old block has turned but those of S; the streams are as they were; no block has gone. -/
def Chg (S : Nat → Prop) (w w' : World) : Prop :=
  w'.os = w.os ∧ w'.tape = w.tape ∧ w'.output = w.output ∧ w.heap.size ≤ w'.heap.size ∧ ∀ k, k < w.heap.size → ¬ S k → w'.heap[k]? = w.heap[k]?

theorem chg_refl (S : Nat → Prop) (w : World) : Chg S w w := ⟨rfl, rfl, rfl, Nat.le_refl _, fun _ _ _ => rfl⟩
theorem chg_size {S : Nat → Prop} {a b : World} (h : Chg S a b) : a.heap.size ≤ b.heap.size := h.2.2.2.1
theorem chg_trans {S T : Nat → Prop} {a b c : World} (h : Chg S a b) (g : Chg T b c) (hT : ∀ k, k < a.heap.size → T k → S k) : Chg S a c :=
  ⟨g.1.trans h.1, g.2.1.trans h.2.1, g.2.2.1.trans h.2.2.1, Nat.le_trans h.2.2.2.1 g.2.2.2.1,
   fun k hk hS => (g.2.2.2.2 k (Nat.lt_of_lt_of_le hk h.2.2.2.1) (fun t => hS (hT k hk t))).trans (h.2.2.2.2 k hk hS)⟩
theorem chg_mono {S T : Nat → Prop} {a b : World} (h : Chg S a b) (hT : ∀ k, k < a.heap.size → S k → T k) : Chg T a b :=
  ⟨h.1, h.2.1, h.2.2.1, h.2.2.2.1, fun k hk hS => h.2.2.2.2 k hk (fun t => hS (hT k hk t))⟩
theorem chg_alloc {S : Nat → Prop} {a b : World} (h : Chg S a b) (o : Obj) : Chg S a (b.alloc o) :=
  ⟨h.1, h.2.1, h.2.2.1, by simp; exact Nat.le_trans h.2.2.2.1 (Nat.le_succ _), fun k hk hS => (Below.heap_alloc _ _ _ (Nat.lt_of_lt_of_le hk h.2.2.2.1)).trans (h.2.2.2.2 k hk hS)⟩
theorem chg_set {S : Nat → Prop} {a b : World} (h : Chg S a b) (p : Addr) (u : Value) (hp : p.block < a.heap.size → S p.block) : Chg S a (b.setCell p u) :=
  ⟨h.1, h.2.1, h.2.2.1, by rw [Go.Deep.nblk_setCell]; exact h.2.2.2.1,
   fun k hk hS => (Below.heap_setCell _ _ _ _ (fun e => by subst e; exact hS (hp hk))).trans (h.2.2.2.2 k hk hS)⟩
theorem chg_drew {S : Nat → Prop} {a b : World} (h : Chg S a b) : Chg S a b.drew := h
theorem chg_grown {S : Nat → Prop} {a b c : World} {row : Option Nat} (h : Chg S a b) (g : b.grownBy c row) (hr : ∀ k, row = some k → k < a.heap.size → S k) : Chg S a c :=
  ⟨g.os.trans h.1, g.tape.trans h.2.1, g.output.trans h.2.2.1, Nat.le_trans h.2.2.2.1 g.size,
   fun k hk hS => (g.block k (Nat.lt_of_lt_of_le hk h.2.2.2.1) (fun e => hS (hr k e.symm hk))).trans (h.2.2.2.2 k hk hS)⟩
theorem chg_below {S : Nat → Prop} {a b : World} {B : Nat} (h : Chg S a b) (hB : B ≤ a.heap.size) (hS : ∀ k, S k → B ≤ k) : Below B a b :=
  ⟨h.1, h.2.1, h.2.2.1, h.2.2.2.1, fun k hk => h.2.2.2.2 k (by omega) (fun s => by have := hS k s; omega)⟩
theorem chg_of {S : Nat → Prop} {a b : World} (h : Below a.heap.size a b) : Chg S a b := ⟨h.os, h.tape, h.output, h.size, fun k hk _ => h.block k hk⟩

/-- A block of cells, none frozen. -/
def Blk (W : World) (A : Nat) (cs : Array Value) (t : TypeId) : Prop := W.heap[A]? = some (.cells cs t (0, 0))
theorem blk_lt {W : World} {A : Nat} {cs : Array Value} {t : TypeId} (h : Blk W A cs t) : A < W.heap.size := (Array.getElem?_eq_some_iff.1 h).1
theorem blk_cell {W : World} {A : Nat} {cs : Array Value} {t : TypeId} (h : Blk W A cs t) (j : Nat) : W.cell? ⟨A, j, none⟩ = cs[j]? := by
  rw [Blk] at h; simp [World.cell?, h]
theorem blk_free {W : World} {A : Nat} {cs : Array Value} {t : TypeId} (h : Blk W A cs t) (j : Nat) : W.frozen? ⟨A, j, none⟩ = false := by
  rw [Blk] at h; simp [World.frozen?, h]
theorem blk_kept {W W' : World} {S : Nat → Prop} {A : Nat} {cs : Array Value} {t : TypeId} (h : Blk W A cs t) (g : Chg S W W') (hS : ¬ S A) : Blk W' A cs t :=
  (g.2.2.2.2 A (blk_lt h) hS).trans h
theorem blk_set {W : World} {A : Nat} {cs : Array Value} {t : TypeId} (h : Blk W A cs t) (j : Nat) (u : Value) : Blk (W.setCell ⟨A, j, none⟩ u) A (cs.setIfInBounds j u) t := by
  have hlt := blk_lt h
  have hv : W.heap[A] = .cells cs t (0, 0) := (Array.getElem?_eq_some_iff.1 h).2
  unfold Blk World.setCell
  rw [Array.getElem?_eq_getElem (by simpa using hlt), Array.getElem_modify]
  simp [hv]
theorem blk_set_other {W : World} {A : Nat} {cs : Array Value} {t : TypeId} (h : Blk W A cs t) (p : Addr) (u : Value) (hp : A ≠ p.block) : Blk (W.setCell p u) A cs t :=
  (Below.heap_setCell _ _ _ _ hp).trans h
theorem blk_alloc {W : World} {A : Nat} {cs : Array Value} {t : TypeId} (h : Blk W A cs t) (o : Obj) : Blk (W.alloc o) A cs t :=
  (Below.heap_alloc _ _ _ (blk_lt h)).trans h
theorem blk_drew {W : World} {A : Nat} {cs : Array Value} {t : TypeId} (h : Blk W A cs t) : Blk W.drew A cs t := h
theorem blk_new (W : World) (cs : Array Value) (t : TypeId) : Blk (W.alloc (.cells cs t)) W.heap.size cs t := Go.Deep.blk_alloc_new W _

/-- The blocks of an object at A whose row lies in v. -/
def foot (A : Nat) (v : Value) (k : Nat) : Prop := k = A ∨ v.ownBlock = some k

theorem own_kept {W W' : World} {S : Nat → Prop} {v : Value} {n : Nat} {xs : List Value} (h : W.ownsRow 0 5 1 v n xs) (g : Chg S W W') (hS : ∀ k, v.ownBlock = some k → ¬ S k) : W'.ownsRow 0 5 1 v n xs := by
  refine ⟨h.1, ?_⟩
  rcases h.2 with hn | ⟨b, cap, cur, rfl, hb, hg, rest⟩
  · exact .inl hn
  · exact .inr ⟨b, cap, cur, rfl, hb, (g.2.2.2.2 b (Array.getElem?_eq_some_iff.1 hg).1 (hS b rfl)).trans hg, rest⟩

/-- The row has moved to new memory, or stands where it stood. -/
def Moved (W : World) (v v' : Value) : Prop := ∀ k, v'.ownBlock = some k → v.ownBlock = some k ∨ W.heap.size ≤ k

/-- A row of bytes with at least one: where it lies. -/
theorem own_at {W : World} {v : Value} {n : Nat} {l : List UInt8} (h : W.ownsRow 0 5 1 v n (l.map byteV)) (hn : 0 < n) :
    ∃ g cap cur, v = .slice (some ⟨g, 0, none⟩) n cap ∧ n ≤ cap ∧ Blk W g cur 5 ∧ cap ≤ cur.size ∧ cur.toList.take n = l.map byteV ∧ l.length = n := by
  obtain ⟨h1, h2⟩ := h
  rcases h2 with ⟨_, h0⟩ | ⟨g, cap, cur, hv, _, hg, hc, _, hs, ht⟩
  · omega
  · exact ⟨g, cap, cur, hv, hc, hg, by omega, by simpa using ht, by simpa using h1⟩

theorem own_cell {W : World} {g n : Nat} {cur : Array Value} {l : List UInt8} (h : Blk W g cur 5) (ht : cur.toList.take n = l.map byteV) (j : Nat) (hj : j < l.length) (hn : l.length = n) :
    W.cell? ⟨g, j, none⟩ = some (byteV l[j]) := by
  rw [blk_cell h]
  have : (cur.toList.take n)[j]? = some (byteV l[j]) := by rw [ht]; simp [hj]
  rw [List.getElem?_take, if_pos (by omega)] at this
  simpa using this

/-- One byte of the row set anew. -/
theorem own_set {W : World} {g n cap : Nat} {l : List UInt8} (h : W.ownsRow 0 5 1 (.slice (some ⟨g, 0, none⟩) n cap) n (l.map byteV)) (j : Nat) (c : UInt8) (x : Int) (hx : x = (c.toNat : Int)) :
    (W.setCell ⟨g, j, none⟩ (.int .u8 x)).ownsRow 0 5 1 (.slice (some ⟨g, 0, none⟩) n cap) n ((l.set j c).map byteV) := by
  subst hx
  obtain ⟨h1, h2⟩ := h
  refine ⟨by simpa using h1, ?_⟩
  rcases h2 with ⟨h0, _⟩ | ⟨g', cap', cur, hv, hb, hg, hc, hm, hs, ht⟩
  · cases h0
  · injection hv with e1 e2 e3
    injection e1 with e1
    injection e1 with e1
    subst e1 e3
    refine .inr ⟨g, cap, cur.setIfInBounds j (byteV c), rfl, hb, blk_set hg j _, hc, hm, by simpa using hs, ?_⟩
    rw [Array.toList_setIfInBounds, List.take_set, show n * 1 = n from by omega, show cur.toList.take n = l.map byteV from by simpa using ht, List.map_set]

theorem own_low {w : World} {base : Nat} {v : Value} {n : Nat} {xs : List Value} (h : w.ownsRow base 5 1 v n xs) : w.ownsRow 0 5 1 v n xs := by
  refine ⟨h.1, ?_⟩
  rcases h.2 with hn | ⟨g, cap, cur, hv, _, rest⟩
  · exact .inl hn
  · exact .inr ⟨g, cap, cur, hv, Nat.zero_le _, rest⟩

/-- One byte behind a row of the call's own: the row stands where it stood, or in new memory. -/
theorem wpList_push {P : Program} (w : World) {ops : Array Oper} {rest : List Oper} {o : Oper} {a : Act} {Q : Exit → Act → World → Prop}
    (hg : o.guard = none) (s x : Operand) (t : TypeId) (hop : o.op = Op.call { callee := Callee.builtin Builtin.append, args := #[s, x], argTypes := #[t, t] })
    (i : TypeInfo) (h1 : P.underlying t = some (.slice 5)) (h2 : P.info? 5 = some i) (h3 : i.zero = some (.int .u8 0)) (h4 : i.size = 1) (h5 : i.bytes = 1)
    (v : Value) (n : Nat) (l : List UInt8) (hs : a.eval s = v) (hown : w.ownsRow 0 5 1 v n (l.map byteV)) (hl : n ≤ 1000000)
    (ad : Addr) (z : Int) (c : UInt8) (hz : z = (c.toNat : Int)) (hx : a.eval x = .slice (some ad) 1 1) (hc : w.cell? ad = some (.int .u8 z))
    (hK : ∀ v' w', w'.ownsRow 0 5 1 v' (n + 1) ((l ++ [c]).map byteV) → w.grownBy w' v.ownBlock → Moved w v v' → wpList P ops Q rest (a.put o.dst v') w') :
    wpList P ops Q (o :: rest) a w := by
  subst hz
  have hmap : (l ++ [c]).map byteV = l.map byteV ++ [.int .u8 (c.toNat : Int)] := by simp [byteV]
  have hcn : ∀ j u, [Value.int .u8 (c.toNat : Int)][j]? = some u → w.cell? (ad.add j) = some u := by
    intro j u hj
    match j, hj with
    | 0, hj => simp at hj; subst hj; simpa [Addr.add] using hc
  rcases hown.2 with ⟨hv, hn0⟩ | ⟨g, cap, cur, hv, _, hgb, hcap, _, hsz, ht⟩
  · subst hn0
    have hl0 : l = [] := by have := hown.1; simpa using this
    subst hl0
    refine wpList_append_own w hg s x t hop w.heap.size 5 i (.int .u8 0) 1 1 h1 h2 h3 h4 h5 rfl (by decide) v 0 [] hs (by rw [hv]; exact World.ownsRow_nil _ _ _ _) ad 1 1 _ hx rfl hcn (by intro u hu; simp at hu; subst hu; rfl) (by simp only [maxLen]; omega) (by omega) (Nat.le_refl _) fun v' w' a1 a2 _ => ?_
    refine hK v' w' (by rw [hmap]; exact own_low a1) a2 fun k hk => .inr ?_
    exact (a1.lt k hk).1
  · have hlen : l.length = n := by have := hown.1; simpa using this
    have holds : ∀ j u, (l.map byteV)[j]? = some u → w.cell? ⟨g, 0 + j, none⟩ = some u := by
      intro j u hj
      have := hown.cells (g := g) (by rw [hv]; rfl) j u hj
      rw [Addr.add_lit] at this
      exact this
    refine wpList_append_arg w hg s x t hop 5 i (.int .u8 0) 1 1 h1 h2 h3 h4 h5 rfl (by decide) g 0 n cap (l.map byteV) (hs.trans hv) (by simp; omega) holds ad 1 1 _ hx rfl hcn (by intro u hu; simp at hu; subst hu; rfl) (fun hr j hj => ?_) (by simp only [maxLen]; omega) (by omega) (fun hr => ?_) (fun hr v' w' a1 a2 => ?_)
    · simp at hj; subst hj
      refine ⟨?_, blk_free hgb _⟩
      rw [blk_cell hgb]; simp; omega
    · simp only [World.setCells]
      refine hK _ _ ⟨by simp; omega, .inr ⟨g, cap, cur.setIfInBounds n (.int .u8 (c.toNat : Int)), rfl, Nat.zero_le _, ?_, hr, by omega, by simpa using hsz, ?_⟩⟩ ⟨rfl, rfl, rfl, by rw [Go.Deep.nblk_setCell]; exact Nat.le_refl _, fun k _ hk => Below.heap_setCell _ _ _ _ (fun e => hk (by rw [hv, e]; rfl))⟩ (fun k hk => .inl (by rw [hv]; exact hk))
      · have := blk_set hgb n (.int .u8 (c.toNat : Int))
        simpa [Blk] using this
      · rw [Nat.mul_one] at ht ⊢
        have hnc : n < cur.toList.length := by simp; omega
        rw [Array.toList_setIfInBounds, List.take_set, List.take_succ_eq_append_getElem hnc, ht, hmap, List.set_append_right _ _ (by simp; omega)]
        simp [hlen]
    · refine hK v' w' (by rw [hmap]; exact own_low a1) ⟨a2.os, a2.tape, a2.output, a2.size, fun k hk _ => a2.block k hk (by simp)⟩ (fun k hk => .inr (a1.lt k hk).1)

theorem info5 : (Try.prog.info? 5).map (fun i => (i.zero, i.size, i.bytes)) = some (some (.int .u8 0), 1, 1) := by kernel_rfl
theorem ret_int {k : IntKind} {a b : Int} (h : a = b) : Ending.returned (.int k a) = .returned (.int k b) := by rw [h]
theorem conv_nil (w : World) : (convert 51 9 (.slice none 0 0)).run Try.prog w = .ok (.string (bs [])) w := by kernel_rfl
theorem own_string {w : World} {n : Nat} {v : Value} {l : List UInt8} (h : w.ownsRow 0 5 1 v n (l.map byteV)) :
    (convert 51 9 v).run Try.prog w = .ok (.string (bs l)) w := by
  have hlen : l.length = n := by have := h.1; simpa using this
  rcases h.2 with ⟨hv, hn0⟩ | ⟨g, cap, cur, hv, _, hgb, hcap, _, hsz, ht⟩
  · obtain rfl : l = [] := by simpa [hn0] using hlen
    subst hv
    exact conv_nil w
  · subst hv hlen
    exact run_convert_bytes_back w 51 9 5 ⟨g, 0, none⟩ cap l Try.underlying51 Try.underlying5 Try.underlying9 (fun j hj => by rw [Addr.add_lit, Nat.zero_add]; exact own_cell hgb (by simpa using ht) j hj rfl)
theorem Hid.intro {p : Prop} (h : p) : Hid p := h
theorem run_push {P : Program} (w : World) (t ty : TypeId)
    (i : TypeInfo) (h1 : P.underlying t = some (.slice 5)) (h2 : P.info? 5 = some i) (h3 : i.zero = some (.int .u8 0)) (h4 : i.size = 1) (h5 : i.bytes = 1)
    (v : Value) (n : Nat) (l : List UInt8) (hown : w.ownsRow 0 5 1 v n (l.map byteV)) (hl : n ≤ 1000000)
    (ad : Addr) (z : Int) (c : UInt8) (hz : z = (c.toNat : Int)) (hc : w.cell? ad = some (.int .u8 z)) :
    ∃ v' w', (Builtin.append_ #[t, t] ty #[v, .slice (some ad) 1 1]).run P w = .ok v' w' ∧ w'.ownsRow 0 5 1 v' (n + 1) ((l ++ [c]).map byteV) ∧ w.grownBy w' v.ownBlock ∧ Moved w v v' := by
  subst hz
  have hmap : (l ++ [c]).map byteV = l.map byteV ++ [.int .u8 (c.toNat : Int)] := by simp [byteV]
  have hcn : ∀ j u, [Value.int .u8 (c.toNat : Int)][j]? = some u → w.cell? (ad.add j) = some u := by
    intro j u hj
    match j, hj with
    | 0, hj => simp at hj; subst hj; simpa [Addr.add] using hc
  rcases hown.2 with ⟨hv, hn0⟩ | ⟨g, cap, cur, hv, _, hgb, hcap, _, hsz, ht⟩
  · subst hn0
    have hl0 : l = [] := by have := hown.1; simpa using this
    subst hl0
    obtain ⟨v', w', r0, r1, r2, _⟩ := run_append_own (P := P) w w.heap.size t ty 5 i (.int .u8 0) 1 1 h1 h2 h3 h4 h5 rfl (by decide) v 0 [] (by rw [hv]; exact World.ownsRow_nil _ _ _ _) ad 1 1 _ rfl hcn (by intro u hu; simp at hu; subst hu; rfl) (by simp only [maxLen]; omega) (by omega) (Nat.le_refl _)
    exact ⟨v', w', r0, by rw [hmap]; exact own_low r1, r2, fun k hk => .inr (r1.lt k hk).1⟩
  · have hlen : l.length = n := by have := hown.1; simpa using this
    subst hv
    have holds : ∀ j u, (l.map byteV)[j]? = some u → w.cell? ((⟨g, 0, none⟩ : Addr).add j) = some u := fun j u hj => hown.cells (g := g) rfl j u hj
    by_cases hr : n + 1 ≤ cap
    · have hrun := run_append_room_cells (P := P) w t ty 5 i h1 h2 g 0 n cap ad 1 1 [.int .u8 (c.toNat : Int)] (by simp [h4]) hcn (by intro u hu; simp at hu; subst hu; rfl) hr
        (by intro j hj; simp at hj; subst hj; rw [blk_cell hgb]; simp [h4]; omega) (by intro j hj; exact blk_free hgb _)
      refine ⟨_, _, hrun, ?_⟩
      simp only [h4, Nat.mul_one, Nat.zero_add, World.setCells]
      refine ⟨⟨by simp; omega, .inr ⟨g, cap, cur.setIfInBounds n (.int .u8 (c.toNat : Int)), rfl, Nat.zero_le _, ?_, hr, by omega, by simpa using hsz, ?_⟩⟩, ⟨rfl, rfl, rfl, by rw [Go.Deep.nblk_setCell]; exact Nat.le_refl _, fun k _ hk => Below.heap_setCell _ _ _ _ (fun e => hk (by rw [e]; rfl))⟩, fun k hk => .inl hk⟩
      · have := blk_set hgb n (.int .u8 (c.toNat : Int))
        simpa [Blk] using this
      · rw [Nat.mul_one] at ht ⊢
        have hnc : n < cur.toList.length := by simp; omega
        rw [Array.toList_setIfInBounds, List.take_set, List.take_succ_eq_append_getElem hnc, ht, hmap, List.set_append_right _ _ (by simp; omega)]
        simp [hlen]
    · obtain ⟨v', w', r0, r1, r2⟩ := run_append_arg_grows (P := P) w t ty 5 i (.int .u8 0) 1 1 h1 h2 h3 h4 h5 rfl (by decide) ⟨g, 0, none⟩ n cap (l.map byteV) (by simp; omega) holds ad 1 1 _ rfl hcn (by omega) (by simp only [maxLen]; omega) (by omega)
      exact ⟨v', w', r0, by rw [hmap]; exact own_low r1, ⟨r2.os, r2.tape, r2.output, r2.size, fun k hk _ => r2.block k hk (by simp)⟩, fun k hk => .inr (r1.lt k hk).1⟩

/-- One byte behind a row, as one step of a region that draws. -/
theorem step_push {P : Program} {ops : Array Oper} {o : Oper} {a : Act} {w : World} {K : Act → World → Prop} {Q : Exit → Act → World → Prop} {E : Prop}
    (hg : o.guard = none) (s x : Operand) (t : TypeId) (hop : o.op = Op.call { callee := Callee.builtin Builtin.append, args := #[s, x], argTypes := #[t, t] })
    (i : TypeInfo) (h1 : P.underlying t = some (.slice 5)) (h2 : P.info? 5 = some i) (h3 : i.zero = some (.int .u8 0)) (h4 : i.size = 1) (h5 : i.bytes = 1)
    (v : Value) (n : Nat) (l : List UInt8) (hs : a.eval s = v) (hown : w.ownsRow 0 5 1 v n (l.map byteV)) (hl : n ≤ 1000000)
    (ad : Addr) (z : Int) (c : UInt8) (hz : z = (c.toNat : Int)) (hx : a.eval x = .slice (some ad) 1 1) (hc : w.cell? ad = some (.int .u8 z))
    (hK : ∀ v' w', w'.ownsRow 0 5 1 v' (n + 1) ((l ++ [c]).map byteV) → w.grownBy w' v.ownBlock → Moved w v v' → K (a.put o.dst v') w') :
    if Region.wanted o (yielded ops a.tmps) = true then Oper.wp P o a w K Q else E := by
  have hw : Region.wanted o (yielded ops a.tmps) = true := by simp [Region.wanted, hg]
  rw [if_pos hw]
  obtain ⟨v', w', hrun, r1, r2, r3⟩ := run_push (P := P) w t o.type i h1 h2 h3 h4 h5 v n l hown hl ad z c hz hc
  unfold Oper.wp
  simp [execOp, hop, resolve, invoke, builtin, hs, hx, hrun, Result.andThen]
  exact hK v' w' r1 r2 r3

/-- What lies at A and in v came from block B on. -/
def Up (B A : Nat) (v : Value) : Prop := B ≤ A ∧ ∀ k, v.ownBlock = some k → B ≤ k
theorem up_nil (B A : Nat) (h : B ≤ A) : Up B A (.slice none 0 0) := ⟨h, fun k hk => by simp [Value.ownBlock] at hk⟩
theorem up_moved {B A : Nat} {v v' : Value} {W : World} (h : Up B A v) (m : Moved W v v') (hB : B ≤ W.heap.size) : Up B A v' :=
  ⟨h.1, fun k hk => (m k hk).elim (h.2 k) (fun g => Nat.le_trans hB g)⟩
theorem up_foot {B A : Nat} {v : Value} (h : Up B A v) (k : Nat) (hk : foot A v k) : B ≤ k := hk.elim (fun e => e ▸ h.1) (h.2 k)
theorem below_foot {w W W' : World} {A : Nat} {v : Value} (hb : Below w.heap.size w W) (hc : Chg (foot A v) W W') (hu : Up w.heap.size A v) : Below w.heap.size w W' :=
  hb.trans (chg_below hc hb.size (up_foot hu))
theorem below_no {w W W' : World} (hb : Below w.heap.size w W) (hc : Chg (fun _ => False) W W') : Below w.heap.size w W' :=
  hb.trans (chg_below hc hb.size (fun _ h => h.elim))
theorem below_one {w W W' : World} {A : Nat} (hb : Below w.heap.size w W) (hc : Chg (· = A) W W') (hu : w.heap.size ≤ A) : Below w.heap.size w W' :=
  hb.trans (chg_below hc hb.size (fun _ h => h ▸ hu))
/-- Two objects do not touch one another. -/
def Apart (A : Nat) (v : Value) (B : Nat) (u : Value) : Prop := ∀ k, foot A v k → ¬ foot B u k
theorem apart_symm {A B : Nat} {v u : Value} (h : Apart A v B u) : Apart B u A v := fun k h1 h2 => h k h2 h1
theorem apart_moved {A B : Nat} {v v' u : Value} {W : World} (h : Apart A v B u) (m : Moved W v v') (hu : ∀ k, foot B u k → k < W.heap.size) : Apart A v' B u := by
  rintro k (e | e) hk
  · exact h k (.inl e) hk
  · rcases m k e with g | g
    · exact h k (.inr g) hk
    · have := hu k hk; omega

theorem u8_of (x : Nat) (h : x < 256) : ((UInt8.ofNat x).toNat : Int) = x := by rw [UInt8.toNat_ofNat']; omega
theorem u8_mod (x : Nat) : ((UInt8.ofNat x).toNat : Int) = ((x % 256 : Nat) : Int) := by rw [UInt8.toNat_ofNat']
end Go.Proofs.Ytbmjehpkcelogaa
