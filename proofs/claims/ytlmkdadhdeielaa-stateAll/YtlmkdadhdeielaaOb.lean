/-
  A state as a block: its cells, what is read and set of them; which blocks a call may change.
-/
import Derived.Test.YtlmkdadhdeielaaSum
import Derived.Test.YtlmkdadhdeielaaSmath
import Derived.Deep.MidRow
import Derived.Lib.LazyBuf
namespace Go.Proofs.Ytlmkdadhdeielaa
open Go.ChangeShapes Go.WideShapes Go.ChangeAt Go.RowKit
open Go.ChangeMaps (open_string shut_string)

def byteV (c : UInt8) : Value := .int .u8 (c.toNat : Int)
def ptr (A : Nat) : Value := .pointer (some ⟨A, 0, none⟩)

/-- From w to w' no old block has turned but those of S; the streams are as they were; no block has gone. -/
def Chg (S : Nat → Prop) (w w' : World) : Prop :=
  w'.os = w.os ∧ w'.tape = w.tape ∧ w'.output = w.output ∧ w.heap.size ≤ w'.heap.size ∧ ∀ k, k < w.heap.size → ¬ S k → w'.heap[k]? = w.heap[k]?
theorem chg_refl (S : Nat → Prop) (w : World) : Chg S w w := ⟨rfl, rfl, rfl, Nat.le_refl _, fun _ _ _ => rfl⟩
theorem chg_size {S : Nat → Prop} {a b : World} (h : Chg S a b) : a.heap.size ≤ b.heap.size := h.2.2.2.1
theorem chg_trans {S T : Nat → Prop} {a b c : World} (h : Chg S a b) (g : Chg T b c) (hT : ∀ k, k < a.heap.size → T k → S k) : Chg S a c :=
  ⟨g.1.trans h.1, g.2.1.trans h.2.1, g.2.2.1.trans h.2.2.1, Nat.le_trans h.2.2.2.1 g.2.2.2.1,
   fun k hk hS => (g.2.2.2.2 k (Nat.lt_of_lt_of_le hk h.2.2.2.1) (fun t => hS (hT k hk t))).trans (h.2.2.2.2 k hk hS)⟩
theorem chg_same {S : Nat → Prop} {a b c : World} (h : Chg S a b) (g : Chg S b c) : Chg S a c := chg_trans h g (fun _ _ s => s)
theorem chg_set {S : Nat → Prop} {a b : World} (h : Chg S a b) (p : Addr) (u : Value) (hp : p.block < a.heap.size → S p.block) : Chg S a (b.setCell p u) :=
  ⟨h.1, h.2.1, h.2.2.1, by rw [Go.Deep.nblk_setCell]; exact h.2.2.2.1,
   fun k hk hS => (Below.heap_setCell _ _ _ _ (fun e => by subst e; exact hS (hp hk))).trans (h.2.2.2.2 k hk hS)⟩
theorem chg_sets {S : Nat → Prop} {a : World} (A : Nat) (hp : A < a.heap.size → S A) : ∀ (vs : List Value) (o : Nat) (b : World), Chg S a b → Chg S a (b.setCells A o vs)
  | [], _, _, h => h
  | v :: r, o, _, h => chg_sets A hp r (o + 1) _ (chg_set h ⟨A, o, none⟩ v hp)
theorem chg_drew {S : Nat → Prop} {a b : World} (h : Chg S a b) : Chg S a b.drew := h
theorem chg_drewN {S : Nat → Prop} {a b : World} (h : Chg S a b) (m : Nat) : Chg S a (b.drewN m) := h
theorem chg_below {S : Nat → Prop} {a b : World} {B : Nat} (h : Chg S a b) (hB : B ≤ a.heap.size) (hS : ∀ k, S k → B ≤ k) : Below B a b :=
  ⟨h.1, h.2.1, h.2.2.1, h.2.2.2.1, fun k hk => h.2.2.2.2 k (by omega) (fun s => by have := hS k s; omega)⟩
theorem chg_of {S : Nat → Prop} {a b : World} (h : Below a.heap.size a b) : Chg S a b := ⟨h.os, h.tape, h.output, h.size, fun k hk _ => h.block k hk⟩
theorem blk_kept {W W' : World} {S : Nat → Prop} {A : Nat} {cs : Array Value} {t : TypeId} (h : Blk W A cs t) (g : Chg S W W') (hS : ¬ S A) : Blk W' A cs t :=
  (g.2.2.2.2 A (blk_lt h) hS).trans h

/-- Cells set anew in a block, from place o on. -/
theorem blk_sets {A : Nat} {t : TypeId} : ∀ (vs : List Value) (o : Nat) (W : World) (l : List Value), o + vs.length ≤ l.length → Blk W A l.toArray t →
    Blk (W.setCells A o vs) A (l.take o ++ vs ++ l.drop (o + vs.length)).toArray t
  | [], o, W, l, _, h => by
    simp only [World.setCells, List.append_nil, List.length_nil, Nat.add_zero, List.take_append_drop]; exact h
  | v :: r, o, W, l, hl, h => by
    rw [List.length_cons] at hl
    have h1 := blk_set h o v
    rw [List.setIfInBounds_toArray] at h1
    have h2 := blk_sets r (o + 1) _ (l.set o v) (by rw [List.length_set]; omega) h1
    have e : (l.set o v).take (o + 1) ++ r ++ (l.set o v).drop (o + 1 + r.length) = l.take o ++ (v :: r) ++ l.drop (o + (v :: r).length) := by
      rw [List.drop_set_of_lt (by omega), List.take_set, List.take_succ_eq_append_getElem (by omega : o < l.length), List.set_append_right _ _ (by rw [List.length_take]; omega), List.length_take, Nat.min_eq_left (by omega), Nat.sub_self, List.length_cons, show o + 1 + r.length = o + (r.length + 1) from by omega]
      simp
    rw [e] at h2
    exact h2

/-- The cells of a state. -/
def scl (seed : Nat) (f : F4) (k : List UInt8) (n : Nat) : List Value :=
  [.int .u64 seed, .int .u64 f.a, .int .u64 f.b, .int .u64 f.c, .int .u64 f.d] ++ (k.map byteV ++ [.int .i64 n])
theorem scl_len (seed : Nat) (f : F4) (k : List UInt8) (n : Nat) (hk : k.length = 32) : (scl seed f k n).length = 38 := by
  unfold scl; simp [hk]
theorem scl_four (seed : Nat) (f g : F4) (k : List UInt8) (n : Nat) :
    (scl seed f k n).take 1 ++ [.int .u64 g.a, .int .u64 g.b, .int .u64 g.c, .int .u64 g.d] ++ (scl seed f k n).drop (1 + 4) = scl seed g k n := rfl
theorem scl_kept (seed : Nat) (f : F4) (k m : List UInt8) (n o : Nat) (hk : k.length = 32) (h : o + m.length ≤ 32) :
    (scl seed f k n).take (5 + o) ++ m.map byteV ++ (scl seed f k n).drop (5 + o + (m.map byteV).length) = scl seed f (k.take o ++ m ++ k.drop (o + m.length)) n := by
  unfold scl
  have e1 : ∀ (a : List Value) (b : List Value) (j : Nat), a.length = 5 → (a ++ b).take (5 + j) = a ++ b.take j := fun a b j ha => by
    rw [List.take_append, List.take_of_length_le (by omega), ha, show 5 + j - 5 = j from by omega]
  have e2 : ∀ (a : List Value) (b : List Value) (j : Nat), a.length = 5 → (a ++ b).drop (5 + j) = b.drop j := fun a b j ha => by
    rw [List.drop_append, List.drop_eq_nil_of_le (by omega), ha, show 5 + j - 5 = j from by omega, List.nil_append]
  rw [e1 _ _ _ rfl, Nat.add_assoc, e2 _ _ _ rfl, List.length_map, List.take_append_of_le_length (by rw [List.length_map]; omega), List.drop_append_of_le_length (by rw [List.length_map]; omega)]
  simp [List.map_take, List.map_drop]
theorem scl_came (seed : Nat) (f : F4) (k : List UInt8) (n n' : Nat) (hk : k.length = 32) : (scl seed f k n).toArray.setIfInBounds 37 (.int .i64 n') = (scl seed f k n').toArray := by
  unfold scl
  rw [List.setIfInBounds_toArray, List.set_append_right _ _ (by simp), List.set_append_right _ _ (by simp [hk])]
  simp [hk]

/-- Block A is a state of this seed, with these four, kept bytes, and so many that came. -/
def Sb (W : World) (A seed : Nat) (f : F4) (k : List UInt8) (n : Nat) : Prop := Blk W A (scl seed f k n).toArray 39 ∧ k.length = 32
theorem sb_lt {W : World} {A seed n : Nat} {f : F4} {k : List UInt8} (h : Sb W A seed f k n) : A < W.heap.size := blk_lt h.1
theorem sb_seed {W : World} {A seed n : Nat} {f : F4} {k : List UInt8} (h : Sb W A seed f k n) : W.cell? ⟨A, 0, none⟩ = some (.int .u64 seed) := blk_cell h.1 0
theorem sb_came {W : World} {A seed n : Nat} {f : F4} {k : List UInt8} (h : Sb W A seed f k n) : W.cell? ⟨A, 37, none⟩ = some (.int .i64 n) := by
  rw [blk_cell h.1, List.getElem?_toArray]
  unfold scl
  rw [List.getElem?_append_right (by simp), List.getElem?_append_right (by simp [h.2])]
  simp [h.2]
theorem sb_free {W : World} {A seed n : Nat} {f : F4} {k : List UInt8} (h : Sb W A seed f k n) (j : Nat) : W.frozen? ⟨A, j, none⟩ = false := blk_free h.1 j
theorem sb_there {W : World} {A seed n : Nat} {f : F4} {k : List UInt8} (h : Sb W A seed f k n) (j : Nat) (hj : j < 38) : (W.cell? ⟨A, j, none⟩).isSome = true := by
  rw [blk_cell h.1, List.getElem?_toArray, List.getElem?_eq_getElem (by rw [scl_len _ _ _ _ h.2]; exact hj)]; rfl
theorem sb_byte {W : World} {A seed n : Nat} {f : F4} {k : List UInt8} (h : Sb W A seed f k n) (j : Nat) (hj : j < k.length) : W.cell? ⟨A, 5 + j, none⟩ = some (byteV k[j]) := by
  rw [blk_cell h.1, List.getElem?_toArray]
  unfold scl
  rw [List.getElem?_append_right (by simp), show 5 + j - [Value.int .u64 seed, .int .u64 f.a, .int .u64 f.b, .int .u64 f.c, .int .u64 f.d].length = j from by simp, List.getElem?_append_left (by simpa using hj)]
  simp [hj]
theorem sb_four {W : World} {A seed n : Nat} {f : F4} {k : List UInt8} (h : Sb W A seed f k n) : W.rangeAt A 1 [.int .u64 f.a, .int .u64 f.b, .int .u64 f.c, .int .u64 f.d] := by
  intro j v hv
  rw [blk_cell h.1]
  match j, hv with
  | 0, hv => exact hv
  | 1, hv => exact hv
  | 2, hv => exact hv
  | 3, hv => exact hv
theorem sb_kept {W : World} {A seed n : Nat} {f : F4} {k : List UInt8} (h : Sb W A seed f k n) : W.rangeAt A 5 (k.map byteV) := by
  intro j v hv
  rw [List.getElem?_map] at hv
  obtain ⟨c, hc, rfl⟩ := Option.map_eq_some_iff.1 hv
  obtain ⟨hj, rfl⟩ := List.getElem?_eq_some_iff.1 hc
  exact sb_byte h j hj
theorem sb_set4 {W : World} {A seed n : Nat} {f : F4} {k : List UInt8} (h : Sb W A seed f k n) (g : F4) : Sb (W.setCells A 1 [.int .u64 g.a, .int .u64 g.b, .int .u64 g.c, .int .u64 g.d]) A seed g k n :=
  ⟨by have := blk_sets [.int .u64 g.a, .int .u64 g.b, .int .u64 g.c, .int .u64 g.d] 1 W (scl seed f k n) (by rw [scl_len _ _ _ _ h.2]; simp) h.1; exact this, h.2⟩
theorem sb_copy {W : World} {A seed n : Nat} {f : F4} {k : List UInt8} (h : Sb W A seed f k n) (o : Nat) (m : List UInt8) (hm : o + m.length ≤ 32) :
    Sb (W.setCells A (5 + o) (m.map byteV)) A seed f (k.take o ++ m ++ k.drop (o + m.length)) n :=
  ⟨by have := blk_sets (m.map byteV) (5 + o) W (scl seed f k n) (by rw [scl_len _ _ _ _ h.2, List.length_map]; omega) h.1
      rw [scl_kept seed f k m n o h.2 hm] at this; exact this, by rw [kept_len _ _ _ (by rw [h.2]; exact hm)]; exact h.2⟩
theorem sb_setn {W : World} {A seed n : Nat} {f : F4} {k : List UInt8} (h : Sb W A seed f k n) (n' : Nat) : Sb (W.setCell ⟨A, 37, none⟩ (.int .i64 n')) A seed f k n' :=
  ⟨by have := blk_set h.1 37 (.int .i64 n'); rw [scl_came _ _ _ _ _ h.2] at this; exact this, h.2⟩
theorem sb_chg {W W' : World} {S : Nat → Prop} {A seed n : Nat} {f : F4} {k : List UInt8} (h : Sb W A seed f k n) (g : Chg S W W') (hS : ¬ S A) : Sb W' A seed f k n :=
  ⟨blk_kept h.1 g hS, h.2⟩
theorem sb_below {W W' : World} {A seed n : Nat} {f : F4} {k : List UInt8} (h : Sb W A seed f k n) (g : Below W.heap.size W W') : Sb W' A seed f k n := ⟨blk_below h.1 g, h.2⟩

/-- Block A is a state of this seed to which l came. -/
def St (W : World) (A seed : Nat) (l : List UInt8) : Prop :=
  seed < 18446744073709551616 ∧ ∃ f k, Sb W A seed f k l.length ∧ k.take (l.length % 32) = rest l ∧ (32 ≤ l.length → f = four4 seed l)
theorem st_lt {W : World} {A seed : Nat} {l : List UInt8} (h : St W A seed l) : A < W.heap.size := by
  obtain ⟨_, f, k, h, _⟩ := h
  exact sb_lt h
theorem st_chg {W W' : World} {S : Nat → Prop} {A seed : Nat} {l : List UInt8} (h : St W A seed l) (g : Chg S W W') (hS : ¬ S A) : St W' A seed l := by
  obtain ⟨h0, f, k, h, h'⟩ := h
  exact ⟨h0, f, k, sb_chg h g hS, h'⟩
theorem st_below {W W' : World} {A seed : Nat} {l : List UInt8} (h : St W A seed l) (g : Below W.heap.size W W') : St W' A seed l := st_chg (S := fun _ => False) h (chg_of g) id
end Go.Proofs.Ytlmkdadhdeielaa
