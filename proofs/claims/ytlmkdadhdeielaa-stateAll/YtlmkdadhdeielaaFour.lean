/-
  The four side by side: made anew, and their step of 32 bytes: what they return.
-/
import Derived.Test.YtlmkdadhdeielaaEach
namespace Go.Proofs.Ytlmkdadhdeielaa
open Go.ChangeShapes Go.WideShapes Go.ChangeAt Go.RowKit
open Go.ChangeMaps (open_string shut_string)

/-- A block of cells, none frozen. -/
def Blk (W : World) (A : Nat) (cs : Array Value) (t : TypeId) : Prop := W.heap[A]? = some (.cells cs t (0, 0))
theorem blk_lt {W : World} {A : Nat} {cs : Array Value} {t : TypeId} (h : Blk W A cs t) : A < W.heap.size := (Array.getElem?_eq_some_iff.1 h).1
theorem blk_cell {W : World} {A : Nat} {cs : Array Value} {t : TypeId} (h : Blk W A cs t) (j : Nat) : W.cell? ⟨A, j, none⟩ = cs[j]? := by
  rw [Blk] at h; simp [World.cell?, h]
theorem blk_free {W : World} {A : Nat} {cs : Array Value} {t : TypeId} (h : Blk W A cs t) (j : Nat) : W.frozen? ⟨A, j, none⟩ = false := by
  rw [Blk] at h; simp [World.frozen?, h]
theorem blk_below {W W' : World} {A : Nat} {cs : Array Value} {t : TypeId} (h : Blk W A cs t) (g : Below W.heap.size W W') : Blk W' A cs t :=
  (g.block A (blk_lt h)).trans h
theorem blk_set {W : World} {A : Nat} {cs : Array Value} {t : TypeId} (h : Blk W A cs t) (j : Nat) (u : Value) : Blk (W.setCell ⟨A, j, none⟩ u) A (cs.setIfInBounds j u) t := by
  have hlt := blk_lt h
  have hv : W.heap[A] = .cells cs t (0, 0) := (Array.getElem?_eq_some_iff.1 h).2
  unfold Blk World.setCell
  rw [Array.getElem?_eq_getElem (by simpa using hlt), Array.getElem_modify]
  simp [hv]
theorem blk_set_other {W : World} {A : Nat} {cs : Array Value} {t : TypeId} (h : Blk W A cs t) (p : Addr) (u : Value) (hp : A ≠ p.block) : Blk (W.setCell p u) A cs t :=
  (Below.heap_setCell _ _ _ _ hp).trans h
theorem blk_alloc {W : World} {A : Nat} {cs : Array Value} {t : TypeId} (h : Blk W A cs t) (o : Obj) : Blk (W.alloc o) A cs t :=
  (Below.heap_alloc _ _ _ (blk_lt h)).trans h
theorem blk_new (W : World) (cs : Array Value) (t : TypeId) : Blk (W.alloc (.cells cs t)) W.heap.size cs t := Go.Deep.blk_alloc_new W _
theorem blk_drewN {W : World} {A : Nat} {cs : Array Value} {t : TypeId} (h : Blk W A cs t) (m : Nat) : Blk (W.drewN m) A cs t := h
theorem below_drewN {B : Nat} {a W : World} (h : Below B a W) (m : Nat) : Below B a (W.drewN m) := ⟨h.os, h.tape, h.output, h.size, h.block⟩

def agg4 (f : F4) : Value := .agg #[.int .u64 (f.a : Int), .int .u64 (f.b : Int), .int .u64 (f.c : Int), .int .u64 (f.d : Int)]
def cells4 (f : F4) : Array Value := #[.int .u64 (f.a : Int), .int .u64 (f.b : Int), .int .u64 (f.c : Int), .int .u64 (f.d : Int)]
def nil4 : Array Value := #[.int .u64 0, .int .u64 0, .int .u64 0, .int .u64 0]

theorem new4_bits (s : Nat) :
    IntKind.u64.wrap (IntKind.u64.wrap ((s : Int) + 11400714785074694791) + 14029467366897019727) = (((new4 s).a : Nat) : Int) ∧ IntKind.u64.wrap ((s : Int) + 14029467366897019727) = (((new4 s).b : Nat) : Int) ∧
    IntKind.u64.wrap ((s : Int) - 11400714785074694791) = (((new4 s).d : Nat) : Int) := by
  refine ⟨?_, ?_, ?_⟩
  · rw [show (11400714785074694791 : Int) = ((11400714785074694791 : Nat) : Int) from rfl, show (14029467366897019727 : Int) = ((14029467366897019727 : Nat) : Int) from rfl, wrapAdd, wrapAdd]; rfl
  · rw [show (14029467366897019727 : Int) = ((14029467366897019727 : Nat) : Int) from rfl, wrapAdd]; rfl
  · show _ = (((s + 7046029288634856825) % 18446744073709551616 : Nat) : Int)
    simp only [IntKind.wrap, IntKind.bits, IntKind.signed]; simp; omega

set_option maxRecDepth 100000 in
theorem new4_any (s : Nat) (w : World) :
    Calls Try.prog 33 #[.int .u64 s] w fun e w' => e = .returned (agg4 (new4 s)) ∧ Below w.heap.size w w' := by
  obtain ⟨e1, e2, e3⟩ := new4_bits s
  have E : Hid (new4 s = ⟨(new4 s).a, (new4 s).b, s, (new4 s).d⟩) := rfl
  generalize (new4 s).a = a at *
  generalize (new4 s).b = b at *
  generalize (new4 s).d = d at *
  go_enter Try.func33, Try.ntmps33
  go_wp2
  exact bodyPost_ret (v := agg4 ⟨a, b, s, d⟩) (by simp [results, Try.results33, go_sem, agg4]) rfl ⟨by rw [E.out], (Below.refl _ _).alloc (Nat.le_refl _) _⟩

/-- The four behind i of their words. -/
def st (f : F4) (l : List UInt8) : Nat → F4
  | 0 => f
  | 1 => ⟨rnd f.a (wval (l.take 8)), f.b, f.c, f.d⟩
  | 2 => ⟨rnd f.a (wval (l.take 8)), rnd f.b (wval ((l.drop 8).take 8)), f.c, f.d⟩
  | 3 => ⟨rnd f.a (wval (l.take 8)), rnd f.b (wval ((l.drop 8).take 8)), rnd f.c (wval ((l.drop 16).take 8)), f.d⟩
  | _ => step4 f l

theorem set_a (f : F4) (z : Nat) : (cells4 f).setIfInBounds 0 (.int .u64 (z : Int)) = cells4 ⟨z, f.b, f.c, f.d⟩ := rfl
theorem set_b (f : F4) (z : Nat) : (cells4 f).setIfInBounds 1 (.int .u64 (z : Int)) = cells4 ⟨f.a, z, f.c, f.d⟩ := rfl
theorem set_c (f : F4) (z : Nat) : (cells4 f).setIfInBounds 2 (.int .u64 (z : Int)) = cells4 ⟨f.a, f.b, z, f.d⟩ := rfl
theorem set_d (f : F4) (z : Nat) : (cells4 f).setIfInBounds 3 (.int .u64 (z : Int)) = cells4 ⟨f.a, f.b, f.c, z⟩ := rfl

theorem st1 (f : F4) (l : List UInt8) : st f l (0 + 1) = ⟨rnd (st f l 0).a (wval (l.take 8)), (st f l 0).b, (st f l 0).c, (st f l 0).d⟩ := by simp only [st]
theorem st2 (f : F4) (l : List UInt8) : st f l (1 + 1) = ⟨(st f l 1).a, rnd (st f l 1).b (wval ((l.drop 8).take 8)), (st f l 1).c, (st f l 1).d⟩ := by simp only [st]
theorem st3 (f : F4) (l : List UInt8) : st f l (2 + 1) = ⟨(st f l 2).a, (st f l 2).b, rnd (st f l 2).c (wval ((l.drop 16).take 8)), (st f l 2).d⟩ := by simp only [st]
theorem st4 (f : F4) (l : List UInt8) : st f l (3 + 1) = ⟨(st f l 3).a, (st f l 3).b, (st f l 3).c, rnd (st f l 3).d (wval ((l.drop 24).take 8))⟩ := by simp only [st, step4]

def SRel (f : F4) (l : List UInt8) (w : World) (sv iv : Value) (wr : World) : Prop :=
  ∃ (i : Nat) (t : ByteArray), i ≤ 4 ∧ iv = .int .i64 i ∧ sv = .string t ∧ t.data.toList = l.drop (8 * i) ∧
    Blk wr w.heap.size (cells4 (st f l i)) 60 ∧ Blk wr (w.heap.size + 1) nil4 60 ∧ Below w.heap.size w wr
theorem srel_step {f : F4} {l : List UInt8} {w wr : World} {i m : Nat} {t : ByteArray} {v : Value} (hi : i < 4) (ht : t.data.toList = l.drop (8 * i)) (hB : Blk wr w.heap.size (cells4 (st f l i)) 60) (hC : Blk wr (w.heap.size + 1) nil4 60) (hb : Below w.heap.size w wr)
    (hv : (cells4 (st f l i)).setIfInBounds i v = cells4 (st f l (i + 1))) : SRel f l w (.string (t.extract 8 t.size)) (.int .i64 ((i + 1 : Nat) : Int)) ((wr.drewN m).setCell ⟨w.heap.size, i, none⟩ v) := by
  refine ⟨i + 1, _, by omega, rfl, rfl, ?_, ?_, blk_set_other (blk_drewN hC m) _ _ (by simp), (below_drewN hb m).setCell (Nat.le_refl _) _⟩
  · rw [rest_list, ht, List.drop_drop, Nat.mul_succ]
  · rw [← hv]; exact blk_set (blk_drewN hB m) i v

set_option maxRecDepth 100000 in
theorem step4_any (f : F4) (s : ByteArray) (hs : s.size = 32) (w : World) :
    Calls Try.prog 34 #[agg4 f, .string s] w fun e w' => e = .returned (agg4 (step4 f s.data.toList)) ∧ Below w.heap.size w w' := by
  have hl : Hid (s.data.toList.length = 32) := by show _ = _; rw [len_data, hs]
  unfold agg4
  go_enter Try.func34, Try.ntmps34
  go_wp2
  go_loopw [1, 6] (fun sv iv wr => SRel f s.data.toList w sv iv wr) (fun _ iv _ => 4 - (intOf iv).toNat)
  case atStart => exact ⟨0, s, by omega, rfl, rfl, rfl, blk_alloc (blk_new w _ _) _, by have h : Blk ((w.alloc (.cells (cells4 f) 60)).alloc (.cells nil4 60)) (w.heap.size + 1) nil4 60 := by { have := blk_new (w.alloc (.cells (cells4 f) 60)) nil4 60; simpa using this }; exact h, ((Below.refl _ _).alloc (Nat.le_refl _) _).alloc (by simp) _⟩
  case round =>
    obtain ⟨i, t, hi, rfl, rfl, ht, hB, hC, hb⟩ := hrel
    have HS := hidI (And.intro ht (And.intro hB (And.intro hC hb)))
    have ts : t.size = 32 - 8 * i := by have := left_size _ _ _ ht; rw [hl.out] at this; exact this
    have hsz := blk_lt hC
    have d0 : wr.cell? ⟨w.heap.size + 1, 0, none⟩ = some (.int .u64 0) := blk_cell hC 0
    have d1 : wr.cell? ⟨w.heap.size + 1, 1, none⟩ = some (.int .u64 0) := blk_cell hC 1
    have d2 : wr.cell? ⟨w.heap.size + 1, 2, none⟩ = some (.int .u64 0) := blk_cell hC 2
    have d3 : wr.cell? ⟨w.heap.size + 1, 3, none⟩ = some (.int .u64 0) := blk_cell hC 3
    have g := fun j => blk_free hC j
    have b0 : wr.cell? ⟨w.heap.size, 0, none⟩ = some (.int .u64 ((st f s.data.toList i).a : Nat)) := blk_cell hB 0
    have b1 : wr.cell? ⟨w.heap.size, 1, none⟩ = some (.int .u64 ((st f s.data.toList i).b : Nat)) := blk_cell hB 1
    have b2 : wr.cell? ⟨w.heap.size, 2, none⟩ = some (.int .u64 ((st f s.data.toList i).c : Nat)) := blk_cell hB 2
    have b3 : wr.cell? ⟨w.heap.size, 3, none⟩ = some (.int .u64 ((st f s.data.toList i).d : Nat)) := blk_cell hB 3
    have fr := fun j => blk_free hB j
    clear hB hC hb ht
    have hc : i = 0 ∨ i = 1 ∨ i = 2 ∨ i = 3 ∨ i = 4 := by omega
    rcases hc with rfl | rfl | rfl | rfl | rfl
    · have cn := fun w => next32 (st f s.data.toList 0).a t (by omega) w
      have V : Hid ((cells4 (st f s.data.toList 0)).setIfInBounds 0 (.int .u64 (rnd (st f s.data.toList 0).a (wval (t.data.toList.take 8)) : Nat)) = cells4 (st f s.data.toList (0 + 1))) := by
        show _ = _
        rw [HS.out.1, set_a, show 8 * 0 = 0 from rfl, List.drop_zero, st1]
      replace V := fun (_ : Unit) => V
      generalize rnd (st f s.data.toList 0).a (wval (t.data.toList.take 8)) = z at *
      clear ts
      go_wp2_with (first | (go_at_call 41; refine (cn _).mono ?_; rintro e w' ⟨rfl, m, rfl⟩) | go_in)
      go_roundw
      case rel => exact srel_step (by omega) HS.out.1 HS.out.2.1 HS.out.2.2.1 HS.out.2.2.2 (V ()).out
      case measure => simp [intOf]
    · have cn := fun w => next32 (st f s.data.toList 1).b t (by omega) w
      have V : Hid ((cells4 (st f s.data.toList 1)).setIfInBounds 1 (.int .u64 (rnd (st f s.data.toList 1).b (wval (t.data.toList.take 8)) : Nat)) = cells4 (st f s.data.toList (1 + 1))) := by
        show _ = _
        rw [HS.out.1, set_b, show 8 * 1 = 8 from rfl, st2]
      replace V := fun (_ : Unit) => V
      generalize rnd (st f s.data.toList 1).b (wval (t.data.toList.take 8)) = z at *
      clear ts
      go_wp2_with (first | (go_at_call 41; refine (cn _).mono ?_; rintro e w' ⟨rfl, m, rfl⟩) | go_in)
      go_roundw
      case rel => exact srel_step (by omega) HS.out.1 HS.out.2.1 HS.out.2.2.1 HS.out.2.2.2 (V ()).out
      case measure => simp [intOf]
    · have cn := fun w => next32 (st f s.data.toList 2).c t (by omega) w
      have V : Hid ((cells4 (st f s.data.toList 2)).setIfInBounds 2 (.int .u64 (rnd (st f s.data.toList 2).c (wval (t.data.toList.take 8)) : Nat)) = cells4 (st f s.data.toList (2 + 1))) := by
        show _ = _
        rw [HS.out.1, set_c, show 8 * 2 = 16 from rfl, st3]
      replace V := fun (_ : Unit) => V
      generalize rnd (st f s.data.toList 2).c (wval (t.data.toList.take 8)) = z at *
      clear ts
      go_wp2_with (first | (go_at_call 41; refine (cn _).mono ?_; rintro e w' ⟨rfl, m, rfl⟩) | go_in)
      go_roundw
      case rel => exact srel_step (by omega) HS.out.1 HS.out.2.1 HS.out.2.2.1 HS.out.2.2.2 (V ()).out
      case measure => simp [intOf]
    · have cn := fun w => next32 (st f s.data.toList 3).d t (by omega) w
      have V : Hid ((cells4 (st f s.data.toList 3)).setIfInBounds 3 (.int .u64 (rnd (st f s.data.toList 3).d (wval (t.data.toList.take 8)) : Nat)) = cells4 (st f s.data.toList (3 + 1))) := by
        show _ = _
        rw [HS.out.1, set_d, show 8 * 3 = 24 from rfl, st4]
      replace V := fun (_ : Unit) => V
      generalize rnd (st f s.data.toList 3).d (wval (t.data.toList.take 8)) = z at *
      clear ts
      go_wp2_with (first | (go_at_call 41; refine (cn _).mono ?_; rintro e w' ⟨rfl, m, rfl⟩) | go_in)
      go_roundw
      case rel => exact srel_step (by omega) HS.out.1 HS.out.2.1 HS.out.2.2.1 HS.out.2.2.2 (V ()).out
      case measure => simp [intOf]
    · have E : st f s.data.toList 4 = step4 f s.data.toList := by simp only [st]
      rw [E] at b0 b1 b2 b3 HS
      clear E ts
      obtain ⟨y, hy'⟩ : ∃ y, step4 f s.data.toList = y := ⟨_, rfl⟩
      rw [hy'] at b0 b1 b2 b3 HS
      have hy := hidI hy'
      clear hy'
      go_wp2
      exact bodyPost_ret (v := agg4 y) (by simp [results, Try.results34, go_sem, agg4, d0, d1, d2, d3]) rfl ⟨by show Ending.returned (agg4 y) = .returned (agg4 (step4 f s.data.toList)); rw [hy.out], ((((HS.out.2.2.2).setCell (by simp) _).setCell (by simp) _).setCell (by simp) _).setCell (by simp) _⟩
end Go.Proofs.Ytlmkdadhdeielaa
