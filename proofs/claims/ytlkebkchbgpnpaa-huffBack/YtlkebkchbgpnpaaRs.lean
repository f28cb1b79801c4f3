/-
  What the reference lays ahead: frequencies and sums.
-/
import Derived.Test.YtlkebkchbgpnpaaRn
namespace Go.Proofs.Ytlkebkchbgpnpaa
open Go.ChangeShapes Go.WideShapes Go.ChangeAt Go.RowKit
open Go.ChangeMaps (open_string shut_string)

def KZ (n : Nat) : List Int := List.replicate n 0
theorem kz_fr (n i : Nat) : fr (KZ n) i = 0 := by
  unfold fr KZ
  rw [List.getD_eq_getElem?_getD, List.getElem?_replicate]
  split <;> rfl
theorem kz_len (n : Nat) : (KZ n).length = n := List.length_replicate
theorem own_kz (W : World) (n : Nat) (hn : n ≤ 1000000) : (W.alloc (.cells (madeCells #[.int .i64 0] n) 3)).ownsRow W.heap.size 3 1 (.slice (some ⟨W.heap.size, 0, none⟩) n n) n (ivs (KZ n)) := own_made_big W n hn
theorem kn_kz (s : List Nat) (limit N : Nat) : Kn s limit N (KZ 166600) := ⟨kz_len _, fun _ _ _ _ _ _ _ => .inl (kz_fr _ _)⟩
def B2 (w3 : World) (A KB SB limit N1 : Nat) (fv : Value) (fl : List Nat) (sm : List Int) (wr : World) : Prop :=
  Blk wr A #[fv, .int .i64 (limit : Int), .slice (some ⟨KB, 0, none⟩) 166600 166600, .slice (some ⟨SB, 0, none⟩) N1 N1] 98 ∧ wr.ownsRow 0 3 1 (.slice (some ⟨KB, 0, none⟩) 166600 166600) 166600 (ivs (KZ 166600)) ∧ wr.ownsRow 0 3 1 (.slice (some ⟨SB, 0, none⟩) N1 N1) N1 (ivs sm) ∧
    wr.ownsRow 0 3 1 fv fl.length (ni fl) ∧ (∀ k, fv.ownBlock = some k → w3.heap.size ≤ k ∧ k ≠ A ∧ k ≠ KB ∧ k ≠ SB) ∧ w3.heap.size ≤ A ∧ w3.heap.size ≤ KB ∧ w3.heap.size ≤ SB ∧ A ≠ KB ∧ A ≠ SB ∧ SB ≠ KB ∧ Below w3.heap.size w3 wr
def CutB (w3 : World) (limit N1 : Nat) (s8 : Value) (wx : World) : Prop :=
  ∃ A KB SB, s8 = .pointer (some ⟨A, 0, none⟩) ∧ B2 w3 A KB SB limit N1 (.slice none 0 0) [] (KZ N1) wx
theorem b2_no {w3 : World} {A KB SB limit N1 : Nat} {fv : Value} {fl : List Nat} {sm : List Int} {wr w' : World} (h : B2 w3 A KB SB limit N1 fv fl sm wr) (c : Chg (fun _ => False) wr w') : B2 w3 A KB SB limit N1 fv fl sm w' := by
  obtain ⟨h1, h2, h3, h4, h5, h6, h7, h8, h9, h10, h11, h12⟩ := h
  exact ⟨blk_kept h1 c (fun h => h), own_kept h2 c (fun _ _ h => h), own_kept h3 c (fun _ _ h => h), own_kept h4 c (fun _ _ h => h), h5, h6, h7, h8, h9, h10, h11, h12.trans (chg_below c h12.size (fun _ h => h.elim))⟩
theorem cutB_1 (w3 : World) (limit N1 : Nat) (h : N1 ≤ 1000) : CutB w3 limit N1 (.pointer (some ⟨w3.heap.size + 1 + 1, 0, none⟩))
    (((w3.alloc (.cells (madeCells #[.int .i64 0] 166600) 3)).alloc (.cells (madeCells #[.int .i64 0] N1) 3)).alloc (.cells #[.slice none 0 0, .int .i64 (limit : Int), .slice (some ⟨w3.heap.size, 0, none⟩) 166600 166600, .slice (some ⟨w3.heap.size + 1, 0, none⟩) N1 N1] 98)).drew := by
  have o1 := own_kz w3 166600 (by omega)
  have o2 := own_kz (w3.alloc (.cells (madeCells #[.int .i64 0] 166600) 3)) N1 (by omega)
  have sz : (w3.alloc (.cells (madeCells #[.int .i64 0] 166600) 3)).heap.size = w3.heap.size + 1 := by simp
  have b1 : Below w3.heap.size w3 (w3.alloc (.cells (madeCells #[.int .i64 0] 166600) 3)) := (Below.refl _ _).alloc (Nat.le_refl _) _
  generalize w3.alloc (.cells (madeCells #[.int .i64 0] 166600) 3) = wa at *
  rw [sz] at o2
  have sz2 : (wa.alloc (.cells (madeCells #[.int .i64 0] N1) 3)).heap.size = w3.heap.size + 1 + 1 := by simp [sz]
  have b2 : Below w3.heap.size w3 (wa.alloc (.cells (madeCells #[.int .i64 0] N1) 3)) := b1.alloc (by rw [sz]; omega) _
  have o1' := World.ownsRow.alloc o1 (.cells (madeCells #[.int .i64 0] N1) 3)
  generalize wa.alloc (.cells (madeCells #[.int .i64 0] N1) 3) = wb at *
  have bk := blk_new wb #[.slice none 0 0, .int .i64 (limit : Int), .slice (some ⟨w3.heap.size, 0, none⟩) 166600 166600, .slice (some ⟨w3.heap.size + 1, 0, none⟩) N1 N1] 98
  rw [sz2] at bk
  refine ⟨_, w3.heap.size, w3.heap.size + 1, rfl, b2_no ⟨bk, own_low (World.ownsRow.alloc o1' _) (Nat.zero_le _), own_low (World.ownsRow.alloc o2 _) (Nat.zero_le _), World.ownsRow_nil _ _ _ _, fun k hk => by simp [Value.ownBlock] at hk, by omega, by omega, by omega, by omega, by omega, by omega, b2.alloc (by rw [sz2]; omega) _⟩ (drew_chg _)⟩
theorem cutB_2 (w3 : World) (limit N1 : Nat) (h : N1 ≤ 1000) : CutB w3 limit N1 (.pointer (some ⟨w3.heap.size + 1 + 1, 0, none⟩))
    (((w3.alloc (.cells (madeCells #[.int .i64 0] N1) 3)).alloc (.cells (madeCells #[.int .i64 0] 166600) 3)).alloc (.cells #[.slice none 0 0, .int .i64 (limit : Int), .slice (some ⟨w3.heap.size + 1, 0, none⟩) 166600 166600, .slice (some ⟨w3.heap.size, 0, none⟩) N1 N1] 98)).drew := by
  have o1 := own_kz w3 N1 (by omega)
  have o2 := own_kz (w3.alloc (.cells (madeCells #[.int .i64 0] N1) 3)) 166600 (by omega)
  have sz : (w3.alloc (.cells (madeCells #[.int .i64 0] N1) 3)).heap.size = w3.heap.size + 1 := by simp
  have b1 : Below w3.heap.size w3 (w3.alloc (.cells (madeCells #[.int .i64 0] N1) 3)) := (Below.refl _ _).alloc (Nat.le_refl _) _
  generalize w3.alloc (.cells (madeCells #[.int .i64 0] N1) 3) = wa at *
  rw [sz] at o2
  have sz2 : (wa.alloc (.cells (madeCells #[.int .i64 0] 166600) 3)).heap.size = w3.heap.size + 1 + 1 := by simp [sz]
  have b2 : Below w3.heap.size w3 (wa.alloc (.cells (madeCells #[.int .i64 0] 166600) 3)) := b1.alloc (by rw [sz]; omega) _
  have o1' := World.ownsRow.alloc o1 (.cells (madeCells #[.int .i64 0] 166600) 3)
  generalize wa.alloc (.cells (madeCells #[.int .i64 0] 166600) 3) = wb at *
  have bk := blk_new wb #[.slice none 0 0, .int .i64 (limit : Int), .slice (some ⟨w3.heap.size + 1, 0, none⟩) 166600 166600, .slice (some ⟨w3.heap.size, 0, none⟩) N1 N1] 98
  rw [sz2] at bk
  refine ⟨_, w3.heap.size + 1, w3.heap.size, rfl, b2_no ⟨bk, own_low (World.ownsRow.alloc o2 _) (Nat.zero_le _), own_low (World.ownsRow.alloc o1' _) (Nat.zero_le _), World.ownsRow_nil _ _ _ _, fun k hk => by simp [Value.ownBlock] at hk, by omega, by omega, by omega, by omega, by omega, by omega, b2.alloc (by rw [sz2]; omega) _⟩ (drew_chg _)⟩
/-- One more frequency behind the others. -/
theorem b2_push {w3 : World} {A KB SB limit N1 : Nat} {fv v' : Value} {fl : List Nat} {sm : List Int} {wr w5 : World} {o : Obj} {z : Nat} (h : B2 w3 A KB SB limit N1 fv fl sm wr)
    (g1 : w5.ownsRow 0 3 1 v' (fl.length + 1) (ni fl ++ [.int .i64 (z : Int)])) (g2 : (wr.drew.alloc o).grownBy w5 fv.ownBlock) (g3 : Moved (wr.drew.alloc o) fv v') :
    B2 w3 A KB SB limit N1 v' (fl ++ [z]) sm (w5.setCell ⟨A, 0, none⟩ v') := by
  obtain ⟨h1, h2, h3, h4, h5, h6, h7, h8, h9, h10, h11, h12⟩ := h
  have c1 : Chg (fun k => fv.ownBlock = some k) wr w5 := chg_grown (chg_alloc (chg_drew (chg_refl _ _)) _) g2 (fun k hk _ => hk)
  have nA : ¬ fv.ownBlock = some A := fun e => (h5 A e).2.1 rfl
  have h1' := blk_kept h1 c1 nA
  have ltA := blk_lt h1
  have ltK := (h2.lt KB rfl).2
  have ltS := (h3.lt SB rfl).2
  have mv : ∀ k, v'.ownBlock = some k → w3.heap.size ≤ k ∧ k ≠ A ∧ k ≠ KB ∧ k ≠ SB := fun k hk => by
    rcases g3 k hk with e | e
    · exact h5 k e
    · have e' : wr.heap.size + 1 ≤ k := by simpa using e
      have := h12.size; omega
  have c2 : Chg (· = A) w5 (w5.setCell ⟨A, 0, none⟩ v') := chg_in (chg_refl _ _) _ _
  refine ⟨by simpa using blk_set h1' 0 v', ?_, ?_, ?_, mv, h6, h7, h8, h9, h10, h11, ?_⟩
  · exact own_kept (own_kept h2 c1 (fun k hk e => by simp [Value.ownBlock] at hk; subst hk; exact (h5 _ e).2.2.1 rfl)) c2 (fun k hk e => by simp [Value.ownBlock] at hk; omega)
  · exact own_kept (own_kept h3 c1 (fun k hk e => by simp [Value.ownBlock] at hk; subst hk; exact (h5 _ e).2.2.2 rfl)) c2 (fun k hk e => by simp [Value.ownBlock] at hk; omega)
  · have e : ni (fl ++ [z]) = ni fl ++ [.int .i64 (z : Int)] := by simp [ni, ivs, iv]
    rw [e, List.length_append, List.length_singleton]
    exact own_kept g1 c2 (fun k hk e => (mv k hk).2.1 e)
  · have b5 : Below w3.heap.size w3 w5 := h12.trans (chg_below c1 h12.size (fun k hk => (h5 k hk).1))
    exact b5.trans (chg_below c2 b5.size (fun k hk => by omega))
/-- The sums from place j on. -/
def SM (s : List Nat) (N j : Nat) : List Int := (List.range (N + 1)).map (fun i => if j ≤ i then ((pre s (N - i) : Nat) : Int) else 0)
theorem sm_len (s : List Nat) (N j : Nat) : (SM s N j).length = N + 1 := by simp [SM]
theorem sm_fr (s : List Nat) (N j i : Nat) (h : i ≤ N) : fr (SM s N j) i = if j ≤ i then ((pre s (N - i) : Nat) : Int) else 0 := by
  unfold fr SM
  rw [List.getD_eq_getElem?_getD, List.getElem?_map, List.getElem?_range (by omega)]; rfl
theorem sm_top (s : List Nat) (N : Nat) : SM s N N = KZ (N + 1) := by
  apply List.ext_getElem?
  intro i
  unfold SM KZ
  rw [List.getElem?_map, List.getElem?_replicate]
  by_cases h : i < N + 1
  · rw [List.getElem?_range h, if_pos h]
    show some (if N ≤ i then ((pre s (N - i) : Nat) : Int) else 0) = some 0
    split
    · rename_i h'; rw [show N - i = 0 by omega]; rfl
    · rfl
  · rw [List.getElem?_eq_none (by simp; omega), if_neg h]; rfl
theorem sm_step (s : List Nat) (N j : Nat) (h : j < N) : (SM s N (j + 1)).set j ((pre s (N - j) : Nat) : Int) = SM s N j := by
  apply List.ext_getElem?
  intro i
  rw [List.getElem?_set, sm_len]
  unfold SM
  rw [List.getElem?_map, List.getElem?_map]
  by_cases hi : i < N + 1
  · rw [List.getElem?_range hi]
    show (if j = i then if j < N + 1 then some ((pre s (N - j) : Nat) : Int) else none else some (if j + 1 ≤ i then ((pre s (N - i) : Nat) : Int) else 0)) = some (if j ≤ i then ((pre s (N - i) : Nat) : Int) else 0)
    by_cases e : j = i
    · subst e; rw [if_pos rfl, if_pos hi, if_pos (Nat.le_refl _)]
    · rw [if_neg e]
      by_cases e2 : j ≤ i
      · rw [if_pos e2, if_pos (by omega)]
      · rw [if_neg e2, if_neg (by omega)]
  · rw [if_neg (by omega), List.getElem?_eq_none (by simp; omega)]; rfl
theorem sm_sum (c : List Nat) (N j : Nat) (hN : c.length = N) (h : j < N) : pre c.reverse (N - j) = pre c.reverse (N - (j + 1)) + at0 c j := by
  rw [show N - j = (N - (j + 1)) + 1 by omega, pre_succ _ _ (by rw [List.length_reverse]; omega), at0_rev _ _ (by omega), hN, show N - 1 - (N - (j + 1)) = j by omega]
/-- The sums set one after the other. -/
theorem b2_sum {w3 : World} {A KB SB limit N1 : Nat} {fv : Value} {fl : List Nat} {sm : List Int} {wr : World} (h : B2 w3 A KB SB limit N1 fv fl sm wr) (i : Nat) (z : Int) :
    B2 w3 A KB SB limit N1 fv fl (sm.set i z) (wr.setCell ⟨SB, i, none⟩ (.int .i64 z)).drew := by
  obtain ⟨h1, h2, h3, h4, h5, h6, h7, h8, h9, h10, h11, h12⟩ := h
  have c : Chg (· = SB) wr (wr.setCell ⟨SB, i, none⟩ (.int .i64 z)).drew := chg_drew (chg_in (chg_refl _ _) _ _)
  have o := own_drew (own_set h3 i (.int .i64 z))
  rw [ivs_set] at o
  exact ⟨blk_kept h1 c h10, own_kept h2 c (fun k hk e => by simp [Value.ownBlock] at hk; omega), o, own_kept h4 c (fun k hk e => (h5 k hk).2.2.2 e), h5, h6, h7, h8, h9, h10, h11, h12.trans (chg_below c h12.size (fun k hk => by omega))⟩
end Go.Proofs.Ytlkebkchbgpnpaa
