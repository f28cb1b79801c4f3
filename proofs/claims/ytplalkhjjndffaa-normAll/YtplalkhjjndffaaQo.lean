/-
  The queue of a list's numbers, and what comes out of it next; each condition stands at its theorem.
-/
import Derived.Test.YtplalkhjjndffaaIn
import Derived.Test.YtplalkhjjndffaaOr
namespace Go.Proofs.Ytplalkhjjndffaa
open Go.ChangeShapes Go.WideShapes Go.ChangeAt Go.RowKit
open Go.ChangeMaps (open_string shut_string)

theorem own_two {W : World} {base e g n cap : Nat} {xs : List Value} (h : W.ownsRow base e 2 (.slice (some ⟨g, 0, none⟩) n cap) n xs) (i : Nat) (hi : i < n) :
    ∃ u v, W.cell? ⟨g, i * 2, none⟩ = some u ∧ W.cell? ⟨g, i * 2 + 1, none⟩ = some v ∧ W.frozen? ⟨g, i * 2, none⟩ = false ∧ W.frozen? ⟨g, i * 2 + 1, none⟩ = false := by
  obtain ⟨_, s0, f0⟩ := own_there h (i * 2) (by omega)
  obtain ⟨_, s1, f1⟩ := own_there h (i * 2 + 1) (by omega)
  obtain ⟨u, hu⟩ := Option.isSome_iff_exists.1 s0
  obtain ⟨v, hv⟩ := Option.isSome_iff_exists.1 s1
  exact ⟨u, v, hu, hv, f0, f1⟩
theorem evs_len (f : List Int) (l : List Nat) : (evs f l).length = l.length * 2 := by
  induction l with
  | nil => rfl
  | cons p l ih => rw [evs, List.flatMap_cons, List.length_append, ← evs, ih]; simp [ev]; omega
theorem blk_set_other {W : World} {A : Nat} {cs : Array Value} {t : TypeId} (h : Blk W A cs t) (p : Addr) (u : Value) (hp : A ≠ p.block) : Blk (W.setCell p u) A cs t :=
  (Below.heap_setCell _ _ _ _ hp).trans h
theorem make_ents (n : Nat) (hn : n ≤ 100000) (W : World) :
    (Instr.makeSlice 87 (.int .i64 (n : Int)) (.int .i64 (n : Int))).run Try.prog W = .ok (.slice (some ⟨W.heap.size, 0, none⟩) n n) (W.alloc (.cells (madeCells #[.int .i64 0, .int .i64 0] (n * 2)) 73)) := by
  obtain ⟨i, hi, hz, hs, hb⟩ := info_all info73
  have hr := run_make (P := Try.prog) W 87 73 i _ Try.underlying87 hi hz .i64 .i64 n n (by omega) (Int.le_refl _) (by rw [hb]; omega) (by omega)
  simp only [Int.toNat_natCast, hs] at hr
  exact hr
theorem made_ents (n : Nat) : (madeCells #[Value.int .i64 0, .int .i64 0] n).toList = List.replicate n (.int .i64 0) := by
  apply List.ext_getElem?
  intro i
  simp only [madeCells, Array.toList_map, Array.toList_range, List.getElem?_map, List.getElem?_replicate]
  by_cases h : i < n
  · have h2 : i % 2 = 0 ∨ i % 2 = 1 := by omega
    rcases h2 with e | e <;> simp [h, e]
  · simp [h]
/-- The row of the queue, filled up to a place. -/
def rowQ (f : List Int) (n i : Nat) : List Value := evs f (List.range i) ++ List.replicate ((n - i) * 2) (.int .i64 0)
theorem rowQ_len (f : List Int) (n i : Nat) (h : i ≤ n) : (rowQ f n i).length = n * 2 := by
  unfold rowQ; rw [List.length_append, evs_len, List.length_range, List.length_replicate]; omega
theorem rowQ_set (f : List Int) (n i : Nat) (h : i < n) : ((rowQ f n i).set (i * 2) (.int .i64 (i : Int))).set (i * 2 + 1) (.int .i64 (fr f i)) = rowQ f n (i + 1) := by
  have hl : (evs f (List.range i)).length = i * 2 := by rw [evs_len, List.length_range]
  obtain ⟨k, hk⟩ : ∃ k, n - i = k + 1 := ⟨n - i - 1, by omega⟩
  have hk' : n - (i + 1) = k := by omega
  unfold rowQ
  rw [hk, hk', show (k + 1) * 2 = k * 2 + 1 + 1 from by omega, List.replicate_succ, List.replicate_succ, List.range_succ, evs_append, List.append_assoc]
  rw [List.set_append_right _ _ (by omega), List.set_append_right _ _ (by omega), hl, Nat.sub_self, show i * 2 + 1 - i * 2 = 1 from by omega]
  rfl
theorem rowQ_zero (f : List Int) (n : Nat) : rowQ f n 0 = List.replicate (n * 2) (.int .i64 0) := rfl
theorem rowQ_all (f : List Int) (n : Nat) : rowQ f n n = evs f (List.range n) := by unfold rowQ; simp
theorem own_made_ents (W : World) (n : Nat) (hn : n ≤ 100000) (f : List Int) : (W.alloc (.cells (madeCells #[.int .i64 0, .int .i64 0] (n * 2)) 73)).ownsRow 0 73 2 (.slice (some ⟨W.heap.size, 0, none⟩) n n) n (rowQ f n 0) :=
  ⟨rowQ_len f n 0 (Nat.zero_le _), .inr ⟨_, n, _, rfl, Nat.zero_le _, blk_new _ _ _, Nat.le_refl _, by simp only [maxLen]; omega, by simp [madeCells], by rw [made_ents, List.take_of_length_le (by simp), rowQ_zero]⟩⟩
def QoRel (f : List Int) (S : Nat) (w : World) (sv : Value) (wr : World) : Prop :=
  ∃ i : Nat, i ≤ f.length ∧ sv = .int .i64 i ∧ Blk wr (S + 1) #[.slice (some ⟨S, 0, none⟩) f.length f.length] 87 ∧ wr.ownsRow 0 73 2 (.slice (some ⟨S, 0, none⟩) f.length f.length) f.length (rowQ f f.length i) ∧ Below S w wr
set_option maxRecDepth 100000 in
set_option maxHeartbeats 2000000 in
theorem queueOf_any (a : Option Addr) (n cap : Nat) (f : List Int) (w : World) (h : RI w a n f) (hf : FI f) (h0 : 0 < n) (hn : n ≤ 1000) :
    Calls Try.prog 39 #[.slice a n cap] w fun e w' => e = .returned (.pointer (some ⟨w.heap.size + 1, 0, none⟩)) ∧
      ∃ l', Qun w' (w.heap.size + 1) (.slice (some ⟨w.heap.size, 0, none⟩) n n) f l' ∧ l'.Perm (List.range n) ∧ HeapFrom (ltf f) l' l'.length 0 ∧ Below w.heap.size w w' := by
  obtain ⟨h1, h2⟩ := h
  subst h1
  have HX := Hid.intro h2
  have HF := Hid.intro hf
  have mk := make_ents f.length (by omega) w
  have b1 : Below w.heap.size w (w.alloc (.cells (madeCells #[.int .i64 0, .int .i64 0] (f.length * 2)) 73)) := (Below.refl _ _).alloc (Nat.le_refl _) _
  have o1 := own_made_ents w f.length (by omega) f
  have z1 : (w.alloc (.cells (madeCells #[.int .i64 0, .int .i64 0] (f.length * 2)) 73)).heap.size = w.heap.size + 1 := by simp
  obtain ⟨w1, hw1⟩ : ∃ w1, w.alloc (.cells (madeCells #[.int .i64 0, .int .i64 0] (f.length * 2)) 73) = w1 := ⟨_, rfl⟩
  rw [hw1] at mk b1 o1 z1
  obtain ⟨S, hS⟩ : ∃ S, w.heap.size = S := ⟨_, rfl⟩
  rw [hS] at mk b1 o1 z1 ⊢
  have ST : Hid (QoRel f S w (.int .i64 0) (w1.alloc (.cells #[.slice (some ⟨S, 0, none⟩) f.length f.length] 87))) :=
    ⟨0, Nat.zero_le _, rfl, by have := blk_new w1 #[.slice (some ⟨S, 0, none⟩) f.length f.length] 87; rw [z1] at this; exact this, World.ownsRow.alloc o1 _, b1.alloc (by omega) _⟩
  have Z1 := Hid.intro z1
  have HS := Hid.intro hS
  clear hw1 b1 o1 h2 hf hS
  go_enter Try.func39, Try.ntmps39
  go_wp2_with fail
  try simp only [z1]
  clear z1
  generalize w1.alloc (.cells #[.slice (some ⟨S, 0, none⟩) f.length f.length] 87) = w2 at *
  go_loopw [11] (fun sv wr => QoRel f S w sv wr) (fun sv _ => f.length - (intOf sv).toNat)
  case atStart => exact ST.out
  case round =>
    clear ST mk
    obtain ⟨i, hi, rfl, d1, d2, d3⟩ := hrel
    have c0 : wr.cell? ⟨S + 1, 0, none⟩ = some (.slice (some ⟨S, 0, none⟩) f.length f.length) := by rw [blk_cell d1]; rfl
    by_cases hlt : i < f.length
    · obtain ⟨x, rfl, hx⟩ := HX.out (by omega)
      have cx := hx i hlt
      have cx' : wr.cell? (x.add i) = some (.int .i64 f[i]) := by rw [d3.cell (by rw [← HS.out]; exact World.block_lt_of_cell? _ _ cx)]; exact cx
      have bd := HF.out f[i] (List.getElem_mem hlt)
      have fa := fr_at f i hlt
      obtain ⟨y0, y1, s0, s1, f0, f1⟩ := own_two d2 i hlt
      have k2 := own_set (own_set d2 (i * 2) (.int .i64 (i : Int))) (i * 2 + 1) (.int .i64 (fr f i))
      rw [rowQ_set f f.length i hlt, fa] at k2
      generalize hz : f[i] = z at *
      have K2 := Hid.intro k2
      have K1 := Hid.intro (blk_set_other (blk_set_other d1 ⟨S, i * 2, none⟩ (.int .i64 (i : Int)) (by simp)) ⟨S, i * 2 + 1, none⟩ (.int .i64 z) (by simp))
      have K3 := Hid.intro ((d3.setCell (p := ⟨S, i * 2, none⟩) (Nat.le_refl _) (.int .i64 (i : Int))).setCell (p := ⟨S, i * 2 + 1, none⟩) (Nat.le_refl _) (.int .i64 z))
      clear k2 cx hx hz fa d1 d2 d3
      go_wp2_with fail
      go_roundw
      case rel => exact ⟨i + 1, by omega, by go_num, K1.out, K2.out, K3.out⟩
      case measure => simp [intOf]; omega
    · obtain rfl : i = f.length := by omega
      rw [rowQ_all] at d2
      have qn : Qun wr (S + 1) (.slice (some ⟨S, 0, none⟩) f.length f.length) f (List.range f.length) := ⟨d1, by rw [List.length_range]; exact d2, by simp [Value.ownBlock]⟩
      have IN := init_any (S + 1) S f.length f.length f (List.range f.length) wr qn (by simp) hn h0
      clear qn d1 d2
      go_wp2_with fail
      with_reducible refine IN.mono ?_
      rintro e w3 ⟨rfl, l', k1, k2, k3, k4⟩
      clear IN
      have K3 := Hid.intro k3
      have b3 := foot_below (w := w) (by rw [HS.out]; exact d3) k4 (by rw [HS.out]; omega) (fun k hk => by simp [Value.ownBlock] at hk; rw [HS.out]; omega)
      rw [HS.out] at b3
      clear k3 d3 k4
      go_wp2_with fail
      go_ret
      exact ⟨rfl, l', k1, k2, K3.out, b3⟩
theorem qu_kept2n {W : World} {A b n cap : Nat} {f : List Int} {l : List Nat} (h : Qun W A (.slice (some ⟨b, 0, none⟩) n cap) f l) (r : Nat) (u v : Value) (hA : A ≠ r) (hb : b ≠ r) :
    Qun ((W.setCell ⟨r, 0, none⟩ u).setCell ⟨r, 1, none⟩ v) A (.slice (some ⟨b, 0, none⟩) n cap) f l :=
  qu_keptn h (S := (· = r)) (chg_in (chg_in (chg_refl _ W) 0 u) 1 v) (fun k hk e => by
    rcases hk with e1 | e1
    · omega
    · simp [Value.ownBlock] at e1; omega)
set_option maxRecDepth 100000 in
set_option maxHeartbeats 1000000 in
theorem next_anyn (A b cap n : Nat) (f : List Int) (all out l : List Nat) (W : World) (h : Qun W A (.slice (some ⟨b, 0, none⟩) (n + 1) cap) f l) (hn : l.length = n + 1) (hl : n ≤ 1000) (hp : PopInv (ltf f) all out l) :
    Calls Try.prog 40 #[.pointer (some ⟨A, 0, none⟩)] W fun e W' => e = .returned (.agg #[.int .i64 (g l 0 : Int), .int .i64 (fr f (g l 0))]) ∧
      ∃ l', Qun W' A (.slice (some ⟨b, 0, none⟩) n cap) f l' ∧ l'.length = n ∧ PopInv (ltf f) all (out ++ [g l 0]) l' ∧ Chg (foot A (.slice (some ⟨b, 0, none⟩) (n + 1) cap)) W W' := by
  have zA := blk_lt h.1
  have zB := (h.2.1.lt b rfl).2
  have h1 := qu_non h (chg_alloc (chg_refl (fun _ => False) W) (.cells #[.int .i64 0, .int .i64 0] 73))
  have PO := hpop_anyn A b cap n f all out l _ h1 hn hl hp
  have B1 := blk_new W #[.int .i64 0, .int .i64 0] 73
  have C1 := chg_alloc (chg_refl (foot A (.slice (some ⟨b, 0, none⟩) (n + 1) cap)) W) (.cells #[.int .i64 0, .int .i64 0] 73)
  have HB := Hid.intro B1
  have HC := Hid.intro C1
  have ae := assert_entryn
  clear hp hn B1 C1 h1
  generalize g l 0 = p at *
  generalize fr f p = x at *
  go_enter Try.func40, Try.ntmps40
  go_wp2_with fail
  with_reducible refine PO.mono ?_
  rintro e w1 ⟨rfl, l', k1, k2, k3, k4⟩
  clear PO
  have nf : ¬ foot A (.slice (some ⟨b, 0, none⟩) (n + 1) cap) W.heap.size := fun hf => hf.elim (fun e => by omega) (fun e => by simp [Value.ownBlock] at e; omega)
  have b1 := blk_kept HB.out k4 nf
  have c0 : w1.cell? ⟨W.heap.size, 0, none⟩ = some (.int .i64 0) := by rw [blk_cell b1]; rfl
  have c1 : w1.cell? ⟨W.heap.size, 1, none⟩ = some (.int .i64 0) := by rw [blk_cell b1]; rfl
  have f0 := blk_free b1 0
  have f1 := blk_free b1 1
  have K := Hid.intro (chg_set (chg_set (chg_same HC.out k4) ⟨W.heap.size, 0, none⟩ (.int .i64 (p : Int)) (fun h => by simp at h)) ⟨W.heap.size, 1, none⟩ (.int .i64 x) (fun h => by simp at h))
  have Q1 := Hid.intro (qu_kept2n k1 W.heap.size (.int .i64 (p : Int)) (.int .i64 x) (by omega) (by omega))
  have K2 := Hid.intro k2
  have K3 := Hid.intro k3
  clear k1 k2 k3 k4 b1 nf HB HC zA zB
  go_wp2_with fail
  exact bodyPost_ret (v := .agg #[.int .i64 p, .int .i64 x]) (by simp [results, Try.results40, go_sem, c0, c1]) rfl ⟨rfl, l', Q1.out, K2.out, K3.out, K.out⟩
end Go.Proofs.Ytplalkhjjndffaa
