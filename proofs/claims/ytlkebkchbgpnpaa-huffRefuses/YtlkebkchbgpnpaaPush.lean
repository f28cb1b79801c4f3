/-
  Rows that make lays, cells of rows set anew; a heap in a list, by its steps up and down, and what comes out of it one after the other; entries in memory; elements appended to a row of the call's own, in a walk and in a region that draws: where the row then lies.
-/
import Derived.Test.YtlkebkchbgpnpaaOb
import Derived.Deep.OwnRows
import Derived.Deep.RegionLaw
namespace Go.Proofs.Ytlkebkchbgpnpaa
open Go.ChangeShapes Go.WideShapes Go.ChangeAt Go.RowKit
open Go.ChangeMaps (open_string shut_string)

theorem make_ints (t e : TypeId) (ht : Try.prog.underlying t = some (.slice e)) (hi : (Try.prog.info? e).map (fun i => (i.zero, i.size, i.bytes)) = some (some (.int .i64 0), 1, 8)) (n : Nat) (hn : n ≤ 100000) (W : World) :
    (Instr.makeSlice t (.int .i64 (n : Int)) (.int .i64 (n : Int))).run Try.prog W = .ok (.slice (some ⟨W.heap.size, 0, none⟩) n n) (W.alloc (.cells (madeCells #[.int .i64 0] n) e)) :=
  run_make_row' t e (.int .i64 0) 8 ht hi rfl .i64 .i64 n (by omega) (by omega) W
theorem made_ints (n : Nat) : (madeCells #[Value.int .i64 0] n).toList = ivs (List.replicate n 0) := by
  apply List.ext_getElem?
  intro i
  simp only [madeCells, ivs, Array.toList_map, Array.toList_range, List.getElem?_map, List.getElem?_replicate]
  by_cases h : i < n
  · simp [h, Nat.mod_one, iv]
  · simp [h]
theorem own_made_ints (W : World) (e n : Nat) (hn : n ≤ 100000) : (W.alloc (.cells (madeCells #[.int .i64 0] n) e)).ownsRow W.heap.size e 1 (.slice (some ⟨W.heap.size, 0, none⟩) n n) n (ivs (List.replicate n 0)) :=
  ⟨by simp [ivs], .inr ⟨_, n, _, rfl, Nat.le_refl _, blk_new _ _ _, Nat.le_refl _, by simp only [maxLen]; omega, by simp [madeCells], by rw [made_ints, List.take_of_length_le (by simp [ivs])]⟩⟩
/-- One cell of the row set anew. -/
theorem own_set {W : World} {base e size g n cap : Nat} {xs : List Value} (h : W.ownsRow base e size (.slice (some ⟨g, 0, none⟩) n cap) n xs) (j : Nat) (u : Value) :
    (W.setCell ⟨g, j, none⟩ u).ownsRow base e size (.slice (some ⟨g, 0, none⟩) n cap) n (xs.set j u) := by
  obtain ⟨h1, h2⟩ := h
  refine ⟨by simpa using h1, ?_⟩
  rcases h2 with ⟨h0, _⟩ | ⟨g', cap', cur, hv, hb, hg, hc, hm, hs, ht⟩
  · cases h0
  · injection hv with e1 e2 e3
    injection e1 with e1
    injection e1 with e1
    subst e1 e3
    refine .inr ⟨g, cap, cur.setIfInBounds j u, rfl, hb, blk_set hg j _, hc, hm, by simpa using hs, ?_⟩
    rw [Array.toList_setIfInBounds, List.take_set, ht]
theorem ivs_set (l : List Int) (i : Nat) (z : Int) : (ivs l).set i (.int .i64 z) = ivs (l.set i z) := by unfold ivs; rw [List.map_set]; rfl
theorem pvs_set (l : List (Int × Int)) (i : Nat) (c r : Int) : ((pvs l).set (i * 2) (.int .i64 c)).set (i * 2 + 1) (.int .u64 r) = pvs (l.set i (c, r)) := by
  induction l generalizing i with
  | nil => rfl
  | cons p l ih =>
    cases i with
    | zero => rfl
    | succ i =>
      have e : pvs (p :: l) = .int .i64 p.1 :: .int .u64 p.2 :: pvs l := rfl
      rw [e, show (i + 1) * 2 = i * 2 + 1 + 1 from by omega, List.set_cons_succ, List.set_cons_succ, List.set_cons_succ, List.set_cons_succ, ih]; rfl
/-- A cell of the row: it is there, and free. -/
theorem own_there {W : World} {base e size g n cap : Nat} {xs : List Value} (h : W.ownsRow base e size (.slice (some ⟨g, 0, none⟩) n cap) n xs) (j : Nat) (hj : j < n * size) :
    W.cell? ⟨g, j, none⟩ = xs[j]? ∧ (W.cell? ⟨g, j, none⟩).isSome = true ∧ W.frozen? ⟨g, j, none⟩ = false := by
  obtain ⟨h1, h2⟩ := h
  rcases h2 with ⟨h0, _⟩ | ⟨g', cap', cur, hv, hb, hg, hc, hm, hs, ht⟩
  · cases h0
  · injection hv with e1 e2 e3
    injection e1 with e1
    injection e1 with e1
    subst e1 e3
    have hx : W.cell? ⟨g, j, none⟩ = xs[j]? := by
      rw [blk_cell hg, ← ht, List.getElem?_take, if_pos hj]; simp
    refine ⟨hx, ?_, blk_free hg j⟩
    rw [hx, List.getElem?_eq_getElem (by omega)]; rfl
/-- What is set in one after the other. -/
theorem fill_step {α β : Type} (f : α → β) (z : β) (l : List α) (i : Nat) (h : i < l.length) : ((l.take i).map f ++ List.replicate (l.length - i) z).set i (f l[i]) = (l.take (i + 1)).map f ++ List.replicate (l.length - (i + 1)) z := by
  rw [List.set_append_right _ _ (by simp; omega), List.take_succ_eq_append_getElem h, List.map_append, List.append_assoc]
  have e : l.length - i = (l.length - (i + 1)) + 1 := by omega
  rw [e, List.replicate_succ]
  simp
  rw [show i - min i l.length = 0 from by omega]; rfl
theorem fill_done {α β : Type} (f : α → β) (z : β) (l : List α) : (l.take l.length).map f ++ List.replicate (l.length - l.length) z = l.map f := by simp
theorem fill_zero {α β : Type} (f : α → β) (z : β) (l : List α) : (l.take 0).map f ++ List.replicate (l.length - 0) z = List.replicate l.length z := by simp
theorem own_two {W : World} {base e g n cap : Nat} {xs : List Value} (h : W.ownsRow base e 2 (.slice (some ⟨g, 0, none⟩) n cap) n xs) (i : Nat) (hi : i < n) :
    ∃ u v, W.cell? ⟨g, i * 2, none⟩ = some u ∧ W.cell? ⟨g, i * 2 + 1, none⟩ = some v ∧ W.frozen? ⟨g, i * 2, none⟩ = false ∧ W.frozen? ⟨g, i * 2 + 1, none⟩ = false := by
  obtain ⟨_, s0, f0⟩ := own_there h (i * 2) (by omega)
  obtain ⟨_, s1, f1⟩ := own_there h (i * 2 + 1) (by omega)
  obtain ⟨u, hu⟩ := Option.isSome_iff_exists.1 s0
  obtain ⟨v, hv⟩ := Option.isSome_iff_exists.1 s1
  exact ⟨u, v, hu, hv, f0, f1⟩
theorem own_one {W : World} {base e g n cap : Nat} {xs : List Value} (h : W.ownsRow base e 1 (.slice (some ⟨g, 0, none⟩) n cap) n xs) (i : Nat) (hi : i < n) :
    ∃ u, W.cell? ⟨g, i, none⟩ = some u ∧ W.frozen? ⟨g, i, none⟩ = false := by
  obtain ⟨_, s0, f0⟩ := own_there h i (by omega)
  obtain ⟨u, hu⟩ := Option.isSome_iff_exists.1 s0
  exact ⟨u, hu, f0⟩

/-! ### places by two: a heap in a list -/
def g (l : List Nat) (i : Nat) : Nat := l.getD i 0
theorem g_eq (l : List Nat) (i : Nat) (h : i < l.length) : g l i = l[i] := by unfold g; rw [List.getD_eq_getElem?_getD, List.getElem?_eq_getElem h]; rfl
theorem g_mem (l : List Nat) (i : Nat) (h : i < l.length) : g l i ∈ l := by rw [g_eq l i h]; exact List.getElem_mem h
theorem mem_g {l : List Nat} {x : Nat} (h : x ∈ l) : ∃ i, i < l.length ∧ g l i = x := by
  obtain ⟨i, hi, e⟩ := List.getElem_of_mem h
  exact ⟨i, hi, by rw [g_eq l i hi]; exact e⟩
/-! ### the greatest first, of two alike the lesser place first -/
def fr (f : List Int) (p : Nat) : Int := f.getD p 0
def ltf (f : List Int) (p q : Nat) : Prop := fr f q < fr f p ∨ (fr f p = fr f q ∧ p < q)
def places (f : List Int) (n : Nat) : List Nat := (List.range n).filter (fun p => decide (0 < fr f p))
theorem places_succ (f : List Int) (n : Nat) : places f (n + 1) = if 0 < fr f n then places f n ++ [n] else places f n := by
  unfold places
  rw [List.range_succ, List.filter_append]
  by_cases h : 0 < fr f n
  · rw [if_pos h]; simp [h]
  · rw [if_neg h]; simp [h]
theorem places_mem (f : List Int) (n p : Nat) : p ∈ places f n ↔ p < n ∧ 0 < fr f p := by unfold places; simp
theorem places_nodup (f : List Int) (n : Nat) : (places f n).Nodup := List.Pairwise.filter _ List.nodup_range
def Ordered (f : List Int) (n : Nat) (l : List Nat) : Prop := l.Perm (places f n) ∧ l.Pairwise (fun a b => ¬ ltf f b a)
theorem ordered_mem {f : List Int} {n : Nat} {l : List Nat} (h : Ordered f n l) (p : Nat) : p ∈ l ↔ p < n ∧ 0 < fr f p := by rw [h.1.mem_iff, places_mem]
theorem ordered_nodup {f : List Int} {n : Nat} {l : List Nat} (h : Ordered f n l) : l.Nodup := h.1.nodup_iff.2 (places_nodup f n)
/-- A place set in where it belongs. -/
theorem ordered_ins {f : List Int} {n k : Nat} {l : List Nat} (h : Ordered f n l) (hn : 0 < fr f n) (hk : k ≤ l.length) (hd : ∀ b ∈ l.drop k, fr f b < fr f n) (he : k = 0 ∨ fr f n ≤ fr f (g l (k - 1))) :
    Ordered f (n + 1) (l.take k ++ n :: l.drop k) := by
  have hlt : ∀ p ∈ l, p < n := fun p hp => ((ordered_mem h p).1 hp).1
  have hsp : l.take k ++ l.drop k = l := List.take_append_drop k l
  have hpw := h.2
  rw [← hsp, List.pairwise_append] at hpw
  obtain ⟨p1, p2, p3⟩ := hpw
  refine ⟨?_, ?_⟩
  · rw [places_succ, if_pos hn]
    refine List.Perm.trans List.perm_middle ?_
    rw [hsp]
    exact (List.Perm.cons n h.1).trans (List.perm_append_singleton n _).symm
  · rw [List.pairwise_append, List.pairwise_cons]
    refine ⟨p1, ⟨fun b hb => ?_, p2⟩, fun a ha b hb => ?_⟩
    · have := hd b hb
      unfold ltf; omega
    · have aB : fr f n ≤ fr f a := by
        rcases he with rfl | he
        · simp at ha
        · obtain ⟨i, hi, e⟩ := mem_g ha
          rw [List.length_take] at hi
          have ge : g (l.take k) i = g l i := by unfold g; rw [List.getD_eq_getElem?_getD, List.getD_eq_getElem?_getD, List.getElem?_take, if_pos (by omega)]
          rw [ge] at e
          have hk1 : k - 1 < l.length := by omega
          by_cases hik : i = k - 1
          · rw [← e, hik]; exact he
          · have := List.pairwise_iff_getElem.1 h.2 i (k - 1) (by omega) hk1 (by omega)
            rw [← g_eq l i (by omega), ← g_eq l (k - 1) hk1, e] at this
            unfold ltf at this; omega
      have haN := hlt a (List.mem_of_mem_take ha)
      rcases List.mem_cons.1 hb with rfl | hb
      · unfold ltf; omega
      · exact p3 a ha b hb
theorem ordered_skip {f : List Int} {n : Nat} {l : List Nat} (h : Ordered f n l) (hn : ¬ 0 < fr f n) : Ordered f (n + 1) l := by
  refine ⟨?_, h.2⟩
  rw [places_succ, if_neg hn]; exact h.1
theorem ordered_zero (f : List Int) : Ordered f 0 [] := ⟨List.Perm.refl _, List.Pairwise.nil⟩

def foot (A : Nat) (v : Value) (k : Nat) : Prop := k = A ∨ v.ownBlock = some k

theorem run_push {P : Program} (w : World) (t ty e : TypeId) (i : TypeInfo) (z : Value) (size bytes : Nat) (ht : P.underlying t = some (.slice e)) (hi : P.info? e = some i) (hz : i.zero = some z)
    (hsize : i.size = size) (hby : i.bytes = bytes) (hzs : z.cells.size = size) (hsz : 0 < size) (h16 : bytes ≤ 64)
    (v : Value) (n : Nat) (xs : List Value) (hown : w.ownsRow 0 e size v n xs)
    (a : Addr) (m c : Nat) (news : List Value) (hl : news.length = m * size) (hnews : ∀ j u, news[j]? = some u → w.cell? (a.add j) = some u) (h1 : ∀ u ∈ news, u.oneCell' = true) (hn : n + m ≤ 100000) :
    ∃ v' w', (Builtin.append_ #[t, t] ty #[v, .slice (some a) m c]).run P w = .ok v' w' ∧ w'.ownsRow 0 e size v' (n + m) (xs ++ news) ∧ w.grownBy w' v.ownBlock ∧ Moved w v v' := by
  have hb : (n + m) * bytes ≤ 140737488355328 := by
    have : (n + m) * bytes ≤ 100000 * 64 := Nat.mul_le_mul hn h16
    omega
  obtain ⟨v', w', r0, r1, r2, _, r4⟩ := run_append_own_at (P := P) w 0 t ty e i z size bytes ht hi hz hsize hby hzs hsz v n xs hown a m c news hl hnews h1 (by simp only [maxLen]; omega) hb (Nat.zero_le _)
  refine ⟨v', w', r0, r1, r2, fun k hk => ?_⟩
  rcases r4 with r4 | r4
  · left; rw [← r4]; exact hk
  · right; rw [hk] at r4; injection r4 with r4; omega
/-- Elements behind a row, as one step of a region that draws. -/
theorem step_push {P : Program} {ops : Array Oper} {o : Oper} {a : Act} {w : World} {K : Act → World → Prop} {Q : Exit → Act → World → Prop} {E : Prop}
    (hg : o.guard = none) (s x : Operand) (t : TypeId) (hop : o.op = Op.call { callee := Callee.builtin Builtin.append, args := #[s, x], argTypes := #[t, t] })
    (e : TypeId) (i : TypeInfo) (z : Value) (size bytes : Nat) (ht : P.underlying t = some (.slice e)) (hi : P.info? e = some i) (hz : i.zero = some z)
    (hsize : i.size = size) (hby : i.bytes = bytes) (hzs : z.cells.size = size) (hsz : 0 < size) (h16 : bytes ≤ 64)
    (v : Value) (n : Nat) (xs : List Value) (hs : a.eval s = v) (hown : w.ownsRow 0 e size v n xs)
    (ad : Addr) (m c : Nat) (news : List Value) (hx : a.eval x = .slice (some ad) m c) (hl : news.length = m * size) (hnews : ∀ j u, news[j]? = some u → w.cell? (ad.add j) = some u) (h1 : ∀ u ∈ news, u.oneCell' = true) (hn : n + m ≤ 100000)
    (hK : ∀ v' w', w'.ownsRow 0 e size v' (n + m) (xs ++ news) → w.grownBy w' v.ownBlock → Moved w v v' → K (a.put o.dst v') w') :
    if Region.wanted o (yielded ops a.tmps) = true then Oper.wp P o a w K Q else E := by
  have hw : Region.wanted o (yielded ops a.tmps) = true := by simp [Region.wanted, hg]
  rw [if_pos hw]
  obtain ⟨v', w', hrun, r1, r2, r3⟩ := run_push (P := P) w t o.type e i z size bytes ht hi hz hsize hby hzs hsz h16 v n xs hown ad m c news hl hnews h1 hn
  unfold Oper.wp
  simp [execOp, hop, resolve, invoke, builtin, hs, hx, hrun, Result.andThen]
  exact hK v' w' r1 r2 r3
theorem wpList_push {P : Program} (w : World) {ops : Array Oper} {rest : List Oper} {o : Oper} {a : Act} {Q : Exit → Act → World → Prop}
    (hg : o.guard = none) (s x : Operand) (t : TypeId) (hop : o.op = Op.call { callee := Callee.builtin Builtin.append, args := #[s, x], argTypes := #[t, t] })
    (e : TypeId) (i : TypeInfo) (z : Value) (size bytes : Nat) (ht : P.underlying t = some (.slice e)) (hi : P.info? e = some i) (hz : i.zero = some z)
    (hsize : i.size = size) (hby : i.bytes = bytes) (hzs : z.cells.size = size) (hsz : 0 < size) (h16 : bytes ≤ 64)
    (v : Value) (n : Nat) (xs : List Value) (hs : a.eval s = v) (hown : w.ownsRow 0 e size v n xs)
    (ad : Addr) (m c : Nat) (news : List Value) (hx : a.eval x = .slice (some ad) m c) (hl : news.length = m * size) (hnews : ∀ j u, news[j]? = some u → w.cell? (ad.add j) = some u) (h1 : ∀ u ∈ news, u.oneCell' = true) (hn : n + m ≤ 100000)
    (hK : ∀ v' w', w'.ownsRow 0 e size v' (n + m) (xs ++ news) → w.grownBy w' v.ownBlock → Moved w v v' → wpList P ops Q rest (a.put o.dst v') w') :
    wpList P ops Q (o :: rest) a w := by
  refine wpList_plain hg fun K hK' => ?_
  obtain ⟨v', w', hr, r1, r2, r3⟩ := run_push (P := P) w t o.type e i z size bytes ht hi hz hsize hby hzs hsz h16 v n xs hown ad m c news hl hnews h1 hn
  unfold Oper.wp execOp
  simp only [hop, resolve, invoke, builtin, Sem.run_bind, Sem.run_pure, Result.andThen_ok, List.map_toArray, List.map_cons, List.map_nil, hs, hx, hr]
  exact hK' _ _ (hK v' w' r1 r2 r3)
end Go.Proofs.Ytlkebkchbgpnpaa
