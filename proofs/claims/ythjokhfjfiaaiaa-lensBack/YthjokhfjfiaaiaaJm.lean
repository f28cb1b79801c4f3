/-
  What lies behind any slice appended to a row of the call's own; what growing leaves as it was.
-/
import Derived.Test.YthjokhfjfiaaiaaSa
import Derived.Laws.OwnMore
namespace Go.Proofs.Ythjokhfjfiaaiaa
open Go.ChangeShapes Go.WideShapes Go.ChangeAt Go.RowKit
open Go.ChangeMaps (open_string shut_string)

/-- Whatever is behind a slice (nil too) appended to a row of the call's own. -/
theorem run_pushS {P : Program} (w : World) (t ty e : TypeId) (i : TypeInfo) (z : Value) (size bytes : Nat) (ht : P.underlying t = some (.slice e)) (hi : P.info? e = some i) (hz : i.zero = some z)
    (hsize : i.size = size) (hby : i.bytes = bytes) (hzs : z.cells.size = size) (hsz : 0 < size) (h16 : bytes ≤ 64)
    (v : Value) (n : Nat) (xs : List Value) (hown : w.ownsRow 0 e size v n xs)
    (a : Option Addr) (m c : Nat) (news : List Value) (hl : news.length = m * size) (hc0 : a = none → c = 0 ∧ m = 0) (hnews : ∀ x, a = some x → ∀ j u, news[j]? = some u → w.cell? (x.add j) = some u) (h1 : ∀ u ∈ news, u.oneCell' = true) (hn : n + m ≤ 100000) :
    ∃ v' w', (Builtin.append_ #[t, t] ty #[v, .slice a m c]).run P w = .ok v' w' ∧ w'.ownsRow 0 e size v' (n + m) (xs ++ news) ∧ w.grownBy w' v.ownBlock ∧ Moved w v v' := by
  cases a with
  | some x => exact run_push w t ty e i z size bytes ht hi hz hsize hby hzs hsz h16 v n xs hown x m c news hl (hnews x rfl) h1 hn
  | none =>
    obtain ⟨rfl, rfl⟩ := hc0 rfl
    have hnil : news = [] := List.eq_nil_of_length_eq_zero (by simpa using hl)
    subst hnil
    refine ⟨v, w, run_append_owned_none (P := P) w 0 t ty e i size ht hi v n xs hown, ?_, ⟨rfl, rfl, rfl, Nat.le_refl _, fun _ _ _ => rfl⟩, fun k hk => .inl hk⟩
    rw [List.append_nil]; exact hown
theorem wpList_pushS {P : Program} (w : World) {ops : Array Oper} {rest : List Oper} {o : Oper} {a : Act} {Q : Exit → Act → World → Prop}
    (hg : o.guard = none) (s x : Operand) (t : TypeId) (hop : o.op = Op.call { callee := Callee.builtin Builtin.append, args := #[s, x], argTypes := #[t, t] })
    (e : TypeId) (i : TypeInfo) (z : Value) (size bytes : Nat) (ht : P.underlying t = some (.slice e)) (hi : P.info? e = some i) (hz : i.zero = some z)
    (hsize : i.size = size) (hby : i.bytes = bytes) (hzs : z.cells.size = size) (hsz : 0 < size) (h16 : bytes ≤ 64)
    (v : Value) (n : Nat) (xs : List Value) (hs : a.eval s = v) (hown : w.ownsRow 0 e size v n xs)
    (ad : Option Addr) (m c : Nat) (news : List Value) (hx : a.eval x = .slice ad m c) (hl : news.length = m * size) (hc0 : ad = none → c = 0 ∧ m = 0) (hnews : ∀ x, ad = some x → ∀ j u, news[j]? = some u → w.cell? (x.add j) = some u) (h1 : ∀ u ∈ news, u.oneCell' = true) (hn : n + m ≤ 100000)
    (hK : ∀ v' w', w'.ownsRow 0 e size v' (n + m) (xs ++ news) → w.grownBy w' v.ownBlock → Moved w v v' → wpList P ops Q rest (a.put o.dst v') w') :
    wpList P ops Q (o :: rest) a w := by
  refine wpList_plain hg fun K hK' => ?_
  obtain ⟨v', w', hr, r1, r2, r3⟩ := run_pushS (P := P) w t o.type e i z size bytes ht hi hz hsize hby hzs hsz h16 v n xs hown ad m c news hl hc0 hnews h1 hn
  unfold Oper.wp execOp
  simp only [hop, resolve, invoke, builtin, Sem.run_bind, Sem.run_pure, Result.andThen_ok, List.map_toArray, List.map_cons, List.map_nil, hs, hx, hr]
  exact hK' _ _ (hK v' w' r1 r2 r3)
theorem step_pushS {P : Program} {ops : Array Oper} {o : Oper} {a : Act} {w : World} {K : Act → World → Prop} {Q : Exit → Act → World → Prop} {E : Prop}
    (hg : o.guard = none) (s x : Operand) (t : TypeId) (hop : o.op = Op.call { callee := Callee.builtin Builtin.append, args := #[s, x], argTypes := #[t, t] })
    (e : TypeId) (i : TypeInfo) (z : Value) (size bytes : Nat) (ht : P.underlying t = some (.slice e)) (hi : P.info? e = some i) (hz : i.zero = some z)
    (hsize : i.size = size) (hby : i.bytes = bytes) (hzs : z.cells.size = size) (hsz : 0 < size) (h16 : bytes ≤ 64)
    (v : Value) (n : Nat) (xs : List Value) (hs : a.eval s = v) (hown : w.ownsRow 0 e size v n xs)
    (ad : Option Addr) (m c : Nat) (news : List Value) (hx : a.eval x = .slice ad m c) (hl : news.length = m * size) (hc0 : ad = none → c = 0 ∧ m = 0) (hnews : ∀ x, ad = some x → ∀ j u, news[j]? = some u → w.cell? (x.add j) = some u) (h1 : ∀ u ∈ news, u.oneCell' = true) (hn : n + m ≤ 100000)
    (hK : ∀ v' w', w'.ownsRow 0 e size v' (n + m) (xs ++ news) → w.grownBy w' v.ownBlock → Moved w v v' → K (a.put o.dst v') w') :
    if Region.wanted o (yielded ops a.tmps) = true then Oper.wp P o a w K Q else E := by
  have hw : Region.wanted o (yielded ops a.tmps) = true := by simp [Region.wanted, hg]
  rw [if_pos hw]
  obtain ⟨v', w', hrun, r1, r2, r3⟩ := run_pushS (P := P) w t o.type e i z size bytes ht hi hz hsize hby hzs hsz h16 v n xs hown ad m c news hl hc0 hnews h1 hn
  unfold Oper.wp
  simp [execOp, hop, resolve, invoke, builtin, hs, hx, hrun, Result.andThen]
  exact hK v' w' r1 r2 r3
theorem ivs_one (l : List Int) : ∀ u ∈ ivs l, u.oneCell' = true := by
  intro u hu
  obtain ⟨z, _, rfl⟩ := List.mem_map.1 hu
  rfl
theorem pvs_one (l : List (Int × Int)) : ∀ u ∈ pvs l, u.oneCell' = true := by
  intro u hu
  obtain ⟨z, _, hz⟩ := List.mem_flatMap.1 hu
  simp [pv] at hz
  rcases hz with rfl | rfl <;> rfl
theorem ri_cells {W : World} {a : Option Addr} {n : Nat} {zs : List Int} (h : RI W a n zs) (x : Addr) (hx : a = some x) : ∀ j u, (ivs zs)[j]? = some u → W.cell? (x.add j) = some u := by
  intro j u hu
  obtain ⟨hj, _⟩ := List.getElem?_eq_some_iff.1 hu
  have hj' : j < zs.length := by simpa [ivs] using hj
  obtain ⟨y, hy, hc⟩ := h.2 (by have := h.1; omega)
  rw [hx] at hy
  injection hy with hy
  subst hy
  rw [hc j hj', ← hu]
  simp [ivs, iv, hj']
theorem rp_cells {W : World} {a : Option Addr} {n : Nat} {ps : List (Int × Int)} (h : RP W a n ps) (x : Addr) (hx : a = some x) : ∀ j u, (pvs ps)[j]? = some u → W.cell? (x.add j) = some u := by
  intro j u hu
  obtain ⟨hj, _⟩ := List.getElem?_eq_some_iff.1 hu
  rw [pvs_len] at hj
  obtain ⟨y, hy, hc⟩ := h.2 (by have := h.1; omega)
  rw [hx] at hy
  injection hy with hy
  subst hy
  obtain ⟨c0, c1⟩ := hc (j / 2) (by omega)
  rcases Nat.mod_two_eq_zero_or_one j with e | e
  · have h2 := pvs_fst ps (j / 2) (by omega)
    rw [show j / 2 * 2 = j from by omega] at h2 c0
    rw [c0, ← hu, h2]
  · have h2 := pvs_snd ps (j / 2) (by omega)
    rw [show j / 2 * 2 + 1 = j from by omega] at h2 c1
    rw [c1, ← hu, h2]
theorem ivs_append (a b : List Int) : ivs (a ++ b) = ivs a ++ ivs b := by simp [ivs]
theorem own_empty (w : World) (e size : Nat) : (w.alloc (.cells #[] e)).ownsRow w.heap.size e size (.slice (some ⟨w.heap.size, 0, none⟩) 0 0) 0 [] :=
  ⟨by simp, .inr ⟨w.heap.size, 0, #[], rfl, Nat.le_refl _, blk_new w #[] e, Nat.le_refl _, by decide, by simp, by simp⟩⟩
theorem none_none {α : Type} {p q : Prop} {x : α} (h : some x = none) : p ∧ q := by cases h
theorem below_grown {B : Nat} {a b c : World} {row : Option Nat} (h : Below B a b) (g : b.grownBy c row) (hs : B ≤ b.heap.size) (hB : ∀ k, row = some k → B ≤ k) : Below B a c :=
  ⟨g.os.trans h.os, g.tape.trans h.tape, g.output.trans h.output, Nat.le_trans h.size g.size, fun k hk => (g.block k (by omega) (fun e => by have := hB k e.symm; omega)).trans (h.block k hk)⟩
theorem blk_grown {A : Nat} {cs : Array Value} {t : TypeId} {b c : World} {row : Option Nat} (h : Blk b A cs t) (g : b.grownBy c row) (hne : some A ≠ row) : Blk c A cs t := (g.block A (blk_lt h) hne).trans h
theorem two_at {W : World} {A : Nat} {x y : Value} {t : TypeId} (h : Blk W A #[x, y] t) : ∀ a, some (⟨A, 0, none⟩ : Addr) = some a → ∀ j u, [x, y][j]? = some u → W.cell? (a.add j) = some u := by
  intro a ha j u hj
  injection ha with ha
  subst ha
  rw [Addr.add_lit, blk_cell h, ← hj]
  simp
end Go.Proofs.Ythjokhfjfiaaiaa
