/-
  What lies behind any slice appended to a row of the call's own; two lists together, and turned round.
-/
import Derived.Test.YtnnecccnoemkpaaSa
import Derived.Laws.OwnMore
namespace Go.Proofs.Ytnnecccnoemkpaa
open Go.ChangeShapes Go.WideShapes Go.ChangeAt Go.RowKit
open Go.ChangeMaps (open_string shut_string)

/-- Whatever is behind a slice (nil too) appended to a row of the call's own. -/
theorem run_pushS {P : Program} (w : World) (t ty e : TypeId) (i : TypeInfo) (z : Value) (size bytes : Nat) (ht : P.underlying t = some (.slice e)) (hi : P.info? e = some i) (hz : i.zero = some z)
    (hsize : i.size = size) (hby : i.bytes = bytes) (hzs : z.cells.size = size) (hsz : 0 < size) (h16 : bytes ≤ 16)
    (v : Value) (n : Nat) (xs : List Value) (hown : w.ownsRow 0 e size v n xs)
    (a : Option Addr) (m c : Nat) (news : List Value) (hl : news.length = m * size) (hc0 : a = none → c = 0 ∧ m = 0) (hnews : ∀ x, a = some x → ∀ j u, news[j]? = some u → w.cell? (x.add j) = some u) (h1 : ∀ u ∈ news, u.oneCell' = true) (hn : n + m ≤ 100000) :
    ∃ v' w', (Builtin.append_ #[t, t] ty #[v, .slice a m c]).run P w = .ok v' w' ∧ w'.ownsRow 0 e size v' (n + m) (xs ++ news) ∧ w.grownBy w' v.ownBlock ∧ Moved w v v' := by
  cases a with
  | some x => exact run_push w t ty e i z size bytes ht hi hz hsize hby hzs hsz h16 v n xs hown x m c news hl (hnews x rfl) h1 hn
  | none =>
    obtain ⟨rfl, rfl⟩ := hc0 rfl
    have hnil : news = [] := List.eq_nil_of_length_eq_zero (by simpa using hl)
    subst hnil
    refine ⟨v, w, run_append_owned_none (P := P) w 0 t ty e i size ht hi v n xs hown, ?_, ⟨rfl, rfl, rfl, Nat.le_refl _, fun _ _ _ => rfl⟩, fun k hk => .inl hk⟩
    rw [List.append_nil]; exact hown
theorem wpList_pushS {P : Program} (w : World) {ops : Array Oper} {rest : List Oper} {o : Oper} {a : Act} {Q : Exit → Act → World → Prop}
    (hg : o.guard = none) (s x : Operand) (t : TypeId) (hop : o.op = Op.call { callee := Callee.builtin Builtin.append, args := #[s, x], argTypes := #[t, t] })
    (e : TypeId) (i : TypeInfo) (z : Value) (size bytes : Nat) (ht : P.underlying t = some (.slice e)) (hi : P.info? e = some i) (hz : i.zero = some z)
    (hsize : i.size = size) (hby : i.bytes = bytes) (hzs : z.cells.size = size) (hsz : 0 < size) (h16 : bytes ≤ 16)
    (v : Value) (n : Nat) (xs : List Value) (hs : a.eval s = v) (hown : w.ownsRow 0 e size v n xs)
    (ad : Option Addr) (m c : Nat) (news : List Value) (hx : a.eval x = .slice ad m c) (hl : news.length = m * size) (hc0 : ad = none → c = 0 ∧ m = 0) (hnews : ∀ x, ad = some x → ∀ j u, news[j]? = some u → w.cell? (x.add j) = some u) (h1 : ∀ u ∈ news, u.oneCell' = true) (hn : n + m ≤ 100000)
    (hK : ∀ v' w', w'.ownsRow 0 e size v' (n + m) (xs ++ news) → w.grownBy w' v.ownBlock → Moved w v v' → wpList P ops Q rest (a.put o.dst v') w') :
    wpList P ops Q (o :: rest) a w := by
  refine wpList_plain hg fun K hK' => ?_
  obtain ⟨v', w', hr, r1, r2, r3⟩ := run_pushS (P := P) w t o.type e i z size bytes ht hi hz hsize hby hzs hsz h16 v n xs hown ad m c news hl hc0 hnews h1 hn
  unfold Oper.wp execOp
  simp only [hop, resolve, invoke, builtin, Sem.run_bind, Sem.run_pure, Result.andThen_ok, List.map_toArray, List.map_cons, List.map_nil, hs, hx, hr]
  exact hK' _ _ (hK v' w' r1 r2 r3)
theorem step_pushS {P : Program} {ops : Array Oper} {o : Oper} {a : Act} {w : World} {K : Act → World → Prop} {Q : Exit → Act → World → Prop} {E : Prop}
    (hg : o.guard = none) (s x : Operand) (t : TypeId) (hop : o.op = Op.call { callee := Callee.builtin Builtin.append, args := #[s, x], argTypes := #[t, t] })
    (e : TypeId) (i : TypeInfo) (z : Value) (size bytes : Nat) (ht : P.underlying t = some (.slice e)) (hi : P.info? e = some i) (hz : i.zero = some z)
    (hsize : i.size = size) (hby : i.bytes = bytes) (hzs : z.cells.size = size) (hsz : 0 < size) (h16 : bytes ≤ 16)
    (v : Value) (n : Nat) (xs : List Value) (hs : a.eval s = v) (hown : w.ownsRow 0 e size v n xs)
    (ad : Option Addr) (m c : Nat) (news : List Value) (hx : a.eval x = .slice ad m c) (hl : news.length = m * size) (hc0 : ad = none → c = 0 ∧ m = 0) (hnews : ∀ x, ad = some x → ∀ j u, news[j]? = some u → w.cell? (x.add j) = some u) (h1 : ∀ u ∈ news, u.oneCell' = true) (hn : n + m ≤ 100000)
    (hK : ∀ v' w', w'.ownsRow 0 e size v' (n + m) (xs ++ news) → w.grownBy w' v.ownBlock → Moved w v v' → K (a.put o.dst v') w') :
    if Region.wanted o (yielded ops a.tmps) = true then Oper.wp P o a w K Q else E := by
  have hw : Region.wanted o (yielded ops a.tmps) = true := by simp [Region.wanted, hg]
  rw [if_pos hw]
  obtain ⟨v', w', hrun, r1, r2, r3⟩ := run_pushS (P := P) w t o.type e i z size bytes ht hi hz hsize hby hzs hsz h16 v n xs hown ad m c news hl hc0 hnews h1 hn
  unfold Oper.wp
  simp [execOp, hop, resolve, invoke, builtin, hs, hx, hrun, Result.andThen]
  exact hK v' w' r1 r2 r3
theorem ivs_one (l : List Int) : ∀ u ∈ ivs l, u.oneCell' = true := by
  intro u hu
  obtain ⟨z, _, rfl⟩ := List.mem_map.1 hu
  rfl
theorem pvs_one (l : List (Int × Int)) : ∀ u ∈ pvs l, u.oneCell' = true := by
  intro u hu
  obtain ⟨z, _, hz⟩ := List.mem_flatMap.1 hu
  simp [pv] at hz
  rcases hz with rfl | rfl <;> rfl
theorem ri_cells {W : World} {a : Option Addr} {n : Nat} {zs : List Int} (h : RI W a n zs) (x : Addr) (hx : a = some x) : ∀ j u, (ivs zs)[j]? = some u → W.cell? (x.add j) = some u := by
  intro j u hu
  obtain ⟨hj, _⟩ := List.getElem?_eq_some_iff.1 hu
  have hj' : j < zs.length := by simpa [ivs] using hj
  obtain ⟨y, hy, hc⟩ := h.2 (by have := h.1; omega)
  rw [hx] at hy
  injection hy with hy
  subst hy
  rw [hc j hj', ← hu]
  simp [ivs, iv, hj']
theorem rp_cells {W : World} {a : Option Addr} {n : Nat} {ps : List (Int × Int)} (h : RP W a n ps) (x : Addr) (hx : a = some x) : ∀ j u, (pvs ps)[j]? = some u → W.cell? (x.add j) = some u := by
  intro j u hu
  obtain ⟨hj, _⟩ := List.getElem?_eq_some_iff.1 hu
  rw [pvs_len] at hj
  obtain ⟨y, hy, hc⟩ := h.2 (by have := h.1; omega)
  rw [hx] at hy
  injection hy with hy
  subst hy
  obtain ⟨c0, c1⟩ := hc (j / 2) (by omega)
  rcases Nat.mod_two_eq_zero_or_one j with e | e
  · have h2 := pvs_fst ps (j / 2) (by omega)
    rw [show j / 2 * 2 = j from by omega] at h2 c0
    rw [c0, ← hu, h2]
  · have h2 := pvs_snd ps (j / 2) (by omega)
    rw [show j / 2 * 2 + 1 = j from by omega] at h2 c1
    rw [c1, ← hu, h2]
theorem ivs_append (a b : List Int) : ivs (a ++ b) = ivs a ++ ivs b := by simp [ivs]
theorem own_empty (w : World) (e size : Nat) : (w.alloc (.cells #[] e)).ownsRow w.heap.size e size (.slice (some ⟨w.heap.size, 0, none⟩) 0 0) 0 [] :=
  ⟨by simp, .inr ⟨w.heap.size, 0, #[], rfl, Nat.le_refl _, blk_new w #[] e, Nat.le_refl _, by decide, by simp, by simp⟩⟩
/-! ### of two lists together, in whatever order -/
theorem cl_append (a b : List (Int × Int)) (c : Nat) : cl (a ++ b) c = cl a c + cl b c := by unfold cl; exact List.countP_append
theorem cnt_perm {a b : List (Int × Int)} (h : a.Perm b) : cnt a = cnt b := by
  unfold cnt
  apply List.map_congr_left
  intro c _
  show ((cl a c : Nat) : Int) = _
  unfold cl; rw [h.countP_eq]
def rot (zs : List Int) (t i : Nat) : List Int := (List.range i).map (fun k => zs.getD ((k + t) % zs.length) 0)
theorem rot_succ (zs : List Int) (t i : Nat) : rot zs t (i + 1) = rot zs t i ++ [zs.getD ((i + t) % zs.length) 0] := by
  unfold rot; rw [List.range_succ, List.map_append]; rfl
theorem rot_len (zs : List Int) (t i : Nat) : (rot zs t i).length = i := by simp [rot]
theorem rot_all (zs : List Int) (t : Nat) : rot zs t zs.length = zs.drop (t % zs.length) ++ zs.take (t % zs.length) := by
  by_cases h0 : zs.length = 0
  · have : zs = [] := List.eq_nil_of_length_eq_zero h0
    subst this; simp [rot]
  have hN : 0 < zs.length := by omega
  have ht := Nat.mod_lt t hN
  apply List.ext_getElem?
  intro i
  by_cases hi : i < zs.length
  · unfold rot
    rw [List.getElem?_map, List.getElem?_range hi]
    have hm : (i + t) % zs.length = if i + t % zs.length < zs.length then i + t % zs.length else i + t % zs.length - zs.length := by
      rw [Nat.add_mod, Nat.mod_eq_of_lt hi]
      split
      · rename_i h; exact Nat.mod_eq_of_lt h
      · rename_i h
        rw [Nat.mod_eq_sub_mod (by omega), Nat.mod_eq_of_lt (by omega)]
    show some (zs.getD ((i + t) % zs.length) 0) = _
    rw [hm, List.getD_eq_getElem?_getD]
    split
    · rename_i h
      rw [List.getElem?_append_left (by rw [List.length_drop]; omega), List.getElem?_drop, Nat.add_comm (t % zs.length) i, List.getElem?_eq_getElem h]; rfl
    · rename_i h
      rw [List.getElem?_append_right (by rw [List.length_drop]; omega), List.length_drop, List.getElem?_take, if_pos (by omega), show i - (zs.length - t % zs.length) = i + t % zs.length - zs.length from by omega, List.getElem?_eq_getElem (by omega)]; rfl
  · rw [List.getElem?_eq_none (by rw [rot_len]; omega), List.getElem?_eq_none (by rw [List.length_append, List.length_drop, List.length_take]; omega)]
theorem rot_perm (zs : List Int) (t : Nat) : (rot zs t zs.length).Perm zs := by
  rw [rot_all]
  refine List.perm_append_comm.trans ?_
  rw [List.take_append_drop]
theorem rot_mem (zs : List Int) (t i : Nat) (h : FI zs) : FI (rot zs t i) := by
  intro z hz
  obtain ⟨k, _, rfl⟩ := List.mem_map.1 hz
  rw [List.getD_eq_getElem?_getD]
  by_cases hk : (k + t) % zs.length < zs.length
  · rw [List.getElem?_eq_getElem hk]; exact h _ (List.getElem_mem hk)
  · rw [List.getElem?_eq_none (by omega)]; simp
end Go.Proofs.Ytnnecccnoemkpaa
