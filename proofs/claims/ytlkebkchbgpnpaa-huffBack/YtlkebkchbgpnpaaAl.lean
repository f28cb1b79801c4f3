/-
  Packages as numbers, tables of packages, and queues of them in memory; the queue's own methods: what is called through the interface, Len, Less, Swap, Push; push and Pop of the heap, and the queue's next: what comes out, and what is left; order comes out of the heap: the places whose number is above nought, the greatest first, for every list of a thousand at the most; whether two lists of numbers are one; what lies behind any slice appended to a row of the call's own; what growing leaves as it was; a queue of two lists of packages; packages by two; the lengths that the cheapest packages say are those of the splits; a row of singles, one for each of order's classes; whether lengths may be asked for; lengths put at their classes' places; lengths: of whatever frequencies and limit, or the error; the document's example: awake; lengths and frequencies at their places; classes alike often; each more than all ahead together; what holds of the lengths at their places: costs, bounds, lengths that may be; classes that come alike often: the walk of MergeFlat; lengths that may be: the reference's MayLens; codes by their lengths: whole numbers and lists alone; no Go in sight; codes by their lengths: whole numbers and lists alone; no Go in sight; shares and May: of whatever lengths; the reference's MayLens: of whatever lengths; four bits read by a method value; one length, or a row of noughts; one length, or a row of noughts; how reading goes on; the document's example: awake; the document's example; canonAll's walk: whether any lengths may be, their codes, or the error.
-/
import Derived.Test.YtlkebkchbgpnpaaPs
import Derived.Test.YtlkebkchbgpnpaaPush
import Derived.Test.YtlkebkchbgpnpaaOb
import Derived.Test.YtlkebkchbgpnpaaBu
import Derived.Handy
import Derived.Deep.QuietTactic
import Derived.Deep.RegionWith
import Derived.OwnWalk
import Derived.BigQuiet
import Derived.Deep.RegionHeld3
import Derived.Laws.OwnMore
import Derived.Lib.AppendZeros
import Derived.Laws.BitsAllLaws
import Derived.Laws.IdiomCopy
import Derived.BigRegion
namespace Go.Proofs.Ytlkebkchbgpnpaa
open Go.ChangeShapes Go.WideShapes Go.ChangeAt Go.RowKit
open Go.ChangeMaps (open_string shut_string)

/-! ### packages: what they cost, and how often each class is in them, as one number -/
/-- A package in memory: what it costs, where its times lie, and what they are. -/
structure Pk where
  c : Nat
  b : Nat
  cap : Nat
  ts : List Nat
/-! ### packages in memory -/
def ni (l : List Nat) : List Value := ivs (l.map Int.ofNat)
theorem ni_len (l : List Nat) : (ni l).length = l.length := by simp [ni, ivs]
theorem ni_at (l : List Nat) (j : Nat) (hj : j < l.length) : (ni l)[j]? = some (.int .i64 (l[j] : Int)) := by simp [ni, ivs, iv, hj]
theorem ni_set (l : List Nat) (i z : Nat) : (ni l).set i (.int .i64 (z : Int)) = ni (l.set i z) := by unfold ni; rw [ivs_set, List.map_set]; rfl
def pcv (N : Nat) (p : Pk) : Value := .slice (some ⟨p.b, 0, none⟩) N p.cap
theorem drewN_chg (W : World) (k : Nat) : Chg (fun _ => False) W (W.drewN k) := chg_drewN (chg_refl _ _) k
theorem drew_chg (W : World) : Chg (fun _ => False) W W.drew := chg_drew (chg_refl _ _)
theorem own_drew {W : World} {base e size : Nat} {v : Value} {n : Nat} {xs : List Value} (h : W.ownsRow base e size v n xs) : W.drew.ownsRow base e size v n xs :=
  own_kept (S := fun _ => False) h (drew_chg W) (fun _ _ h => h)
theorem chg_in {a W : World} {b : Nat} (h : Chg (· = b) a W) (j : Nat) (u : Value) : Chg (· = b) a (W.setCell ⟨b, j, none⟩ u) := chg_set h _ _ (fun _ => rfl)
theorem own_slice {W : World} {base e size : Nat} {v : Value} {n : Nat} {xs : List Value} (h : W.ownsRow base e size v n xs) (hn : 0 < n) : ∃ b cap, v = .slice (some ⟨b, 0, none⟩) n cap := by
  rcases h.2 with ⟨_, h0⟩ | ⟨b, cap, cur, hv, _⟩
  · omega
  · exact ⟨b, cap, hv⟩
def nis (l : List Nat) : List Value := ivs (l.map Int.ofNat)
theorem nis_len (l : List Nat) : (nis l).length = l.length := by simp [nis, ivs]
theorem own_up {W : World} {base B e size : Nat} {v : Value} {n : Nat} {xs : List Value} (h : W.ownsRow base e size v n xs) (hB : ∀ k, v.ownBlock = some k → B ≤ k) : W.ownsRow B e size v n xs := by
  refine ⟨h.1, ?_⟩
  rcases h.2 with hn | ⟨g, cap, cur, hv, hg, rest⟩
  · exact .inl hn
  · exact .inr ⟨g, cap, cur, hv, hB g (by rw [hv]; rfl), rest⟩
def From (B : Nat) (v : Value) : Prop := ∀ k, v.ownBlock = some k → B ≤ k
theorem from_moved {B : Nat} {W : World} {v v' : Value} (h : From B v) (m : Moved W v v') (hB : B ≤ W.heap.size) : From B v' := fun k hk => (m k hk).elim (h k) (fun e => Nat.le_trans hB e)
theorem places_le (f : List Int) (i : Nat) : (places f i).length ≤ i := by
  unfold places
  have := List.length_filter_le (fun p => decide (0 < fr f p)) (List.range i)
  simpa using this
theorem fr_at (f : List Int) (i : Nat) (h : i < f.length) : fr f i = f[i] := by unfold fr; rw [List.getD_eq_getElem?_getD, List.getElem?_eq_getElem h]; rfl


theorem take_snoc {α : Type} (l : List α) (i : Nat) (h : i < l.length) : l.take (i + 1) = l.take i ++ [l[i]] := by rw [List.take_succ_eq_append_getElem h]

/-- Whatever is behind a slice (nil too) appended to a row of the call's own. -/
theorem run_pushS {P : Program} (w : World) (t ty e : TypeId) (i : TypeInfo) (z : Value) (size bytes : Nat) (ht : P.underlying t = some (.slice e)) (hi : P.info? e = some i) (hz : i.zero = some z)
    (hsize : i.size = size) (hby : i.bytes = bytes) (hzs : z.cells.size = size) (hsz : 0 < size) (h16 : bytes ≤ 64)
    (v : Value) (n : Nat) (xs : List Value) (hown : w.ownsRow 0 e size v n xs)
    (a : Option Addr) (m c : Nat) (news : List Value) (hl : news.length = m * size) (hc0 : a = none → c = 0 ∧ m = 0) (hnews : ∀ x, a = some x → ∀ j u, news[j]? = some u → w.cell? (x.add j) = some u) (h1 : ∀ u ∈ news, u.oneCell' = true) (hn : n + m ≤ 100000) :
    ∃ v' w', (Builtin.append_ #[t, t] ty #[v, .slice a m c]).run P w = .ok v' w' ∧ w'.ownsRow 0 e size v' (n + m) (xs ++ news) ∧ w.grownBy w' v.ownBlock ∧ Moved w v v' := by
  cases a with
  | some x => exact run_push w t ty e i z size bytes ht hi hz hsize hby hzs hsz h16 v n xs hown x m c news hl (hnews x rfl) h1 hn
  | none =>
    obtain ⟨rfl, rfl⟩ := hc0 rfl
    have hnil : news = [] := List.eq_nil_of_length_eq_zero (by simpa using hl)
    subst hnil
    refine ⟨v, w, run_append_owned_none (P := P) w 0 t ty e i size ht hi v n xs hown, ?_, ⟨rfl, rfl, rfl, Nat.le_refl _, fun _ _ _ => rfl⟩, fun k hk => .inl hk⟩
    rw [List.append_nil]; exact hown
theorem wpList_pushS {P : Program} (w : World) {ops : Array Oper} {rest : List Oper} {o : Oper} {a : Act} {Q : Exit → Act → World → Prop}
    (hg : o.guard = none) (s x : Operand) (t : TypeId) (hop : o.op = Op.call { callee := Callee.builtin Builtin.append, args := #[s, x], argTypes := #[t, t] })
    (e : TypeId) (i : TypeInfo) (z : Value) (size bytes : Nat) (ht : P.underlying t = some (.slice e)) (hi : P.info? e = some i) (hz : i.zero = some z)
    (hsize : i.size = size) (hby : i.bytes = bytes) (hzs : z.cells.size = size) (hsz : 0 < size) (h16 : bytes ≤ 64)
    (v : Value) (n : Nat) (xs : List Value) (hs : a.eval s = v) (hown : w.ownsRow 0 e size v n xs)
    (ad : Option Addr) (m c : Nat) (news : List Value) (hx : a.eval x = .slice ad m c) (hl : news.length = m * size) (hc0 : ad = none → c = 0 ∧ m = 0) (hnews : ∀ x, ad = some x → ∀ j u, news[j]? = some u → w.cell? (x.add j) = some u) (h1 : ∀ u ∈ news, u.oneCell' = true) (hn : n + m ≤ 100000)
    (hK : ∀ v' w', w'.ownsRow 0 e size v' (n + m) (xs ++ news) → w.grownBy w' v.ownBlock → Moved w v v' → wpList P ops Q rest (a.put o.dst v') w') :
    wpList P ops Q (o :: rest) a w := by
  refine wpList_plain hg fun K hK' => ?_
  obtain ⟨v', w', hr, r1, r2, r3⟩ := run_pushS (P := P) w t o.type e i z size bytes ht hi hz hsize hby hzs hsz h16 v n xs hown ad m c news hl hc0 hnews h1 hn
  unfold Oper.wp execOp
  simp only [hop, resolve, invoke, builtin, Sem.run_bind, Sem.run_pure, Result.andThen_ok, List.map_toArray, List.map_cons, List.map_nil, hs, hx, hr]
  exact hK' _ _ (hK v' w' r1 r2 r3)
theorem step_pushS {P : Program} {ops : Array Oper} {o : Oper} {a : Act} {w : World} {K : Act → World → Prop} {Q : Exit → Act → World → Prop} {E : Prop}
    (hg : o.guard = none) (s x : Operand) (t : TypeId) (hop : o.op = Op.call { callee := Callee.builtin Builtin.append, args := #[s, x], argTypes := #[t, t] })
    (e : TypeId) (i : TypeInfo) (z : Value) (size bytes : Nat) (ht : P.underlying t = some (.slice e)) (hi : P.info? e = some i) (hz : i.zero = some z)
    (hsize : i.size = size) (hby : i.bytes = bytes) (hzs : z.cells.size = size) (hsz : 0 < size) (h16 : bytes ≤ 64)
    (v : Value) (n : Nat) (xs : List Value) (hs : a.eval s = v) (hown : w.ownsRow 0 e size v n xs)
    (ad : Option Addr) (m c : Nat) (news : List Value) (hx : a.eval x = .slice ad m c) (hl : news.length = m * size) (hc0 : ad = none → c = 0 ∧ m = 0) (hnews : ∀ x, ad = some x → ∀ j u, news[j]? = some u → w.cell? (x.add j) = some u) (h1 : ∀ u ∈ news, u.oneCell' = true) (hn : n + m ≤ 100000)
    (hK : ∀ v' w', w'.ownsRow 0 e size v' (n + m) (xs ++ news) → w.grownBy w' v.ownBlock → Moved w v v' → K (a.put o.dst v') w') :
    if Region.wanted o (yielded ops a.tmps) = true then Oper.wp P o a w K Q else E := by
  have hw : Region.wanted o (yielded ops a.tmps) = true := by simp [Region.wanted, hg]
  rw [if_pos hw]
  obtain ⟨v', w', hrun, r1, r2, r3⟩ := run_pushS (P := P) w t o.type e i z size bytes ht hi hz hsize hby hzs hsz h16 v n xs hown ad m c news hl hc0 hnews h1 hn
  unfold Oper.wp
  simp [execOp, hop, resolve, invoke, builtin, hs, hx, hrun, Result.andThen]
  exact hK v' w' r1 r2 r3
theorem ivs_one (l : List Int) : ∀ u ∈ ivs l, u.oneCell' = true := by
  intro u hu
  obtain ⟨z, _, rfl⟩ := List.mem_map.1 hu
  rfl
theorem pvs_one (l : List (Int × Int)) : ∀ u ∈ pvs l, u.oneCell' = true := by
  intro u hu
  obtain ⟨z, _, hz⟩ := List.mem_flatMap.1 hu
  simp [pv] at hz
  rcases hz with rfl | rfl <;> rfl
theorem ri_cells {W : World} {a : Option Addr} {n : Nat} {zs : List Int} (h : RI W a n zs) (x : Addr) (hx : a = some x) : ∀ j u, (ivs zs)[j]? = some u → W.cell? (x.add j) = some u := by
  intro j u hu
  obtain ⟨hj, _⟩ := List.getElem?_eq_some_iff.1 hu
  have hj' : j < zs.length := by simpa [ivs] using hj
  obtain ⟨y, hy, hc⟩ := h.2 (by have := h.1; omega)
  rw [hx] at hy
  injection hy with hy
  subst hy
  rw [hc j hj', ← hu]
  simp [ivs, iv, hj']
theorem rp_cells {W : World} {a : Option Addr} {n : Nat} {ps : List (Int × Int)} (h : RP W a n ps) (x : Addr) (hx : a = some x) : ∀ j u, (pvs ps)[j]? = some u → W.cell? (x.add j) = some u := by
  intro j u hu
  obtain ⟨hj, _⟩ := List.getElem?_eq_some_iff.1 hu
  rw [pvs_len] at hj
  obtain ⟨y, hy, hc⟩ := h.2 (by have := h.1; omega)
  rw [hx] at hy
  injection hy with hy
  subst hy
  obtain ⟨c0, c1⟩ := hc (j / 2) (by omega)
  rcases Nat.mod_two_eq_zero_or_one j with e | e
  · have h2 := pvs_fst ps (j / 2) (by omega)
    rw [show j / 2 * 2 = j from by omega] at h2 c0
    rw [c0, ← hu, h2]
  · have h2 := pvs_snd ps (j / 2) (by omega)
    rw [show j / 2 * 2 + 1 = j from by omega] at h2 c1
    rw [c1, ← hu, h2]
theorem ivs_append (a b : List Int) : ivs (a ++ b) = ivs a ++ ivs b := by simp [ivs]
theorem own_empty (w : World) (e size : Nat) : (w.alloc (.cells #[] e)).ownsRow w.heap.size e size (.slice (some ⟨w.heap.size, 0, none⟩) 0 0) 0 [] :=
  ⟨by simp, .inr ⟨w.heap.size, 0, #[], rfl, Nat.le_refl _, blk_new w #[] e, Nat.le_refl _, by decide, by simp, by simp⟩⟩
theorem none_none {α : Type} {p q : Prop} {x : α} (h : some x = none) : p ∧ q := by cases h
theorem below_grown {B : Nat} {a b c : World} {row : Option Nat} (h : Below B a b) (g : b.grownBy c row) (hs : B ≤ b.heap.size) (hB : ∀ k, row = some k → B ≤ k) : Below B a c :=
  ⟨g.os.trans h.os, g.tape.trans h.tape, g.output.trans h.output, Nat.le_trans h.size g.size, fun k hk => (g.block k (by omega) (fun e => by have := hB k e.symm; omega)).trans (h.block k hk)⟩
theorem blk_grown {A : Nat} {cs : Array Value} {t : TypeId} {b c : World} {row : Option Nat} (h : Blk b A cs t) (g : b.grownBy c row) (hne : some A ≠ row) : Blk c A cs t := (g.block A (blk_lt h) hne).trans h
theorem two_at {W : World} {A : Nat} {x y : Value} {t : TypeId} (h : Blk W A #[x, y] t) : ∀ a, some (⟨A, 0, none⟩ : Addr) = some a → ∀ j u, [x, y][j]? = some u → W.cell? (a.add j) = some u := by
  intro a ha j u hj
  injection ha with ha
  subst ha
  rw [Addr.add_lit, blk_cell h, ← hj]
  simp

/-- The cells of a list of packages. -/
def pkl (N : Nat) (ps : List Pk) : List Value := ps.flatMap (fun p => [.int .i64 (p.c : Int), pcv N p])
/-- A list of packages that can be read from a slice on. -/
def RK (W : World) (a : Option Addr) (n c N : Nat) (ps : List Pk) : Prop :=
  ps.length = n ∧ (a = none → c = 0 ∧ n = 0) ∧ ∀ x, a = some x → ∀ j u, (pkl N ps)[j]? = some u → W.cell? (x.add j) = some u

/-! ### sums of packages; a single's number -/
def vec (N : Nat) (ls : List Nat) : List Nat := (List.range N).map (fun q => ln ls (N - 1 - q))
theorem vec_len (N : Nat) (ls : List Nat) : (vec N ls).length = N := by simp [vec]
theorem sum_flip (h : Nat → Nat) : ∀ N, ((List.range N).map h).sum = ((List.range N).map (fun q => h (N - 1 - q))).sum
  | 0 => rfl
  | N + 1 => by
    rw [List.range_succ, List.map_append, List.sum_append, sum_flip h N, ← List.range_succ, List.range_succ_eq_map]
    simp only [List.map_cons, List.map_nil, List.sum_cons, List.sum_nil, Nat.add_zero, List.map_map]
    have e : (List.range N).map ((fun q => h (N + 1 - 1 - q)) ∘ Nat.succ) = (List.range N).map (fun q => h (N - 1 - q)) := by
      apply List.map_congr_left
      intro q _
      show h (N + 1 - 1 - (q + 1)) = h (N - 1 - q)
      congr 1; omega
    rw [e]
    show _ = h (N + 1 - 1 - 0) + _
    rw [show N + 1 - 1 - 0 = N by omega]; omega
def Falls (cs : List Nat) : Prop := ∀ i j, i < j → j < cs.length → at0 cs j ≤ at0 cs i
theorem at0_rev (l : List Nat) (i : Nat) (h : i < l.length) : at0 l.reverse i = at0 l (l.length - 1 - i) := by
  unfold at0
  rw [List.getD_eq_getElem?_getD, List.getD_eq_getElem?_getD, List.getElem?_reverse h]
theorem vec_at (N : Nat) (ls : List Nat) (q : Nat) (h : q < N) : at0 (vec N ls) q = ln ls (N - 1 - q) := by
  unfold at0 vec
  rw [List.getD_eq_getElem?_getD, List.getElem?_map, List.getElem?_range h]; rfl
theorem ln_append (a b : List Nat) (r : Nat) : ln (a ++ b) r = ln a r + ln b r := by unfold ln; exact List.countP_append
theorem ln_none (t : List Nat) (r : Nat) (h : ∀ x ∈ t, x ≤ r) : ln t r = 0 := by
  unfold ln; rw [List.countP_eq_zero]; intro x hx; have := h x hx; simp; omega

/-- The frequencies of order's classes. -/
def cs (f : List Int) (o : List Nat) : List Nat := o.map (fun p => (fr f p).toNat)
/-- The lengths of order's classes, in that order. -/
def Ranks (f : List Int) (limit : Nat) (o r : List Nat) : Prop :=
  r.length = o.length ∧ (o.length = 1 → r = [1]) ∧ (2 ≤ o.length → ∃ ls, Chain (cs f o).reverse limit (2 * o.length - 2) ls ∧ r = vec o.length ls)
theorem cs_len (f : List Int) (o : List Nat) : (cs f o).length = o.length := by simp [cs]
theorem cs_at (f : List Int) (o : List Nat) (i : Nat) (h : i < o.length) : at0 (cs f o) i = (fr f (g o i)).toNat := by
  unfold at0 cs
  rw [List.getD_eq_getElem?_getD, List.getElem?_map, List.getElem?_eq_getElem h, g_eq o i h]; rfl
theorem cs_falls {f : List Int} {n : Nat} {o : List Nat} (h : Ordered f n o) : Falls (cs f o) := by
  intro i j hij hj
  rw [cs_len] at hj
  rw [cs_at f o i (by omega), cs_at f o j hj]
  have := List.pairwise_iff_getElem.1 h.2 i j (by omega) hj hij
  rw [← g_eq o i (by omega), ← g_eq o j hj] at this
  unfold ltf at this
  omega
theorem cs_pos {f : List Int} {n : Nat} {o : List Nat} (h : Ordered f n o) : ∀ x ∈ cs f o, 0 < x := by
  intro x hx
  obtain ⟨p, hp, rfl⟩ := List.mem_map.1 hx
  have := ((ordered_mem h p).1 hp).2
  omega
theorem ordered_len {f : List Int} {n : Nat} {o : List Nat} (h : Ordered f n o) : o.length ≤ n := by rw [h.1.length_eq]; exact places_le f n

def badz (z : Int) : Bool := decide (z < 0) || decide (16777216 < z)
def badl (z : Int) : Bool := decide (z < 0) || decide (15 < z)
def mayB (f : List Int) (n : Nat) (limit : Int) : Bool := decide (n = 65) && !(f.any badz) && decide (7 ≤ limit) && decide (limit ≤ 15)
theorem mayB_facts {f : List Int} {n : Nat} {limit : Int} (h : mayB f n limit = true) : n = 65 ∧ (∀ z ∈ f, 0 ≤ z ∧ z ≤ 16777216) ∧ 7 ≤ limit ∧ limit ≤ 15 := by
  unfold mayB at h
  simp only [Bool.and_eq_true, decide_eq_true_eq, Bool.not_eq_true'] at h
  obtain ⟨⟨⟨h1, h2⟩, h3⟩, h4⟩ := h
  refine ⟨h1, fun z hz => ?_, h3, h4⟩
  have := List.any_eq_false.1 h2 z hz
  unfold badz at this
  simp at this
  omega
/-- The lengths, each at its class's place. -/
def put (o r : List Nat) : List Nat := (o.zip r).foldl (fun l p => l.set p.1 p.2) (List.replicate 65 0)
theorem put_step (o r : List Nat) (i : Nat) (ho : i < o.length) (hr : i < r.length) : put (o.take (i + 1)) (r.take (i + 1)) = (put (o.take i) (r.take i)).set o[i] r[i] := by
  unfold put
  rw [List.take_succ_eq_append_getElem ho, List.take_succ_eq_append_getElem hr, List.zip_append (by simp; omega), List.foldl_append]; rfl
theorem set_fold_len (l : List Nat) : ∀ ps : List (Nat × Nat), (ps.foldl (fun l p => l.set p.1 p.2) l).length = l.length := fun ps => by
  induction ps generalizing l with
  | nil => rfl
  | cons p ps ih => rw [List.foldl_cons, ih, List.length_set]
theorem put_len (o r : List Nat) : (put o r).length = 65 := by unfold put; rw [set_fold_len]; simp

theorem chg_cell {S : Nat → Prop} {W W' : World} {p : Addr} (c : Chg S W W') (hp : ¬ S p.block) (hlt : p.block < W.heap.size) : W'.cell? p = W.cell? p := by
  have h := c.2.2.2.2 p.block hlt hp
  simp [World.cell?, h]
/-! ### what stands where lengths were put -/
theorem fold_set_no (ps : List (Nat × Nat)) (c : Nat) (h : ∀ p ∈ ps, p.1 ≠ c) : ∀ l : List Nat, (ps.foldl (fun l p => l.set p.1 p.2) l).getD c 0 = l.getD c 0 := by
  induction ps with
  | nil => intro l; rfl
  | cons p ps ih =>
    intro l
    rw [List.foldl_cons, ih (fun q hq => h q (List.mem_cons_of_mem _ hq))]
    simp only [List.getD_eq_getElem?_getD]
    rw [List.getElem?_set, if_neg (h p List.mem_cons_self)]
theorem fold_set_at : ∀ (ps : List (Nat × Nat)) (l : List Nat) (q : Nat) (hq : q < ps.length), (ps.map (·.1)).Nodup → ps[q].1 < l.length → at0 (ps.foldl (fun l p => l.set p.1 p.2) l) ps[q].1 = ps[q].2
  | [], _, q, hq, _, _ => by simp at hq
  | p :: ps, l, 0, _, hn, hl => by
    show at0 _ p.1 = p.2
    have hl' : p.1 < l.length := hl
    rw [List.map_cons, List.nodup_cons] at hn
    rw [List.foldl_cons]
    unfold at0
    rw [fold_set_no ps p.1 (fun x hx e => hn.1 (by rw [← e]; exact List.mem_map_of_mem hx)), List.getD_eq_getElem?_getD, List.getElem?_set, if_pos rfl, if_pos hl']; rfl
  | p :: ps, l, q + 1, hq, hn, hl => by
    rw [List.map_cons, List.nodup_cons] at hn
    rw [List.foldl_cons]
    exact fold_set_at ps (l.set p.1 p.2) q (by simpa using hq) hn.2 (by rw [List.length_set]; exact hl)
theorem put_at (o r : List Nat) (q : Nat) (ho : q < o.length) (hr : r.length = o.length) (hn : o.Nodup) (h65 : o[q] < 65) : at0 (put o r) o[q] = at0 r q := by
  have hz : q < (o.zip r).length := by rw [List.length_zip]; omega
  have e1 : (o.zip r)[q].1 = o[q] := by simp
  have e2 : (o.zip r)[q].2 = r[q] := by simp
  have := fold_set_at (o.zip r) (List.replicate 65 0) q hz (by rw [List.map_fst_zip (by omega)]; exact hn) (by rw [e1]; simpa using h65)
  rw [e1, e2] at this
  unfold put
  rw [this]
  unfold at0
  rw [List.getD_eq_getElem?_getD, List.getElem?_eq_getElem (by omega)]; rfl
theorem put_no (o r : List Nat) (c : Nat) (h : c ∉ o) : at0 (put o r) c = 0 := by
  unfold put at0
  rw [fold_set_no (o.zip r) c (fun p hp e => h (by rw [← e]; exact (List.of_mem_zip hp).1))]
  rw [List.getD_eq_getElem?_getD, List.getElem?_replicate]
  split <;> rfl
theorem fr_set (f : List Int) (p : Nat) (z : Int) (c : Nat) (h : p < f.length) : fr (f.set p z) c = if c = p then z else fr f c := by
  unfold fr
  rw [List.getD_eq_getElem?_getD, List.getD_eq_getElem?_getD, List.getElem?_set]
  by_cases e : p = c
  · subst e; rw [if_pos rfl, if_pos h, if_pos rfl]; rfl
  · rw [if_neg e, if_neg (fun h => e h.symm)]
theorem cs_rising {f : List Int} {n : Nat} {o : List Nat} (h : Ordered f n o) : Rising (cs f o).reverse := rising_of fun i j hij hj => by
  rw [List.length_reverse] at hj
  rw [at0_rev _ _ (by omega), at0_rev _ _ (by omega)]
  exact cs_falls h _ _ (by omega) (by omega)
theorem cs_pos' {f : List Int} {n : Nat} {o : List Nat} (h : Ordered f n o) : ∀ x ∈ (cs f o).reverse, 0 < x := fun x hx => cs_pos h x (List.mem_reverse.1 hx)

/-! ### sums over classes are sums over order -/
theorem isum_perm {l m : List Int} (h : l.Perm m) : l.sum = m.sum := by
  induction h with
  | nil => rfl
  | cons x _ ih => rw [List.sum_cons, List.sum_cons, ih]
  | swap x y l => rw [List.sum_cons, List.sum_cons, List.sum_cons, List.sum_cons]; omega
  | trans _ _ h1 h2 => rw [h1, h2]
theorem sum_filter (h : Nat → Int) (p : Nat → Bool) : ∀ l : List Nat, (∀ c ∈ l, p c = false → h c = 0) → (l.map h).sum = ((l.filter p).map h).sum
  | [], _ => rfl
  | c :: l, hz => by
    have ih := sum_filter h p l (fun x hx => hz x (List.mem_cons_of_mem _ hx))
    rw [List.map_cons, List.sum_cons, List.filter_cons]
    by_cases e : p c = true
    · rw [if_pos e, List.map_cons, List.sum_cons, ih]
    · rw [if_neg e, hz c List.mem_cons_self (by simpa using e), ih]; omega
theorem class_sum {F : List Int} {o : List Nat} (ho : Ordered F 65 o) (h : Nat → Int) (hz : ∀ c, ¬ 0 < fr F c → h c = 0) : ((List.range 65).map h).sum = (o.map h).sum := by
  rw [sum_filter h (fun p => decide (0 < fr F p)) (List.range 65) (fun c _ hc => hz c (by simpa using hc))]
  exact isum_perm ((ho.1.symm).map h)
theorem map_rank (o : List Nat) (h : Nat → Int) : o.map h = (List.range o.length).map (fun q => h (g o q)) := by
  apply List.ext_getElem?
  intro i
  by_cases hi : i < o.length
  · rw [List.getElem?_map, List.getElem?_map, List.getElem?_range hi, List.getElem?_eq_getElem hi]
    show some (h o[i]) = some (h (g o i))
    rw [g_eq o i hi]
  · rw [List.getElem?_eq_none (by simp; omega), List.getElem?_eq_none (by simp; omega)]
theorem cast_sum (h : Nat → Nat) : ∀ l : List Nat, (l.map (fun q => ((h q : Nat) : Int))).sum = (((l.map h).sum : Nat) : Int)
  | [] => rfl
  | a :: l => by rw [List.map_cons, List.sum_cons, cast_sum h l, List.map_cons, List.sum_cons]; omega
/-! ### what holds of the lengths at their places -/
theorem rank_bd {F : List Int} {d : Nat} {o r : List Nat} (ho : Ordered F 65 o) (h : Ranks F d o r) (h7 : 7 ≤ d) (q : Nat) (hq : q < o.length) : 1 ≤ at0 r q ∧ at0 r q ≤ d := by
  by_cases h2 : 2 ≤ o.length
  · obtain ⟨ls, c1, c2⟩ := h.2.2 h2
    obtain ⟨d', rfl⟩ : ∃ d', d = d' + 1 := ⟨d - 1, by omega⟩
    have hl : (cs F o).reverse.length = o.length := by rw [List.length_reverse, cs_len]
    rw [← hl] at c1
    have := (chain_may (cs_rising ho) (cs_pos' ho) (by rw [hl]; exact h2) c1).1 (o.length - 1 - q) (by rw [hl]; omega)
    rw [c2, vec_at _ _ _ hq]; exact this
  · have h1 : o.length = 1 := by omega
    rw [h.2.1 h1]
    obtain rfl : q = 0 := by omega
    show 1 ≤ 1 ∧ 1 ≤ d
    omega
theorem lens_at {F : List Int} {d : Nat} {o r : List Nat} (ho : Ordered F 65 o) (h : Ranks F d o r) (h7 : 7 ≤ d) (c : Nat) (hc : c < 65) : at0 (put o r) c ≤ d ∧ (0 < at0 (put o r) c ↔ 0 < fr F c) := by
  by_cases hm : c ∈ o
  · obtain ⟨q, hq, rfl⟩ := List.getElem_of_mem hm
    have hp := put_at o r q hq h.1 (ordered_nodup ho) hc
    have hb := rank_bd ho h h7 q hq
    have hf := ((ordered_mem ho o[q]).1 hm).2
    rw [hp]; exact ⟨hb.2, fun _ => hf, fun _ => by omega⟩
  · rw [put_no o r c hm]
    exact ⟨by omega, fun h => by omega, fun h => absurd ((ordered_mem ho c).2 ⟨hc, h⟩) hm⟩
/-! ### lengths that may be -/
def mS (L : List Nat) (i : Nat) : Nat := ((List.range i).map (fun c => if 0 < at0 L c then 2 ^ (15 - at0 L c) else 0)).sum
def mC (L : List Nat) (i : Nat) : Nat := ((List.range i).map (fun c => if 0 < at0 L c then 1 else 0)).sum
theorem kraft_up (h : Nat → Nat) (d N : Nat) (hd : d ≤ 15) (hb : ∀ x, x < N → h x ≤ d) (e : ((List.range N).map (fun x => 2 ^ (d - h x))).sum = 2 ^ d) : ((List.range N).map (fun x => 2 ^ (15 - h x))).sum = 32768 := by
  have e2 : ∀ n, n ≤ N → ((List.range n).map (fun x => 2 ^ (15 - h x))).sum = 2 ^ (15 - d) * ((List.range n).map (fun x => 2 ^ (d - h x))).sum := fun n => by
    induction n with
    | zero => intro _; rfl
    | succ n ih =>
      intro hn
      have hb := hb n (by omega)
      rw [List.range_succ, List.map_append, List.sum_append, ih (by omega), List.map_append, List.sum_append, Nat.mul_add]
      simp only [List.map_cons, List.map_nil, List.sum_cons, List.sum_nil, Nat.add_zero]
      rw [← Nat.pow_add, show 15 - d + (d - h n) = 15 - h n by omega]
  rw [e2 _ (Nat.le_refl _), e, ← Nat.pow_add, show 15 - d + d = 15 by omega]
theorem lens_may {F : List Int} {d : Nat} {o r : List Nat} (ho : Ordered F 65 o) (h : Ranks F d o r) (h7 : 7 ≤ d) (h15 : d ≤ 15) : mC (put o r) 65 = 0 ∨ mS (put o r) 65 = 32768 ∨ (mC (put o r) 65 = 1 ∧ mS (put o r) 65 = 16384) := by
  have hno : ∀ c, ¬ 0 < fr F c → at0 (put o r) c = 0 := fun c hc => put_no o r c (fun hm => hc ((ordered_mem ho c).1 hm).2)
  have hat : ∀ q, q < o.length → at0 (put o r) (g o q) = at0 r q := fun q hq => by
    have hm := (ordered_mem ho (g o q)).1 (g_mem o q hq)
    have hp := put_at o r q hq h.1 (ordered_nodup ho) (by rw [← g_eq o q hq]; exact hm.1)
    rw [← g_eq o q hq] at hp; exact hp
  have red : ∀ (φ : Nat → Nat), (((List.range 65).map (fun c => if 0 < at0 (put o r) c then φ (at0 (put o r) c) else 0)).sum) = ((List.range o.length).map (fun q => φ (at0 r q))).sum := fun φ => by
    have e := class_sum ho (fun c => (((if 0 < at0 (put o r) c then φ (at0 (put o r) c) else 0) : Nat) : Int)) (fun c hc => by have := hno c hc; simp [this])
    rw [cast_sum, map_rank, cast_sum] at e
    have e2 : ((List.range o.length).map (fun q => if 0 < at0 (put o r) (g o q) then φ (at0 (put o r) (g o q)) else 0)).sum = ((List.range o.length).map (fun q => φ (at0 r q))).sum := by
      congr 1
      apply List.map_congr_left
      intro q hq
      have hq := List.mem_range.1 hq
      have := (rank_bd ho h h7 q hq).1
      rw [hat q hq, if_pos (by omega)]
    omega
  have eC : mC (put o r) 65 = o.length := by
    unfold mC
    rw [red (fun _ => 1)]
    have : ∀ n, ((List.range n).map (fun _ => 1)).sum = n := fun n => by
      induction n with
      | zero => rfl
      | succ n ih => rw [List.range_succ, List.map_append, List.sum_append, ih]; rfl
    exact this _
  have eS : mS (put o r) 65 = ((List.range o.length).map (fun q => 2 ^ (15 - at0 r q))).sum := red (fun l => 2 ^ (15 - l))
  rw [eC, eS]
  by_cases h2 : 2 ≤ o.length
  · right; left
    obtain ⟨ls, c1, c2⟩ := h.2.2 h2
    obtain ⟨d', rfl⟩ : ∃ d', d = d' + 1 := ⟨d - 1, by omega⟩
    have hl : (cs F o).reverse.length = o.length := by rw [List.length_reverse, cs_len]
    rw [← hl] at c1
    have cm := chain_may (cs_rising ho) (cs_pos' ho) (by rw [hl]; exact h2) c1
    rw [hl] at cm
    have e3 := cm.2
    unfold kr at e3
    rw [List.map_map] at e3
    have e4 := kraft_up (ln ls) (d' + 1) o.length h15 (fun x hx => (cm.1 x hx).2) e3
    refine Eq.trans ?_ e4
    have e5 := sum_flip (fun x => 2 ^ (15 - ln ls x)) o.length
    refine Eq.trans ?_ e5.symm
    refine congrArg List.sum (List.map_congr_left fun q hq => ?_)
    have hv : at0 r q = ln ls (o.length - 1 - q) := by rw [c2, vec_at _ _ _ (List.mem_range.1 hq)]
    show 2 ^ (15 - at0 r q) = 2 ^ (15 - ln ls (o.length - 1 - q))
    rw [hv]
  · by_cases h1 : o.length = 1
    · right; right
      rw [h1, h.2.1 h1]; exact ⟨rfl, rfl⟩
    · left; omega
def RdRel (n : Nat) (w : World) (sv : Value) (wr : World) : Prop := ∃ j : Nat, j ≤ n ∧ sv = .int .i64 j ∧ wr = w
theorem iv_at {W : World} {base e b n cap : Nat} {zs : List Int} (h : W.ownsRow base e 1 (.slice (some ⟨b, 0, none⟩) n cap) n (ivs zs)) (i : Nat) (hi : i < n) : W.cell? ⟨b, i, none⟩ = some (.int .i64 (fr zs i)) := by
  have hl : zs.length = n := by have := h.1; simpa [ivs] using this
  rw [(own_there h i (by omega)).1, fr_at zs i (by omega)]
  simp [ivs, iv, hl, hi]
theorem ni_cell {W : World} {base e b n cap : Nat} {l : List Nat} (h : W.ownsRow base e 1 (.slice (some ⟨b, 0, none⟩) n cap) n (ni l)) (i : Nat) (hi : i < n) : W.cell? ⟨b, i, none⟩ = some (.int .i64 (at0 l i : Int)) := by
  have hl : l.length = n := by have := h.1; rw [ni_len] at this; omega
  rw [(own_there h i (by omega)).1, ni_at l i (by omega)]
  unfold at0; rw [List.getD_eq_getElem?_getD, List.getElem?_eq_getElem (by omega)]; rfl

theorem mS_succ (L : List Nat) (i : Nat) : mS L (i + 1) = mS L i + if 0 < at0 L i then 2 ^ (15 - at0 L i) else 0 := by
  unfold mS; rw [List.range_succ, List.map_append, List.sum_append]; simp
theorem mC_succ (L : List Nat) (i : Nat) : mC L (i + 1) = mC L i + if 0 < at0 L i then 1 else 0 := by
  unfold mC; rw [List.range_succ, List.map_append, List.sum_append]; simp
theorem pow_15 (l : Nat) : 2 ^ (15 - l) ≤ 32768 := Nat.le_trans (Nat.pow_le_pow_right (by omega) (by omega : 15 - l ≤ 15)) (by decide)
theorem mS_bd (L : List Nat) : ∀ i, mS L i ≤ i * 32768
  | 0 => by simp [mS]
  | i + 1 => by
    have h1 := mS_bd L i
    have h2 := pow_15 (at0 L i)
    rw [mS_succ, Nat.succ_mul]
    generalize mS L i = x at *
    generalize 2 ^ (15 - at0 L i) = z at *
    generalize i * 32768 = y at *
    split <;> omega
theorem mC_bd (L : List Nat) : ∀ i, mC L i ≤ i
  | 0 => by simp [mC]
  | i + 1 => by
    have := mC_bd L i
    rw [mC_succ]
    split <;> omega

/-! ### lengths that may be -/
def nat (f : List Int) : List Nat := f.map Int.toNat
def okL (L : List Nat) : Bool := decide (mC L 65 = 0) || decide (mS L 65 = 32768) || (decide (mC L 65 = 1) && decide (mS L 65 = 16384))
def mayL (f : List Int) : Bool := decide (f.length = 65) && !(f.any badl) && okL (nat f)
theorem badl_no (z : Int) : badl z = false ↔ 0 ≤ z ∧ z ≤ 15 := by unfold badl; simp
theorem any_no (f : List Int) : f.any badl = false ↔ ∀ z ∈ f, 0 ≤ z ∧ z ≤ 15 := by
  rw [List.any_eq_false]
  constructor
  · intro h z hz; exact (badl_no z).1 (by simpa using h z hz)
  · intro h z hz; simp [(badl_no z).2 (h z hz)]
theorem nat_len (f : List Int) : (nat f).length = f.length := by simp [nat]
theorem at0_of (l : List Nat) (i : Nat) (h : i < l.length) : at0 l i = l[i] := by unfold at0; rw [List.getD_eq_getElem?_getD, List.getElem?_eq_getElem h]; rfl
theorem at0_out (l : List Nat) (i : Nat) (h : l.length ≤ i) : at0 l i = 0 := by unfold at0; rw [List.getD_eq_getElem?_getD, List.getElem?_eq_none h]; rfl
theorem nat_of (L : List Nat) : nat (L.map Int.ofNat) = L := by
  unfold nat
  rw [List.map_map]
  conv => rhs; rw [← List.map_id L]
  apply List.map_congr_left
  intro z _
  rfl
theorem of_bd (L : List Nat) (h : ∀ c, at0 L c ≤ 15) : ∀ z ∈ L.map Int.ofNat, (0 : Int) ≤ z ∧ z ≤ 15 := by
  intro z hz
  obtain ⟨n, hn, rfl⟩ := List.mem_map.1 hz
  obtain ⟨i, hi, rfl⟩ := List.getElem_of_mem hn
  have := h i
  rw [at0_of L i hi] at this
  simp; omega
theorem mayL_of (L : List Nat) (hl : L.length = 65) (h : ∀ c, at0 L c ≤ 15) : mayL (L.map Int.ofNat) = okL L := by
  unfold mayL
  rw [(any_no _).2 (of_bd L h), nat_of]; simp [hl]
theorem okL_iff (L : List Nat) : okL L = true ↔ mC L 65 = 0 ∨ mS L 65 = 32768 ∨ (mC L 65 = 1 ∧ mS L 65 = 16384) := by
  unfold okL; simp [or_assoc]
/-- The number of those that are there bounds how much they take. -/
theorem mS_mC (L : List Nat) : ∀ i, mS L i ≤ mC L i * 16384
  | 0 => by simp [mS, mC]
  | i + 1 => by
    have ih := mS_mC L i
    rw [mS_succ, mC_succ]
    by_cases h : 0 < at0 L i
    · rw [if_pos h, if_pos h, Nat.add_mul]
      have : 2 ^ (15 - at0 L i) ≤ 16384 := Nat.le_trans (Nat.pow_le_pow_right (by omega) (by omega : 15 - at0 L i ≤ 14)) (by decide)
      omega
    · rw [if_neg h, if_neg h]; omega
def row (L : List Nat) (n m : Nat) : List Nat := (List.range m).filter (fun c => decide (at0 L c = n))
theorem ok_sum {L : List Nat} (h : okL L = true) : mS L 65 ≤ 32768 := by
  have := mS_mC L 65
  rcases (okL_iff L).1 h with h | h | h
  · rw [h] at this; omega
  · omega
  · omega

/-! ### codes by their lengths -/
def w15 (l : Nat) : Nat := 2 ^ (15 - l)
def acc (ls : List Nat) : Nat := (ls.map w15).sum
theorem w15_pos (l : Nat) : 0 < w15 l := Nat.two_pow_pos _
theorem w15_step (l m : Nat) (h : l ≤ m) (hm : m ≤ 15) : 2 ^ (m - l) * w15 m = w15 l := by
  unfold w15; rw [← Nat.pow_add, show m - l + (15 - m) = 15 - l by omega]
theorem w15_full (l : Nat) (h : l ≤ 15) : 2 ^ l * w15 l = 32768 := by
  unfold w15; rw [← Nat.pow_add, show l + (15 - l) = 15 by omega]
theorem acc_cons (l : Nat) (ls : List Nat) : acc (l :: ls) = w15 l + acc ls := by unfold acc; rw [List.map_cons, List.sum_cons]
theorem acc_append (a b : List Nat) : acc (a ++ b) = acc a + acc b := by unfold acc; rw [List.map_append, List.sum_append]
theorem acc_perm {a b : List Nat} (h : a.Perm b) : acc a = acc b := by unfold acc; exact (h.map w15).sum_nat
def byLen (L : List Nat) : Nat → List Nat
  | 0 => []
  | n + 1 => byLen L n ++ row L (n + 1) 65
theorem row_succ (L : List Nat) (n m : Nat) : row L n (m + 1) = if at0 L m = n then row L n m ++ [m] else row L n m := by
  unfold row
  rw [List.range_succ, List.filter_append]
  by_cases h : at0 L m = n
  · rw [if_pos h]; simp [h]
  · rw [if_neg h]; simp [h]
theorem row_mem (L : List Nat) (n m c : Nat) : c ∈ row L n m ↔ c < m ∧ at0 L c = n := by unfold row; simp
theorem byLen_mem (L : List Nat) : ∀ n c, c ∈ byLen L n ↔ c < 65 ∧ 1 ≤ at0 L c ∧ at0 L c ≤ n
  | 0, c => by simp [byLen]; omega
  | n + 1, c => by
    rw [byLen, List.mem_append, byLen_mem L n c, row_mem]
    omega
theorem byLen_nodup (L : List Nat) : ∀ n, (byLen L n).Nodup
  | 0 => List.Pairwise.nil
  | n + 1 => by
    rw [byLen, List.nodup_append]
    refine ⟨byLen_nodup L n, List.Pairwise.filter _ List.nodup_range, fun a ha b hb e => ?_⟩
    have h1 := (byLen_mem L n a).1 ha
    have h2 := (row_mem L (n + 1) 65 b).1 hb
    subst e; omega
def lt2 (L : List Nat) (a b : Nat) : Prop := at0 L a < at0 L b ∨ (at0 L a = at0 L b ∧ a < b)
theorem row_sorted (L : List Nat) (n m : Nat) : (row L n m).Pairwise (lt2 L) := by
  unfold row
  rw [List.pairwise_filter]
  refine List.Pairwise.imp_of_mem ?_ List.pairwise_lt_range
  intro a b _ _ hab ha hb
  have ha' : at0 L a = n := by simpa using ha
  have hb' : at0 L b = n := by simpa using hb
  exact .inr ⟨by omega, hab⟩
theorem byLen_sorted (L : List Nat) : ∀ n, (byLen L n).Pairwise (lt2 L)
  | 0 => List.Pairwise.nil
  | n + 1 => by
    rw [byLen, List.pairwise_append]
    refine ⟨byLen_sorted L n, row_sorted L (n + 1) 65, fun a ha b hb => ?_⟩
    have h1 := (byLen_mem L n a).1 ha
    have h2 := (row_mem L (n + 1) 65 b).1 hb
    exact .inl (by omega)
theorem byLen_perm (L : List Nat) (hb : ∀ c, at0 L c ≤ 15) : (byLen L 15).Perm ((List.range 65).filter (fun c => decide (0 < at0 L c))) := by
  refine (List.perm_ext_iff_of_nodup (byLen_nodup L 15) (List.Pairwise.filter _ List.nodup_range)).2 (fun c => ?_)
  rw [byLen_mem, List.mem_filter, List.mem_range, decide_eq_true_iff]
  constructor
  · rintro ⟨h1, h2, _⟩; exact ⟨h1, h2⟩
  · rintro ⟨h1, h2⟩; exact ⟨h1, h2, hb c⟩
theorem sum_filterN (f : Nat → Nat) (p : Nat → Bool) : ∀ l : List Nat, ((l.filter p).map f).sum = (l.map (fun c => if p c = true then f c else 0)).sum
  | [] => rfl
  | c :: l => by
    rw [List.map_cons, List.sum_cons, ← sum_filterN f p l]
    by_cases h : p c = true
    · rw [List.filter_cons_of_pos h, List.map_cons, List.sum_cons, if_pos h]
    · rw [List.filter_cons_of_neg h, if_neg h, Nat.zero_add]
theorem byLen_acc (L : List Nat) (hb : ∀ c, at0 L c ≤ 15) : acc ((byLen L 15).map (at0 L)) = mS L 65 := by
  unfold acc w15 mS
  rw [List.map_map, ((byLen_perm L hb).map _).sum_nat, sum_filterN]
  simp only [Function.comp, decide_eq_true_eq]
/-- What comes out of the heap is in this order. -/
def stepC (L : List Nat) (s : Nat × Nat × List (Nat × Nat)) (c : Nat) : Nat × Nat × List (Nat × Nat) :=
  (s.1 * 2 ^ (at0 L c - s.2.1) + 1, at0 L c, s.2.2.set c (s.1 * 2 ^ (at0 L c - s.2.1), at0 L c))
def foldC (L p : List Nat) : Nat × Nat × List (Nat × Nat) := p.foldl (stepC L) (0, 0, List.replicate 65 (0, 0))
def codesOf (L : List Nat) : List (Nat × Nat) := (foldC L (byLen L 15)).2.2
theorem foldC_snoc (L p : List Nat) (c : Nat) : foldC L (p ++ [c]) = stepC L (foldC L p) c := by unfold foldC; rw [List.foldl_append]; rfl
theorem fold_last (L : List Nat) : ∀ (p : List Nat) (s : Nat × Nat × List (Nat × Nat)), (p.foldl (stepC L) s).2.1 = s.2.1 ∨ ∃ a ∈ p, (p.foldl (stepC L) s).2.1 = at0 L a
  | [], s => .inl rfl
  | c :: p, s => by
    rw [List.foldl_cons]
    rcases fold_last L p (stepC L s c) with h | ⟨a, ha, h⟩
    · exact .inr ⟨c, List.mem_cons_self, h⟩
    · exact .inr ⟨a, List.mem_cons_of_mem _ ha, h⟩
theorem foldC_le (L p : List Nat) (n : Nat) (h : ∀ a ∈ p, at0 L a ≤ n) : (foldC L p).2.1 ≤ n := by
  rcases fold_last L p (0, 0, List.replicate 65 (0, 0)) with e | ⟨a, ha, e⟩
  · unfold foldC; rw [e]; exact Nat.zero_le _
  · unfold foldC; rw [e]; exact h a ha
theorem fold_key (L : List Nat) : ∀ (p : List Nat) (s : Nat × Nat × List (Nat × Nat)), (s.2.1 :: p.map (at0 L)).Pairwise (· ≤ ·) → (∀ c ∈ p, at0 L c ≤ 15) →
    (p.foldl (stepC L) s).1 * w15 (p.foldl (stepC L) s).2.1 = s.1 * w15 s.2.1 + acc (p.map (at0 L))
  | [], s, _, _ => by simp [acc]
  | c :: p, s, hp, hb => by
    rw [List.map_cons, List.pairwise_cons] at hp
    have h1 := hp.1 (at0 L c) List.mem_cons_self
    have h2 := hb c List.mem_cons_self
    rw [List.foldl_cons, fold_key L p (stepC L s c) hp.2 (fun a ha => hb a (List.mem_cons_of_mem _ ha)), List.map_cons, acc_cons]
    show (s.1 * 2 ^ (at0 L c - s.2.1) + 1) * w15 (at0 L c) + _ = _
    rw [Nat.add_mul, Nat.one_mul, Nat.mul_assoc, w15_step _ _ h1 h2]; omega
theorem rising_of_sorted {L p : List Nat} (h : p.Pairwise (fun a b => at0 L a ≤ at0 L b)) : ((0 : Nat) :: p.map (at0 L)).Pairwise (· ≤ ·) := by
  rw [List.pairwise_cons, List.pairwise_map]
  exact ⟨fun _ _ => Nat.zero_le _, h⟩
theorem foldC_key (L p : List Nat) (h : p.Pairwise (fun a b => at0 L a ≤ at0 L b)) (hb : ∀ c, at0 L c ≤ 15) : (foldC L p).1 * w15 (foldC L p).2.1 = acc (p.map (at0 L)) := by
  have := fold_key L p (0, 0, List.replicate 65 (0, 0)) (rising_of_sorted h) (fun c _ => hb c)
  unfold foldC
  rw [this]; simp
theorem acc_bd (L p : List Nat) : acc (p.map (at0 L)) ≤ p.length * 32768 := by
  induction p with
  | nil => simp [acc]
  | cons c p ih =>
    rw [List.map_cons, acc_cons, List.length_cons, Nat.succ_mul]
    have := pow_15 (at0 L c)
    unfold w15; omega
/-- The next code's bits: they are no more than all ahead take, and that times its weight. -/
theorem next_key (L p : List Nat) (c : Nat) (h : p.Pairwise (fun a b => at0 L a ≤ at0 L b)) (hc : ∀ a ∈ p, at0 L a ≤ at0 L c) (hb : ∀ c, at0 L c ≤ 15) :
    (foldC L p).1 * 2 ^ (at0 L c - (foldC L p).2.1) * w15 (at0 L c) = acc (p.map (at0 L)) := by
  rw [Nat.mul_assoc, w15_step _ _ (foldC_le L p _ hc) (hb c), foldC_key L p h hb]
theorem next_bd (L p : List Nat) (c : Nat) (h : p.Pairwise (fun a b => at0 L a ≤ at0 L b)) (hc : ∀ a ∈ p, at0 L a ≤ at0 L c) (hb : ∀ c, at0 L c ≤ 15) :
    (foldC L p).1 * 2 ^ (at0 L c - (foldC L p).2.1) ≤ p.length * 32768 := by
  have h1 := next_key L p c h hc hb
  have h2 := acc_bd L p
  have h3 := Nat.le_mul_of_pos_right ((foldC L p).1 * 2 ^ (at0 L c - (foldC L p).2.1)) (w15_pos (at0 L c))
  omega
theorem foldC_bd (L p : List Nat) (h : p.Pairwise (fun a b => at0 L a ≤ at0 L b)) (hb : ∀ c, at0 L c ≤ 15) : (foldC L p).1 ≤ p.length * 32768 := by
  have h1 := foldC_key L p h hb
  have h2 := acc_bd L p
  have h3 := Nat.le_mul_of_pos_right (foldC L p).1 (w15_pos (foldC L p).2.1)
  omega
theorem fold_len (L : List Nat) : ∀ (p : List Nat) (s : Nat × Nat × List (Nat × Nat)), (p.foldl (stepC L) s).2.2.length = s.2.2.length
  | [], s => rfl
  | c :: p, s => by rw [List.foldl_cons, fold_len L p]; show (s.2.2.set _ _).length = _; rw [List.length_set]
theorem foldC_len (L p : List Nat) : (foldC L p).2.2.length = 65 := by unfold foldC; rw [fold_len]; simp
theorem codes_len (L : List Nat) : (codesOf L).length = 65 := foldC_len L _
def cat (l : List (Nat × Nat)) (i : Nat) : Nat × Nat := l.getD i (0, 0)
theorem cat_set (l : List (Nat × Nat)) (i : Nat) (p : Nat × Nat) (c : Nat) (h : i < l.length) : cat (l.set i p) c = if c = i then p else cat l c := by
  unfold cat
  rw [List.getD_eq_getElem?_getD, List.getD_eq_getElem?_getD, List.getElem?_set]
  by_cases e : i = c
  · subst e; rw [if_pos rfl, if_pos h, if_pos rfl]; rfl
  · rw [if_neg e, if_neg (fun h => e h.symm)]
theorem fold_no (L : List Nat) (c : Nat) : ∀ (p : List Nat) (s : Nat × Nat × List (Nat × Nat)), c ∉ p → (∀ a ∈ p, a < s.2.2.length) → cat (p.foldl (stepC L) s).2.2 c = cat s.2.2 c
  | [], s, _, _ => rfl
  | a :: p, s, h, hl => by
    rw [List.foldl_cons, fold_no L c p _ (fun m => h (List.mem_cons_of_mem _ m)) (fun x hx => by
      show x < (s.2.2.set _ _).length
      rw [List.length_set]; exact hl x (List.mem_cons_of_mem _ hx))]
    show cat (s.2.2.set a _) c = _
    rw [cat_set _ _ _ _ (hl a List.mem_cons_self), if_neg (fun e => h (by rw [e]; exact List.mem_cons_self))]
theorem code_no (L : List Nat) (c : Nat) (h : at0 L c = 0) : cat (codesOf L) c = (0, 0) := by
  have hn : c ∉ byLen L 15 := fun m => by have := (byLen_mem L 15 c).1 m; omega
  unfold codesOf foldC
  rw [fold_no L c _ _ hn (fun a ha => by have := ((byLen_mem L 15 a).1 ha).1; simpa using this)]
  unfold cat
  rw [List.getD_eq_getElem?_getD, List.getElem?_replicate]
  split <;> rfl
theorem sorted_le {L p : List Nat} (h : p.Pairwise (lt2 L)) : p.Pairwise (fun a b => at0 L a ≤ at0 L b) := h.imp (fun {a b} hab => by unfold lt2 at hab; omega)
/-- The code of the class that stands at a place of the order: its bits, filled up, are the sum of all ahead. -/
theorem code_at (L : List Nat) (hb : ∀ c, at0 L c ≤ 15) (p q : List Nat) (c : Nat) (h : byLen L 15 = p ++ c :: q) :
    ∃ b, cat (codesOf L) c = (b, at0 L c) ∧ b * w15 (at0 L c) = acc (p.map (at0 L)) := by
  have hs := byLen_sorted L 15
  have hn := byLen_nodup L 15
  have hm : ∀ a ∈ byLen L 15, a < 65 := fun a ha => ((byLen_mem L 15 a).1 ha).1
  rw [h] at hs hn hm
  obtain ⟨s1, s2, s3⟩ := List.pairwise_append.1 hs
  have hle : ∀ a ∈ p, at0 L a ≤ at0 L c := fun a ha => by have := s3 a ha c List.mem_cons_self; unfold lt2 at this; omega
  refine ⟨_, ?_, next_key L p c (sorted_le s1) hle hb⟩
  have hc65 := hm c (by simp)
  have hcq : c ∉ q := (List.nodup_cons.1 ((List.nodup_append.1 hn).2.1)).1
  have l1 : (stepC L (foldC L p) c).2.2.length = 65 := by
    show ((foldC L p).2.2.set _ _).length = 65
    rw [List.length_set, foldC_len]
  have e1 : (foldC L (p ++ c :: q)).2.2 = (q.foldl (stepC L) (stepC L (foldC L p) c)).2.2 := by
    unfold foldC; rw [List.foldl_append, List.foldl_cons]
  unfold codesOf
  rw [h, e1, fold_no L c q _ hcq (fun a ha => by rw [l1]; exact hm a (by simp [ha]))]
  show cat ((foldC L p).2.2.set c _) c = _
  rw [cat_set _ _ _ _ (by rw [foldC_len]; exact hc65), if_pos rfl]
theorem split_at {l : List Nat} {c : Nat} (h : c ∈ l) : ∃ p q, l = p ++ c :: q := List.append_of_mem h
theorem code_len (L : List Nat) (hb : ∀ c, at0 L c ≤ 15) (c : Nat) (hc : c < 65) : (cat (codesOf L) c).2 = at0 L c := by
  by_cases h : at0 L c = 0
  · rw [code_no L c h, h]
  · obtain ⟨p, q, e⟩ := split_at ((byLen_mem L 15 c).2 ⟨hc, by omega, hb c⟩)
    obtain ⟨b, e1, _⟩ := code_at L hb p q c e
    rw [e1]
/-- A code fits its length. -/
theorem code_fit (L : List Nat) (hb : ∀ c, at0 L c ≤ 15) (hs : mS L 65 ≤ 32768) (c : Nat) (hc : c < 65) : (cat (codesOf L) c).1 < 2 ^ at0 L c := by
  by_cases h : at0 L c = 0
  · rw [code_no L c h, h]; decide
  · obtain ⟨p, q, e⟩ := split_at ((byLen_mem L 15 c).2 ⟨hc, by omega, hb c⟩)
    obtain ⟨b, e1, e2⟩ := code_at L hb p q c e
    rw [e1]
    show b < 2 ^ at0 L c
    have ha := byLen_acc L hb
    rw [e, List.map_append, acc_append, List.map_cons, acc_cons] at ha
    have f := w15_full (at0 L c) (hb c)
    have p0 := w15_pos (at0 L c)
    by_cases hlt : b < 2 ^ at0 L c
    · exact hlt
    · have := Nat.mul_le_mul_right (w15 (at0 L c)) (Nat.not_lt.1 hlt)
      omega
/-- No code begins another one. -/
theorem code_apart (L : List Nat) (hb : ∀ c, at0 L c ≤ 15) (i j : Nat) (hi : i < 65) (hj : j < 65) (hne : i ≠ j) (h0 : 0 < at0 L i) (hle : at0 L i ≤ at0 L j) :
    (cat (codesOf L) j).1 / 2 ^ (at0 L j - at0 L i) ≠ (cat (codesOf L) i).1 := by
  have mi := (byLen_mem L 15 i).2 ⟨hi, h0, hb i⟩
  have mj := (byLen_mem L 15 j).2 ⟨hj, by omega, hb j⟩
  obtain ⟨p, q, e⟩ := split_at mi
  obtain ⟨b, b1, b2⟩ := code_at L hb p q i e
  obtain ⟨x, hx⟩ : ∃ x, 2 ^ (at0 L j - at0 L i) = x := ⟨_, rfl⟩
  have st := w15_step _ _ hle (hb j)
  have xp : 0 < x := by rw [← hx]; exact Nat.two_pow_pos _
  rw [hx] at st ⊢
  have wp := w15_pos (at0 L j)
  have hj' : j ∈ p ∨ j ∈ q := by
    rw [e] at mj
    rcases List.mem_append.1 mj with h | h
    · exact .inl h
    · rcases List.mem_cons.1 h with h | h
      · exact absurd h.symm hne
      · exact .inr h
  rcases hj' with hm | hm
  · obtain ⟨p1, p2, rfl⟩ := split_at hm
    have e' : byLen L 15 = p1 ++ j :: (p2 ++ i :: q) := by rw [e]; simp
    obtain ⟨d, d1, d2⟩ := code_at L hb p1 _ j e'
    rw [b1, d1]
    show d / x ≠ b
    rw [List.map_append, acc_append, List.map_cons, acc_cons, ← d2, ← st] at b2
    intro hd
    have hle2 : (d + 1) * w15 (at0 L j) ≤ b * x * w15 (at0 L j) := by rw [Nat.add_mul, Nat.one_mul, Nat.mul_assoc]; omega
    have h3 := Nat.le_of_mul_le_mul_right hle2 wp
    have h4 : d / x * x ≤ d := Nat.div_mul_le_self d x
    rw [hd] at h4; omega
  · obtain ⟨q1, q2, rfl⟩ := split_at hm
    have e' : byLen L 15 = (p ++ i :: q1) ++ j :: q2 := by rw [e]; simp
    obtain ⟨d, d1, d2⟩ := code_at L hb _ q2 j e'
    rw [b1, d1]
    show d / x ≠ b
    rw [List.map_append, acc_append, List.map_cons, acc_cons, ← b2, ← st] at d2
    intro hd
    have hle2 : (b + 1) * x * w15 (at0 L j) ≤ d * w15 (at0 L j) := by rw [Nat.add_mul, Nat.add_mul, Nat.one_mul, Nat.mul_assoc]; omega
    have h3 := Nat.le_of_mul_le_mul_right hle2 wp
    have h4 : b + 1 ≤ d / x := (Nat.le_div_iff_mul_le xp).2 h3
    omega
theorem half (l : Nat) (h : l ≤ 15) : (32768 : Int) / 2 ^ l = ((2 ^ (15 - l) : Nat) : Int) := by
  have : ∀ l : Nat, l < 16 → (32768 : Int) / 2 ^ l = ((2 ^ (15 - l) : Nat) : Int) := by decide
  exact this l (by omega)
theorem may_no65 {f : List Int} (h : ¬ f.length = 65) : mayL f = false := by unfold mayL; simp [h]
theorem may_bad {f : List Int} (h : f.any badl = true) : mayL f = false := by unfold mayL; simp [h]
theorem may_ok {f : List Int} (h : f.length = 65) (k : f.any badl = false) : mayL f = okL (nat f) := by unfold mayL; simp [h, k]

def okB (c s : Nat) : Bool := decide (c = 0) || decide (s = 32768) || (decide (c = 1) && decide (s = 16384))
theorem okL_B (L : List Nat) : okL L = okB (mC L 65) (mS L 65) := rfl
theorem nat_get (f : List Int) (i : Nat) (h : i < f.length) : at0 (nat f) i = f[i].toNat := by
  rw [at0_of _ i (by rw [nat_len]; exact h)]
  simp [nat]
def MlRel (f : List Int) (C M : Nat → Nat) (w : World) (sv cv iv : Value) (wr : World) : Prop :=
  ∃ i : Nat, i ≤ 65 ∧ iv = .int .i64 i ∧ sv = .int .i64 (M i : Nat) ∧ cv = .int .i64 (C i : Nat) ∧ (∀ z ∈ f.take i, badl z = false) ∧ wr = w
set_option maxRecDepth 100000 in
set_option maxHeartbeats 2000000 in
theorem mayl_any (a : Option Addr) (n cap : Nat) (f : List Int) (w : World) (h : RI w a n f) (hn : n ≤ 100000) :
    Calls Try.prog 52 #[.slice a n cap] w fun e w' => e = .returned (.bool (mayL f)) ∧ w' = w := by
  by_cases h1 : n = 65
  · subst h1
    have hl := h.1
    have HX := Hid.intro h.2
    have HL := Hid.intro hl
    have GA := Hid.intro (nat_get f)
    have BD := Hid.intro (fun (i : Nat) (hi : i < f.length) (hb : badl f[i] = true) => (may_bad (List.any_eq_true.2 ⟨_, List.getElem_mem hi, hb⟩) : mayL f = false))
    have OK := Hid.intro (fun (hg : ∀ z ∈ f, badl z = false) => ((may_ok hl (List.any_eq_false.2 (fun z hz => by simp [hg z hz]))).trans (okL_B _) : mayL f = okB (mC (nat f) 65) (mS (nat f) 65)))
    obtain ⟨ans, hans⟩ : ∃ ans, mayL f = ans := ⟨_, rfl⟩
    rw [hans] at BD OK ⊢
    obtain ⟨L, hL⟩ : ∃ L, nat f = L := ⟨_, rfl⟩
    rw [hL] at GA OK
    have M0 : mS L 0 = 0 := rfl
    have C0 : mC L 0 = 0 := rfl
    have MS := mS_succ L
    have CS := mC_succ L
    have MB := mS_bd L
    have CB := mC_bd L
    clear h hl hn hans hL
    generalize mS L = M at *
    generalize mC L = C at *
    have M0 := Hid.intro M0
    have C0 := Hid.intro C0
    have MS := Hid.intro MS
    have CS := Hid.intro CS
    have MB := Hid.intro MB
    have CB := Hid.intro CB
    go_enter Try.func52, Try.ntmps52
    go_wp2_with fail
    go_loopw [3, 4, 5] (fun sv cv iv wr => MlRel f C M w sv cv iv wr) (fun _ _ iv _ => 65 - (intOf iv).toNat)
    case atStart => exact ⟨0, by omega, rfl, by rw [M0.out]; rfl, by rw [C0.out]; rfl, by simp, rfl⟩
    case round =>
      obtain ⟨i, hi, rfl, rfl, rfl, hg, rfl⟩ := hrel
      have sb := MB.out i
      have cb := CB.out i
      by_cases hlt : i < 65
      · have hlf : i < f.length := by rw [HL.out]; exact hlt
        obtain ⟨x, rfl, hx⟩ := HX.out (by omega)
        have cl := hx i hlf
        have ga := GA.out i hlf
        have bd := Hid.intro (BD.out i hlf)
        have ts := take_snoc f i hlf
        have TS := Hid.intro (fun (hb : badl f[i] = false) (z : Int) (hz : z ∈ f.take (i + 1)) => (by
          rw [ts] at hz
          rcases List.mem_append.1 hz with h | h
          · exact hg z h
          · rw [List.mem_singleton.1 h]; exact hb : badl z = false))
        have S1 := Hid.intro (MS.out i)
        have C1 := Hid.intro (CS.out i)
        rw [ga] at S1 C1
        generalize M i = s at *
        generalize C i = c at *
        generalize f[i] = z at *
        clear hx ts hg hlf ga
        by_cases hneg : z < 0
        · have e := Hid.intro (bd.out (by unfold badl; simp; omega))
          go_wp2_with fail
          go_ret
          exact ⟨ret_bool e.out.symm, rfl⟩
        · by_cases hbig : 15 < z
          · have e := Hid.intro (bd.out (by unfold badl; simp; omega))
            go_wp2_with fail
            go_ret
            exact ⟨ret_bool e.out.symm, rfl⟩
          · have T2 := Hid.intro (TS.out ((badl_no z).2 (by omega)))
            obtain ⟨l, rfl⟩ : ∃ l : Nat, z = (l : Int) := ⟨z.toNat, by omega⟩
            rw [Int.toNat_natCast] at S1 C1
            clear TS bd
            by_cases hl : 0 < l
            · rw [if_pos hl] at S1 C1
              obtain ⟨y, hy⟩ : ∃ y : Nat, (15 : Int) - (l : Int) = (y : Int) := ⟨15 - l, by omega⟩
              have hy' : 15 - l = y := by omega
              rw [hy'] at S1
              obtain ⟨z, hz⟩ : ∃ z : Nat, 2 ^ y = z := ⟨_, rfl⟩
              have hzi : (2 : Int) ^ y = (z : Int) := by rw [← hz]; simp
              have hzb : z ≤ 32768 := by rw [← hz]; exact Nat.le_trans (Nat.pow_le_pow_right (by omega) (by omega : y ≤ 15)) (by decide)
              rw [hz] at S1
              have hy64 : y < 16 := by omega
              clear hz hy'
              go_wp2_with fail
              go_roundw
              case rel => exact ⟨i + 1, by omega, by go_num, by rw [S1.out, Int.natCast_add], by rw [C1.out, Int.natCast_add]; rfl, T2.out, rfl⟩
              case measure => simp [intOf]; omega
            · rw [if_neg hl] at S1 C1
              go_wp2_with fail
              go_roundw
              case rel => exact ⟨i + 1, by omega, by go_num, by rw [S1.out, Nat.add_zero], by rw [C1.out, Nat.add_zero], T2.out, rfl⟩
              case measure => simp [intOf]; omega
      · obtain rfl : i = 65 := by omega
        have e := OK.out (fun z hz => hg z (by rw [List.take_of_length_le (by rw [HL.out]; exact Nat.le_refl _)]; exact hz))
        generalize M 65 = s at *
        generalize C 65 = c at *
        have E := Hid.intro e
        clear e
        by_cases h1 : c = 0
        · subst h1
          go_wp2_with fail
          go_ret
          exact ⟨ret_bool (by rw [E.out]; rfl), rfl⟩
        · have t1 : ((c : Int) == 0) = false := by simp; omega
          by_cases h2 : s = 32768
          · subst h2
            go_wp2_with fail
            go_ret
            exact ⟨ret_bool (by rw [E.out]; simp [okB]), rfl⟩
          · have t2 : ((s : Int) == 32768) = false := by simp; omega
            by_cases h3 : c = 1
            · subst h3
              have E2 : Hid (ans = decide (s = 16384)) := by show _ = _; rw [E.out]; simp [okB, h2]
              by_cases h4 : s = 16384
              · subst h4
                go_wp2_with fail
                go_ret
                exact ⟨ret_bool (by rw [E2.out]; rfl), rfl⟩
              · have t4 : ((s : Int) == 16384) = false := by simp; omega
                go_wp2_with fail
                go_ret
                exact ⟨ret_bool (by rw [E2.out]; simp [h4]), rfl⟩
            · have t3 : ((c : Int) == 1) = false := by simp; omega
              go_wp2_with fail
              go_ret
              exact ⟨ret_bool (by rw [E.out]; simp [okB, h1, h2, h3]), rfl⟩
  · have M := Hid.intro (may_no65 (f := f) (by rw [h.1]; exact h1))
    have t : ((n : Int) == 65) = false := by simp; omega
    have t2 : ((n : Int) != 65) = true := by simp; omega
    clear h
    go_enter Try.func52, Try.ntmps52
    go_wp2_with fail
    go_ret
    exact ⟨ret_bool M.out.symm, rfl⟩
def hv (A : Nat) : Value := .agg #[.pointer (some ⟨A, 0, none⟩)]

theorem err_any (x : Int) (w : World) : Calls Try.prog 14 #[.int .i64 x] w fun e w' => e = .returned (.int .i64 x) ∧ w' = w := by
  go_enter Try.func14, Try.ntmps14
  go_wp2
  go_ret
  exact ⟨rfl, rfl⟩

theorem held_keep {w8 a b : World} {B : Nat} {u v : Value} (hB : B < w8.heap.size) (h : (a.cell? ⟨B, 0, none⟩ = some u ∧ a.cell? ⟨B, 1, none⟩ = some v) ∧ Below w8.heap.size w8 a) (k : Below a.heap.size a b) :
    (b.cell? ⟨B, 0, none⟩ = some u ∧ b.cell? ⟨B, 1, none⟩ = some v) ∧ Below w8.heap.size w8 b := by
  have hlt : B < a.heap.size := Nat.lt_of_lt_of_le hB h.2.size
  exact ⟨⟨by rw [k.cell (p := ⟨B, 0, none⟩) hlt]; exact h.1.1, by rw [k.cell (p := ⟨B, 1, none⟩) hlt]; exact h.1.2⟩, h.2.trans (k.mono h.2.size)⟩
theorem held_tail {w8 a : World} {p : Prop} (h : p ∧ Below w8.heap.size w8 a) : Below w8.heap.size w8 a := h.2
theorem held_same {a b : World} (h : b = a) : Below a.heap.size a b := by rw [h]; exact Below.refl _ _
end Go.Proofs.Ytlkebkchbgpnpaa
