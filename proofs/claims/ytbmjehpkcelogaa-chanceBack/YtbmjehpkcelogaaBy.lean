/-
  Package chance, the encoder: Bit, Direct, Bytes.
-/
import Derived.Test.YtbmjehpkcelogaaNa
import Derived.Maps.AppendAt
import Derived.Laws.OwnMore
namespace Go.Proofs.Ytbmjehpkcelogaa
open Go.ChangeShapes Go.WideShapes Go.ChangeAt Go.RowKit
open Go.ChangeMaps (open_string shut_string)
theorem run_pushL {P : Program} (w : World) (t ty e : TypeId) (i : TypeInfo) (z : Value) (size bytes : Nat) (ht : P.underlying t = some (.slice e)) (hi : P.info? e = some i) (hz : i.zero = some z)
    (hsize : i.size = size) (hby : i.bytes = bytes) (hzs : z.cells.size = size) (hsz : 0 < size) (h16 : bytes ≤ 16)
    (v : Value) (n : Nat) (xs : List Value) (hown : w.ownsRow 0 e size v n xs)
    (a : Addr) (m c : Nat) (news : List Value) (hl : news.length = m * size) (hnews : ∀ j u, news[j]? = some u → w.cell? (a.add j) = some u) (h1 : ∀ u ∈ news, u.oneCell' = true) (hn : n + m ≤ 100000) :
    ∃ v' w', (Builtin.append_ #[t, t] ty #[v, .slice (some a) m c]).run P w = .ok v' w' ∧ w'.ownsRow 0 e size v' (n + m) (xs ++ news) ∧ w.grownBy w' v.ownBlock ∧ Moved w v v' := by
  have hb : (n + m) * bytes ≤ 140737488355328 := by
    have : (n + m) * bytes ≤ 100000 * 16 := Nat.mul_le_mul hn h16
    omega
  obtain ⟨v', w', r0, r1, r2, _, r4⟩ := run_append_own_at (P := P) w 0 t ty e i z size bytes ht hi hz hsize hby hzs hsz v n xs hown a m c news hl hnews h1 (by simp only [maxLen]; omega) hb (Nat.zero_le _)
  refine ⟨v', w', r0, r1, r2, fun k hk => ?_⟩
  rcases r4 with r4 | r4
  · left; rw [← r4]; exact hk
  · right; rw [hk] at r4; injection r4 with r4; omega
/-- Whatever is behind a slice (nil too) appended to a row of the call's own. -/
theorem run_pushS {P : Program} (w : World) (t ty e : TypeId) (i : TypeInfo) (z : Value) (size bytes : Nat) (ht : P.underlying t = some (.slice e)) (hi : P.info? e = some i) (hz : i.zero = some z)
    (hsize : i.size = size) (hby : i.bytes = bytes) (hzs : z.cells.size = size) (hsz : 0 < size) (h16 : bytes ≤ 16)
    (v : Value) (n : Nat) (xs : List Value) (hown : w.ownsRow 0 e size v n xs)
    (a : Option Addr) (m c : Nat) (news : List Value) (hl : news.length = m * size) (hc0 : a = none → c = 0 ∧ m = 0) (hnews : ∀ x, a = some x → ∀ j u, news[j]? = some u → w.cell? (x.add j) = some u) (h1 : ∀ u ∈ news, u.oneCell' = true) (hn : n + m ≤ 100000) :
    ∃ v' w', (Builtin.append_ #[t, t] ty #[v, .slice a m c]).run P w = .ok v' w' ∧ w'.ownsRow 0 e size v' (n + m) (xs ++ news) ∧ w.grownBy w' v.ownBlock ∧ Moved w v v' := by
  cases a with
  | some x => exact run_pushL w t ty e i z size bytes ht hi hz hsize hby hzs hsz h16 v n xs hown x m c news hl (hnews x rfl) h1 hn
  | none =>
    obtain ⟨rfl, rfl⟩ := hc0 rfl
    have hnil : news = [] := List.eq_nil_of_length_eq_zero (by simpa using hl)
    subst hnil
    refine ⟨v, w, run_append_owned_none (P := P) w 0 t ty e i size ht hi v n xs hown, ?_, ⟨rfl, rfl, rfl, Nat.le_refl _, fun _ _ _ => rfl⟩, fun k hk => .inl hk⟩
    rw [List.append_nil]; exact hown
theorem wpList_pushS {P : Program} (w : World) {ops : Array Oper} {rest : List Oper} {o : Oper} {a : Act} {Q : Exit → Act → World → Prop}
    (hg : o.guard = none) (s x : Operand) (t : TypeId) (hop : o.op = Op.call { callee := Callee.builtin Builtin.append, args := #[s, x], argTypes := #[t, t] })
    (e : TypeId) (i : TypeInfo) (z : Value) (size bytes : Nat) (ht : P.underlying t = some (.slice e)) (hi : P.info? e = some i) (hz : i.zero = some z)
    (hsize : i.size = size) (hby : i.bytes = bytes) (hzs : z.cells.size = size) (hsz : 0 < size) (h16 : bytes ≤ 16)
    (v : Value) (n : Nat) (xs : List Value) (hs : a.eval s = v) (hown : w.ownsRow 0 e size v n xs)
    (ad : Option Addr) (m c : Nat) (news : List Value) (hx : a.eval x = .slice ad m c) (hl : news.length = m * size) (hc0 : ad = none → c = 0 ∧ m = 0) (hnews : ∀ x, ad = some x → ∀ j u, news[j]? = some u → w.cell? (x.add j) = some u) (h1 : ∀ u ∈ news, u.oneCell' = true) (hn : n + m ≤ 100000)
    (hK : ∀ v' w', w'.ownsRow 0 e size v' (n + m) (xs ++ news) → w.grownBy w' v.ownBlock → Moved w v v' → wpList P ops Q rest (a.put o.dst v') w') :
    wpList P ops Q (o :: rest) a w := by
  refine wpList_plain hg fun K hK' => ?_
  obtain ⟨v', w', hr, r1, r2, r3⟩ := run_pushS (P := P) w t o.type e i z size bytes ht hi hz hsize hby hzs hsz h16 v n xs hown ad m c news hl hc0 hnews h1 hn
  unfold Oper.wp execOp
  simp only [hop, resolve, invoke, builtin, Sem.run_bind, Sem.run_pure, Result.andThen_ok, List.map_toArray, List.map_cons, List.map_nil, hs, hx, hr]
  exact hK' _ _ (hK v' w' r1 r2 r3)
theorem step_pushS {P : Program} {ops : Array Oper} {o : Oper} {a : Act} {w : World} {K : Act → World → Prop} {Q : Exit → Act → World → Prop} {E : Prop}
    (hg : o.guard = none) (s x : Operand) (t : TypeId) (hop : o.op = Op.call { callee := Callee.builtin Builtin.append, args := #[s, x], argTypes := #[t, t] })
    (e : TypeId) (i : TypeInfo) (z : Value) (size bytes : Nat) (ht : P.underlying t = some (.slice e)) (hi : P.info? e = some i) (hz : i.zero = some z)
    (hsize : i.size = size) (hby : i.bytes = bytes) (hzs : z.cells.size = size) (hsz : 0 < size) (h16 : bytes ≤ 16)
    (v : Value) (n : Nat) (xs : List Value) (hs : a.eval s = v) (hown : w.ownsRow 0 e size v n xs)
    (ad : Option Addr) (m c : Nat) (news : List Value) (hx : a.eval x = .slice ad m c) (hl : news.length = m * size) (hc0 : ad = none → c = 0 ∧ m = 0) (hnews : ∀ x, ad = some x → ∀ j u, news[j]? = some u → w.cell? (x.add j) = some u) (h1 : ∀ u ∈ news, u.oneCell' = true) (hn : n + m ≤ 100000)
    (hK : ∀ v' w', w'.ownsRow 0 e size v' (n + m) (xs ++ news) → w.grownBy w' v.ownBlock → Moved w v v' → K (a.put o.dst v') w') :
    if Region.wanted o (yielded ops a.tmps) = true then Oper.wp P o a w K Q else E := by
  have hw : Region.wanted o (yielded ops a.tmps) = true := by simp [Region.wanted, hg]
  rw [if_pos hw]
  obtain ⟨v', w', hrun, r1, r2, r3⟩ := run_pushS (P := P) w t o.type e i z size bytes ht hi hz hsize hby hzs hsz h16 v n xs hown ad m c news hl hc0 hnews h1 hn
  unfold Oper.wp
  simp [execOp, hop, resolve, invoke, builtin, hs, hx, hrun, Result.andThen]
  exact hK v' w' r1 r2 r3
theorem none_none {α : Type} {p q : Prop} {x : α} (h : some x = none) : p ∧ q := by cases h
theorem bytes_one (l : List UInt8) : ∀ u ∈ l.map byteV, u.oneCell' = true := by
  intro u hu
  obtain ⟨z, _, rfl⟩ := List.mem_map.1 hu
  rfl
/-- A row that has just been made of one byte. -/
theorem own_lit (w : World) (c : UInt8) (x : Int) (hx : x = (c.toNat : Int)) : (w.alloc (.cells #[.int .u8 x] 5)).ownsRow 0 5 1 (.slice (some ⟨w.heap.size, 0, none⟩) 1 1) 1 ([c].map byteV) := by
  subst hx
  refine ⟨rfl, .inr ⟨w.heap.size, 1, #[byteV c], rfl, Nat.zero_le _, blk_new w #[byteV c] 5, Nat.le_refl _, by simp [maxLen], by simp, by simp⟩⟩
/-- Any row of bytes: a slice of as many, behind which they lie. -/
theorem own_news {w : World} {v : Value} {n : Nat} {l : List UInt8} (h : w.ownsRow 0 5 1 v n (l.map byteV)) :
    ∃ ad c, v = .slice ad n c ∧ (l.map byteV).length = n * 1 ∧ (ad = none → c = 0 ∧ n = 0) ∧ ∀ x, ad = some x → ∀ j u, (l.map byteV)[j]? = some u → w.cell? (x.add j) = some u := by
  rcases h.2 with ⟨hv, h0⟩ | ⟨g, cap, cur, hv, rest⟩
  · subst h0
    exact ⟨none, 0, hv, h.1, fun _ => ⟨rfl, rfl⟩, fun x hx => by cases hx⟩
  · refine ⟨some ⟨g, 0, none⟩, cap, hv, h.1, fun hx => (by cases hx), fun x hx j u hj => ?_⟩
    injection hx with hx
    subst hx
    exact h.cells (g := g) (by rw [hv]; rfl) j u hj

/-- What an encoder leaves alone: its parts when other blocks turn. -/
theorem en_kept {F : Value → Value → Value → Array Value} {t : TypeId} {W W' : World} {S : Nat → Prop} {A : Nat} {v : Value} {j L R : Nat} (h : En F t W A v j L R) (g : Chg S W W') (hS : ∀ k, foot A v k → ¬ S k) : En F t W' A v j L R :=
  ⟨blk_kept h.1 g (hS A (.inl rfl)), own_kept h.2.1 g (fun k hk => hS k (.inr hk)), h.2.2.1, h.2.2.2⟩
theorem en_lt {F : Value → Value → Value → Array Value} {t : TypeId} {W : World} {A : Nat} {v : Value} {j L R : Nat} (h : En F t W A v j L R) (k : Nat) (hk : foot A v k) : k < W.heap.size :=
  hk.elim (fun e => e ▸ blk_lt h.1) (fun e => (h.2.1.lt k e).2)

theorem bit_any {F : Value → Value → Value → Array Value} {o : Nat} {t : TypeId} (hF : Fit F o) (A : Nat) (v : Value) (j L R : Nat) (p b : Int) (W : World) (h : En F t W A v j L R) (hR : 16777216 ≤ R) (hj : j ≤ 100000) :
    Calls Try.prog 14 #[ptrO A o, .int .i64 p, .int .i64 b] W (EnPost F t A v (bitS p (decide (b ≠ 0)) (j, L, R)).1 (bitS p (decide (b ≠ 0)) (j, L, R)).2.1 (bitS p (decide (b ≠ 0)) (j, L, R)).2.2 W) := by
  have B := below_any hF A v j L R p W h
  have Z := size_any hF A v j L R W h
  obtain ⟨b1, b2⟩ := bel_lt p R hR
  have hR2 := h.2.2.2
  by_cases hb : b ≠ 0
  · have N := narrow_any hF A v j L R 0 (bel p R) W h (by omega) (by omega) (by omega) hj
    rw [decide_eq_true hb]
    simp only [bitS, if_true]
    unfold nar
    simp only
    rw [Nat.add_zero] at N
    have hb' : (b != 0) = true := by simpa using hb
    clear hR hR2 b1 b2 Z
    generalize bel p R = q at *
    unfold ptrO at *
    go_enter Try.func14, Try.ntmps14
    go_wp2_with (first | (go_at_call 34; refine B.mono ?_; rintro e w1 ⟨rfl, rfl⟩))
    refine N.mono ?_
    rintro e w1 ⟨rfl, k⟩
    go_wp2
    go_end0
    exact ⟨rfl, k⟩
  · have N := narrow_any hF A v j L R (bel p R) (R - bel p R) W h (by omega) (by omega) (by omega) hj
    rw [decide_eq_false hb]
    simp only [bitS, Bool.false_eq_true, if_false]
    unfold nar
    simp only
    have hb0 : b = 0 := by omega
    have hs : (R : Int) - ((bel p R : Nat) : Int) = ((R - bel p R : Nat) : Int) := by omega
    have hs2 : ((R - bel p R : Nat) : Int) ≤ 4294967295 := by omega
    clear hR hR2 b1 b2 hb
    subst hb0
    generalize bel p R = q at *
    generalize R - q = s at *
    unfold ptrO at *
    go_enter Try.func14, Try.ntmps14
    go_wp2_with (first | (go_at_call 34; refine B.mono ?_; rintro e w1 ⟨rfl, rfl⟩) | (go_at_call 35; refine Z.mono ?_; rintro e w1 ⟨rfl, rfl⟩))
    refine N.mono ?_
    rintro e w1 ⟨rfl, k⟩
    go_wp2
    go_end0
    exact ⟨rfl, k⟩
end Go.Proofs.Ytbmjehpkcelogaa
