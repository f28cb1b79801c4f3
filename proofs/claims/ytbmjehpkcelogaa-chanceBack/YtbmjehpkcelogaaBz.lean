/-
  Asks in memory: a row of the call's own; texts and their bytes.
-/
import Derived.Test.YtbmjehpkcelogaaBx
import Derived.Laws.IdiomStrings
import Derived.Laws.BitsAllLaws
import Derived.Maps.AppendAt
import Derived.Laws.OwnMore
namespace Go.Proofs.Ytbmjehpkcelogaa
open Go.ChangeShapes Go.WideShapes Go.ChangeAt Go.RowKit
open Go.ChangeMaps (open_string shut_string)


def Room (B : Nat) (w wr : World) (cap : Nat) (l : List UInt8) : Prop :=
  (∀ j, j < cap → (wr.cell? ⟨B, j, none⟩).isSome = true ∧ wr.frozen? ⟨B, j, none⟩ = false) ∧
  (∀ j (h : j < l.length), wr.cell? ⟨B, j, none⟩ = some (.int .u8 (l[j].toNat : Int))) ∧ Below B w wr ∧ B < wr.heap.size

/-- '[]byte(s)': a row of its own, with the text's bytes. -/
theorem bytes_of (s : ByteArray) (w : World) : ∃ cap W3, (convert 9 51 (.string s)).run Try.prog w = .ok (.slice (some ⟨w.heap.size, 0, none⟩) s.size cap) W3 ∧ Room w.heap.size w W3 s.size s.data.toList := by
  refine ⟨_, _, run_bytes_of_string w 9 51 5 s Try.underlying9 Try.underlying51 Try.underlying5, ?_⟩
  have hsz : s.size ≤ (bytesRow s (grownCap w s.size 0 5)).size := by
    unfold bytesRow
    rw [Array.size_append, Array.size_map]
    exact Nat.le_add_right _ _
  refine ⟨fun j hj => ⟨?_, ?_⟩, fun j hj => ?_, ?_, ?_⟩
  · rw [show w.heap.size = w.drew.heap.size from rfl, World.cell?_alloc_mark, bytesRow_at _ _ _ hj]; rfl
  · rw [show w.heap.size = w.drew.heap.size from rfl, World.frozen?_alloc_mark]
    simp; omega
  · rw [len_data] at hj
    rw [show w.heap.size = w.drew.heap.size from rfl, World.cell?_alloc_mark, bytesRow_at _ _ _ hj]
    rfl
  · exact ((Below.refl _ w).drew).alloc (Nat.le_refl _) _
  · simp

theorem room_str {B : Nat} {w wr : World} {cap : Nat} {l : List UInt8} (h : Room B w wr cap l) (n c : Nat) (hn : n = l.length) :
    (convert 51 9 (.slice (some ⟨B, 0, none⟩) n c)).run Try.prog wr = .ok (.string (bs l)) wr := by
  subst hn
  exact run_convert_bytes_back wr 51 9 5 ⟨B, 0, none⟩ c l Try.underlying51 Try.underlying5 Try.underlying9 (fun j hj => by rw [Addr.add_lit, Nat.zero_add]; exact h.2.1 j hj)

theorem room_upd {B : Nat} {w wr : World} {cap : Nat} {l : List UInt8} (h : Room B w wr cap l) (k : Nat) (hk : k < l.length) (c : UInt8) (v : Int) (hv : v = (c.toNat : Int)) :
    Room B w (wr.setCell ⟨B, k, none⟩ (.int .u8 v)) cap (l.set k c) := by
  obtain ⟨h1, h2, h3, h4⟩ := h
  subst hv
  have same := World.cell?_setCell_same wr ⟨B, k, none⟩ (.int .u8 (c.toNat : Int)) (h2 k hk)
  have other : ∀ j, j ≠ k → (wr.setCell ⟨B, k, none⟩ (.int .u8 (c.toNat : Int))).cell? ⟨B, j, none⟩ = wr.cell? ⟨B, j, none⟩ := fun j hj => by
    rw [World.cell?_setCell_other _ _ _ _ (by intro e; injection e; omega)]
  refine ⟨fun j hj => ⟨?_, ?_⟩, fun j hj => ?_, h3.setCell (Nat.le_refl _) _, by simp; omega⟩
  · by_cases e : j = k
    · rw [e, same]; rfl
    · rw [other j e]; exact (h1 j hj).1
  · simpa using (h1 j hj).2
  · by_cases e : j = k
    · subst e; simpa using same
    · rw [other j e, h2 j (by simpa using hj), List.getElem_set_ne (by omega)]
theorem bytes_of2 (s : ByteArray) (w : World) (hs : s.size ≤ 100000) : ∃ cap W3, (convert 9 51 (.string s)).run Try.prog w = .ok (.slice (some ⟨w.heap.size, 0, none⟩) s.size cap) W3 ∧ Room w.heap.size w W3 s.size s.data.toList ∧ s.size ≤ cap ∧ cap ≤ maxLen := by
  obtain ⟨cap, W3, h, r⟩ := bytes_of s w
  have e := run_bytes_of_string (P := Try.prog) w 9 51 5 s Try.underlying9 Try.underlying51 Try.underlying5
  rw [h] at e
  injection e with e1 e2
  injection e1 with _ _ e3
  subst e3
  exact ⟨_, _, h, r, grownCap_ge _ _ _ _, grownCap_le_maxLen _ _ _ _ (by simp only [maxLen]; omega)⟩
theorem room_str2 {B : Nat} {w wr : World} {cap : Nat} {l : List UInt8} (h : Room B w wr cap l) (n c : Nat) (hn : n ≤ l.length) :
    (convert 51 9 (.slice (some ⟨B, 0, none⟩) n c)).run Try.prog wr.drew = .ok (.string (bs (l.take n))) wr.drew := by
  have hl : (l.take n).length = n := by rw [List.length_take]; omega
  have := run_convert_bytes_back wr.drew 51 9 5 ⟨B, 0, none⟩ c (l.take n) Try.underlying51 Try.underlying5 Try.underlying9 (fun j hj => by
    rw [Addr.add_lit, Nat.zero_add]
    have h2 := h.2.1 j (by omega)
    rw [List.getElem_take]
    exact h2)
  rw [hl] at this
  exact this

/-- A row of asks of the call's own. -/
def Ak (W : World) (v : Value) (len : Nat) (l : List (Int × Int × Int × Nat)) : Prop :=
  W.ownsRow 0 30 4 v len (flat l) ∧ l.length = len ∧ ∀ (i : Nat) (q : Int × Int × Int × Nat), l[i]? = some q → q.2.2.2 < 18446744073709551616
theorem ownr_kept {W W' : World} {S : Nat → Prop} {e size : Nat} {v : Value} {n : Nat} {xs : List Value} (h : W.ownsRow 0 e size v n xs) (g : Chg S W W') (hS : ∀ k, v.ownBlock = some k → ¬ S k) : W'.ownsRow 0 e size v n xs := by
  refine ⟨h.1, ?_⟩
  rcases h.2 with hn | ⟨b, cap, cur, rfl, hb, hg, rest⟩
  · exact .inl hn
  · exact .inr ⟨b, cap, cur, rfl, hb, (g.2.2.2.2 b (Array.getElem?_eq_some_iff.1 hg).1 (hS b rfl)).trans hg, rest⟩
theorem ak_kept {W W' : World} {S : Nat → Prop} {v : Value} {len : Nat} {l : List (Int × Int × Int × Nat)} (h : Ak W v len l) (g : Chg S W W') (hS : ∀ k, v.ownBlock = some k → ¬ S k) : Ak W' v len l := ⟨ownr_kept h.1 g hS, h.2⟩
theorem ak_lt {W : World} {v : Value} {len : Nat} {l : List (Int × Int × Int × Nat)} (h : Ak W v len l) (k : Nat) (hk : v.ownBlock = some k) : k < W.heap.size := (h.1.lt k hk).2
theorem ak_slice {W : World} {v : Value} {len : Nat} {l : List (Int × Int × Int × Nat)} (h : Ak W v len l) : ∃ a cap, v = .slice a len cap ∧ len ≤ cap ∧ cap ≤ maxLen ∧ IsAsks W a len cap l := by
  obtain ⟨h1, h2, h3⟩ := h
  rcases h1.2 with ⟨hv, h0⟩ | ⟨g, cap, cur, hv, _, hg, hc, hm, hs, ht⟩
  · subst h0
    refine ⟨none, 0, hv, Nat.le_refl _, Nat.zero_le _, h2, Nat.zero_le _, Nat.le_refl _, fun _ => ⟨rfl, rfl⟩, fun x hx => by cases hx⟩
  · refine ⟨some ⟨g, 0, none⟩, cap, hv, hc, hm, h2, Nat.le_trans hc hm, hc, fun hx => (by cases hx), fun x hx i q hq => ?_⟩
    injection hx with hx
    subst hx
    have c := h1.cells (g := g) (by rw [hv]; rfl)
    obtain ⟨f0, f1, f2, f3⟩ := flat_at l i q hq
    exact ⟨c _ _ f0, c _ _ f1, c _ _ f2, c _ _ f3, h3 i q hq⟩
/-- A count set anew. -/
theorem ak_set {W : World} {g len cap : Nat} {l : List (Int × Int × Int × Nat)} (h : Ak W (.slice (some ⟨g, 0, none⟩) len cap) len l) (i : Nat) (q : Int × Int × Int × Nat) (hq : l[i]? = some q) (n : Int) (o : Nat) (ho : o = i * 4 + 2) :
    Ak (W.setCell ⟨g, o, none⟩ (.int .i64 n)) (.slice (some ⟨g, 0, none⟩) len cap) len (l.set i (q.1, q.2.1, n, q.2.2.2)) := by
  subst ho
  obtain ⟨h1, h2, h3⟩ := h
  refine ⟨⟨?_, ?_⟩, by simpa using h2, fun j p hp => ?_⟩
  · rw [flat_len, List.length_set, h2]
  · rcases h1.2 with ⟨h0, _⟩ | ⟨g', cap', cur, hv, hb, hg, hc, hm, hs, ht⟩
    · cases h0
    · injection hv with e1 e2 e3
      injection e1 with e1
      injection e1 with e1
      subst e1 e3
      refine .inr ⟨g, cap, cur.setIfInBounds (i * 4 + 2) (.int .i64 n), rfl, hb, blk_set hg _ _, hc, hm, by simpa using hs, ?_⟩
      rw [Array.toList_setIfInBounds, List.take_set, ht, flat_set l i q n hq]
  · rw [List.getElem?_set] at hp
    split at hp
    · split at hp
      · injection hp with hp
        subst hp
        exact h3 i q hq
      · cases hp
    · exact h3 j p hp
theorem bitf_any (b : Int) (W : World) : Calls Try.prog 27 #[.int .i64 b] W fun e W' => e = .returned (.int .i64 ((if b ≠ 0 then 1 else 0 : Nat) : Int)) ∧ W = W' := by
  by_cases hb : b ≠ 0
  · have hbb : (b != 0) = true := by simpa using hb
    rw [if_pos hb]
    go_enter Try.func27, Try.ntmps27
    go_wp2
    go_ret
    exact ⟨rfl, rfl⟩
  · have hb0 : b = 0 := by omega
    subst hb0
    rw [if_neg hb]
    go_enter Try.func27, Try.ntmps27
    go_wp2
    go_ret
    exact ⟨rfl, rfl⟩
theorem run_pushA {P : Program} (w : World) (t ty e : TypeId) (i : TypeInfo) (z : Value) (size bytes : Nat) (ht : P.underlying t = some (.slice e)) (hi : P.info? e = some i) (hz : i.zero = some z)
    (hsize : i.size = size) (hby : i.bytes = bytes) (hzs : z.cells.size = size) (hsz : 0 < size) (h16 : bytes ≤ 64)
    (v : Value) (n : Nat) (xs : List Value) (hown : w.ownsRow 0 e size v n xs)
    (a : Addr) (m c : Nat) (news : List Value) (hl : news.length = m * size) (hnews : ∀ j u, news[j]? = some u → w.cell? (a.add j) = some u) (h1 : ∀ u ∈ news, u.oneCell' = true) (hn : n + m ≤ 100000) :
    ∃ v' w', (Builtin.append_ #[t, t] ty #[v, .slice (some a) m c]).run P w = .ok v' w' ∧ w'.ownsRow 0 e size v' (n + m) (xs ++ news) ∧ w.grownBy w' v.ownBlock ∧ Moved w v v' := by
  have hb : (n + m) * bytes ≤ 140737488355328 := by
    have : (n + m) * bytes ≤ 100000 * 64 := Nat.mul_le_mul hn h16
    omega
  obtain ⟨v', w', r0, r1, r2, _, r4⟩ := run_append_own_at (P := P) w 0 t ty e i z size bytes ht hi hz hsize hby hzs hsz v n xs hown a m c news hl hnews h1 (by simp only [maxLen]; omega) hb (Nat.zero_le _)
  refine ⟨v', w', r0, r1, r2, fun k hk => ?_⟩
  rcases r4 with r4 | r4
  · left; rw [← r4]; exact hk
  · right; rw [hk] at r4; injection r4 with r4; omega
/-- Whatever is behind a slice (nil too) appended to a row of the call's own. -/
theorem run_pushB {P : Program} (w : World) (t ty e : TypeId) (i : TypeInfo) (z : Value) (size bytes : Nat) (ht : P.underlying t = some (.slice e)) (hi : P.info? e = some i) (hz : i.zero = some z)
    (hsize : i.size = size) (hby : i.bytes = bytes) (hzs : z.cells.size = size) (hsz : 0 < size) (h16 : bytes ≤ 64)
    (v : Value) (n : Nat) (xs : List Value) (hown : w.ownsRow 0 e size v n xs)
    (a : Option Addr) (m c : Nat) (news : List Value) (hl : news.length = m * size) (hc0 : a = none → c = 0 ∧ m = 0) (hnews : ∀ x, a = some x → ∀ j u, news[j]? = some u → w.cell? (x.add j) = some u) (h1 : ∀ u ∈ news, u.oneCell' = true) (hn : n + m ≤ 100000) :
    ∃ v' w', (Builtin.append_ #[t, t] ty #[v, .slice a m c]).run P w = .ok v' w' ∧ w'.ownsRow 0 e size v' (n + m) (xs ++ news) ∧ w.grownBy w' v.ownBlock ∧ Moved w v v' := by
  cases a with
  | some x => exact run_pushA w t ty e i z size bytes ht hi hz hsize hby hzs hsz h16 v n xs hown x m c news hl (hnews x rfl) h1 hn
  | none =>
    obtain ⟨rfl, rfl⟩ := hc0 rfl
    have hnil : news = [] := List.eq_nil_of_length_eq_zero (by simpa using hl)
    subst hnil
    refine ⟨v, w, run_append_owned_none (P := P) w 0 t ty e i size ht hi v n xs hown, ?_, ⟨rfl, rfl, rfl, Nat.le_refl _, fun _ _ _ => rfl⟩, fun k hk => .inl hk⟩
    rw [List.append_nil]; exact hown
theorem wpList_pushB {P : Program} (w : World) {ops : Array Oper} {rest : List Oper} {o : Oper} {a : Act} {Q : Exit → Act → World → Prop}
    (hg : o.guard = none) (s x : Operand) (t : TypeId) (hop : o.op = Op.call { callee := Callee.builtin Builtin.append, args := #[s, x], argTypes := #[t, t] })
    (e : TypeId) (i : TypeInfo) (z : Value) (size bytes : Nat) (ht : P.underlying t = some (.slice e)) (hi : P.info? e = some i) (hz : i.zero = some z)
    (hsize : i.size = size) (hby : i.bytes = bytes) (hzs : z.cells.size = size) (hsz : 0 < size) (h16 : bytes ≤ 64)
    (v : Value) (n : Nat) (xs : List Value) (hs : a.eval s = v) (hown : w.ownsRow 0 e size v n xs)
    (ad : Option Addr) (m c : Nat) (news : List Value) (hx : a.eval x = .slice ad m c) (hl : news.length = m * size) (hc0 : ad = none → c = 0 ∧ m = 0) (hnews : ∀ x, ad = some x → ∀ j u, news[j]? = some u → w.cell? (x.add j) = some u) (h1 : ∀ u ∈ news, u.oneCell' = true) (hn : n + m ≤ 100000)
    (hK : ∀ v' w', w'.ownsRow 0 e size v' (n + m) (xs ++ news) → w.grownBy w' v.ownBlock → Moved w v v' → wpList P ops Q rest (a.put o.dst v') w') :
    wpList P ops Q (o :: rest) a w := by
  refine wpList_plain hg fun K hK' => ?_
  obtain ⟨v', w', hr, r1, r2, r3⟩ := run_pushB (P := P) w t o.type e i z size bytes ht hi hz hsize hby hzs hsz h16 v n xs hown ad m c news hl hc0 hnews h1 hn
  unfold Oper.wp execOp
  simp only [hop, resolve, invoke, builtin, Sem.run_bind, Sem.run_pure, Result.andThen_ok, List.map_toArray, List.map_cons, List.map_nil, hs, hx, hr]
  exact hK' _ _ (hK v' w' r1 r2 r3)
theorem info30 : (Try.prog.info? 30).map (fun i => (i.zero, i.size, i.bytes)) = some (some (.agg #[.int .i64 0, .int .i64 0, .int .i64 0, .int .u64 0]), 4, 32) := by kernel_rfl
end Go.Proofs.Ytbmjehpkcelogaa
