/-
  Objects in memory: which blocks a call may change; a writer of bits and a reader of bits as blocks; what stays of them when other blocks change; package bits, the writer: New, Put, Len, Bytes, for every number and every length: Put through its own method value, by the length of what is still to be put; package bits, Put: for every number and every length, by the length of what is still to be put.
-/
import Derived.Test.YtofclflcicjlaaaGreatPushh
import Derived.Test.YtofclflcicjlaaaGreatLy
import Derived.Test.YtofclflcicjlaaaGreatSc
import Derived.Test.YtofclflcicjlaaaGreatSg
import Derived.WalkKit
import Derived.ProofKit
import Derived.OpenShut
import Derived.ArgAppend
import Derived.Laws.IdiomStrings
import Derived.Deep.Heap
namespace Go.Proofs.YtofclflcicjlaaaGreat
set_option maxRecDepth 100000
open Go.ChangeShapes Go.WideShapes Go.ChangeAt Go.RowKit
open Go.ChangeMaps (open_string shut_string)

def byteV (c : UInt8) : Value := .int .u8 (c.toNat : Int)
/-- Block A is a writer of sz bits, the number N; its bytes lie in v. -/
def Wr (W : World) (A : Nat) (v : Value) (sz N : Nat) : Prop :=
  Blk W A #[v, .int .i64 sz] 151 ∧ W.ownsRow 0 5 1 v (byc sz) ((byt N (byc sz)).map byteV) ∧ v.ownBlock ≠ some A ∧ N < 2 ^ sz

/-- A row of bytes with at least one: where it lies. -/
theorem own_at8 {W : World} {v : Value} {n : Nat} {l : List UInt8} (h : W.ownsRow 0 5 1 v n (l.map byteV)) (hn : 0 < n) :
    ∃ g cap cur, v = .slice (some ⟨g, 0, none⟩) n cap ∧ n ≤ cap ∧ Blk W g cur 5 ∧ cap ≤ cur.size ∧ cur.toList.take n = l.map byteV ∧ l.length = n := by
  obtain ⟨h1, h2⟩ := h
  rcases h2 with ⟨_, h0⟩ | ⟨g, cap, cur, hv, _, hg, hc, _, hs, ht⟩
  · omega
  · exact ⟨g, cap, cur, hv, hc, hg, by omega, by simpa using ht, by simpa using h1⟩

theorem own_cell8 {W : World} {g n : Nat} {cur : Array Value} {l : List UInt8} (h : Blk W g cur 5) (ht : cur.toList.take n = l.map byteV) (j : Nat) (hj : j < l.length) (hn : l.length = n) :
    W.cell? ⟨g, j, none⟩ = some (byteV l[j]) := by
  rw [blk_cell h]
  have : (cur.toList.take n)[j]? = some (byteV l[j]) := by rw [ht]; simp [hj]
  rw [List.getElem?_take, if_pos (by omega)] at this
  simpa using this

/-- One byte of the row set anew. -/
theorem own_set8 {W : World} {g n cap : Nat} {l : List UInt8} (h : W.ownsRow 0 5 1 (.slice (some ⟨g, 0, none⟩) n cap) n (l.map byteV)) (j : Nat) (c : UInt8) (x : Int) (hx : x = (c.toNat : Int)) :
    (W.setCell ⟨g, j, none⟩ (.int .u8 x)).ownsRow 0 5 1 (.slice (some ⟨g, 0, none⟩) n cap) n ((l.set j c).map byteV) := by
  subst hx
  obtain ⟨h1, h2⟩ := h
  refine ⟨by simpa using h1, ?_⟩
  rcases h2 with ⟨h0, _⟩ | ⟨g', cap', cur, hv, hb, hg, hc, hm, hs, ht⟩
  · cases h0
  · injection hv with e1 e2 e3
    injection e1 with e1
    injection e1 with e1
    subst e1 e3
    refine .inr ⟨g, cap, cur.setIfInBounds j (byteV c), rfl, hb, blk_set hg j _, hc, hm, by simpa using hs, ?_⟩
    rw [Array.toList_setIfInBounds, List.take_set, show n * 1 = n from by omega, show cur.toList.take n = l.map byteV from by simpa using ht, List.map_set]

theorem own_low8 {w : World} {base : Nat} {v : Value} {n : Nat} {xs : List Value} (h : w.ownsRow base 5 1 v n xs) : w.ownsRow 0 5 1 v n xs := by
  refine ⟨h.1, ?_⟩
  rcases h.2 with hn | ⟨g, cap, cur, hv, _, rest⟩
  · exact .inl hn
  · exact .inr ⟨g, cap, cur, hv, Nat.zero_le _, rest⟩

/-- One byte behind a row of the call's own: the row stands where it stood, or in new memory. -/
theorem wpList_push8 {P : Program} (w : World) {ops : Array Oper} {rest : List Oper} {o : Oper} {a : Act} {Q : Exit → Act → World → Prop}
    (hg : o.guard = none) (s x : Operand) (t : TypeId) (hop : o.op = Op.call { callee := Callee.builtin Builtin.append, args := #[s, x], argTypes := #[t, t] })
    (i : TypeInfo) (h1 : P.underlying t = some (.slice 5)) (h2 : P.info? 5 = some i) (h3 : i.zero = some (.int .u8 0)) (h4 : i.size = 1) (h5 : i.bytes = 1)
    (v : Value) (n : Nat) (l : List UInt8) (hs : a.eval s = v) (hown : w.ownsRow 0 5 1 v n (l.map byteV)) (hl : n ≤ 1000000)
    (ad : Addr) (z : Int) (c : UInt8) (hz : z = (c.toNat : Int)) (hx : a.eval x = .slice (some ad) 1 1) (hc : w.cell? ad = some (.int .u8 z))
    (hK : ∀ v' w', w'.ownsRow 0 5 1 v' (n + 1) ((l ++ [c]).map byteV) → w.grownBy w' v.ownBlock → Moved w v v' → wpList P ops Q rest (a.put o.dst v') w') :
    wpList P ops Q (o :: rest) a w := by
  subst hz
  have hmap : (l ++ [c]).map byteV = l.map byteV ++ [.int .u8 (c.toNat : Int)] := by simp [byteV]
  have hcn : ∀ j u, [Value.int .u8 (c.toNat : Int)][j]? = some u → w.cell? (ad.add j) = some u := by
    intro j u hj
    match j, hj with
    | 0, hj => simp at hj; subst hj; simpa [Addr.add] using hc
  rcases hown.2 with ⟨hv, hn0⟩ | ⟨g, cap, cur, hv, _, hgb, hcap, _, hsz, ht⟩
  · subst hn0
    have hl0 : l = [] := by have := hown.1; simpa using this
    subst hl0
    refine wpList_append_own w hg s x t hop w.heap.size 5 i (.int .u8 0) 1 1 h1 h2 h3 h4 h5 rfl (by decide) v 0 [] hs (by rw [hv]; exact World.ownsRow_nil _ _ _ _) ad 1 1 _ hx rfl hcn (by intro u hu; simp at hu; subst hu; rfl) (by simp only [maxLen]; omega) (by omega) (Nat.le_refl _) fun v' w' a1 a2 _ => ?_
    refine hK v' w' (by rw [hmap]; exact own_low8 a1) a2 fun k hk => .inr ?_
    exact (a1.lt k hk).1
  · have hlen : l.length = n := by have := hown.1; simpa using this
    have holds : ∀ j u, (l.map byteV)[j]? = some u → w.cell? ⟨g, 0 + j, none⟩ = some u := by
      intro j u hj
      have := hown.cells (g := g) (by rw [hv]; rfl) j u hj
      rw [Addr.add_lit] at this
      exact this
    refine wpList_append_arg w hg s x t hop 5 i (.int .u8 0) 1 1 h1 h2 h3 h4 h5 rfl (by decide) g 0 n cap (l.map byteV) (hs.trans hv) (by simp; omega) holds ad 1 1 _ hx rfl hcn (by intro u hu; simp at hu; subst hu; rfl) (fun hr j hj => ?_) (by simp only [maxLen]; omega) (by omega) (fun hr => ?_) (fun hr v' w' a1 a2 => ?_)
    · simp at hj; subst hj
      refine ⟨?_, blk_free hgb _⟩
      rw [blk_cell hgb]; simp; omega
    · simp only [World.setCells]
      refine hK _ _ ⟨by simp; omega, .inr ⟨g, cap, cur.setIfInBounds n (.int .u8 (c.toNat : Int)), rfl, Nat.zero_le _, ?_, hr, by omega, by simpa using hsz, ?_⟩⟩ ⟨rfl, rfl, rfl, by rw [Go.Deep.nblk_setCell]; exact Nat.le_refl _, fun k _ hk => Below.heap_setCell _ _ _ _ (fun e => hk (by rw [hv, e]; rfl))⟩ (fun k hk => .inl (by rw [hv]; exact hk))
      · have := blk_set hgb n (.int .u8 (c.toNat : Int))
        simpa [Blk] using this
      · rw [Nat.mul_one] at ht ⊢
        have hnc : n < cur.toList.length := by simp; omega
        rw [Array.toList_setIfInBounds, List.take_set, List.take_succ_eq_append_getElem hnc, ht, hmap, List.set_append_right _ _ (by simp; omega)]
        simp [hlen]
    · refine hK v' w' (by rw [hmap]; exact own_low8 a1) ⟨a2.os, a2.tape, a2.output, a2.size, fun k hk _ => a2.block k hk (by simp)⟩ (fun k hk => .inr (a1.lt k hk).1)

theorem info5 : (Tryz.prog.info? 5).map (fun i => (i.zero, i.size, i.bytes)) = some (some (.int .u8 0), 1, 1) := by kernel_rfl

theorem low_eq : ∀ n : Nat, n ≤ 8 → (((2 : Int) ^ n % 256 - 1) % 256) = ((2 ^ n - 1 : Nat) : Int) := by decide
theorem toEnd_any (at' r : Nat) (w : World) (h : at' ≤ 10000000) (hr : r = 8 - at' % 8) : Calls Tryz.prog 80 #[.int .i64 at'] w fun e w' => e = .returned (.int .i64 r) ∧ w = w' := by
  go_enter Tryz.func80, Tryz.ntmps80
  go_wp2
  go_ret
  exact ⟨ret_int (by omega), rfl⟩
theorem lowest_any (n L : Nat) (w : World) (h : n ≤ 8) (hL : L = 2 ^ n - 1) : Calls Tryz.prog 83 #[.int .i64 n] w fun e w' => e = .returned (.int .u8 L) ∧ w = w' := by
  have H : Hid (L = 2 ^ n - 1) := hL
  clear hL
  go_enter Tryz.func83, Tryz.ntmps83
  go_wp2
  go_ret
  exact ⟨ret_int (by rw [low_eq n h, H.out]), rfl⟩
theorem new_any (w : World) : Calls Tryz.prog 52 #[] w fun e w' => e = .returned (ptr w.heap.size) ∧ Wr w' w.heap.size (.slice none 0 0) 0 0 ∧ Chg (fun _ => False) w w' := by
  go_enter Tryz.func52, Tryz.ntmps52
  go_wp2
  go_ret
  exact ⟨rfl, ⟨blk_new _ _ _, World.ownsRow_nil _ _ _ _, by simp [Value.ownBlock], by decide⟩, chg_alloc (chg_refl _ _) _⟩
theorem conv_nil (w : World) : (convert 48 9 (.slice none 0 0)).run Tryz.prog w = .ok (.string (bs [])) w := by kernel_rfl
theorem own_string {w : World} {n : Nat} {v : Value} {l : List UInt8} (h : w.ownsRow 0 5 1 v n (l.map byteV)) :
    (convert 48 9 v).run Tryz.prog w = .ok (.string (bs l)) w := by
  have hlen : l.length = n := by have := h.1; simpa using this
  rcases h.2 with ⟨hv, hn0⟩ | ⟨g, cap, cur, hv, _, hgb, hcap, _, hsz, ht⟩
  · obtain rfl : l = [] := by simpa [hn0] using hlen
    subst hv
    exact conv_nil w
  · subst hv hlen
    exact run_convert_bytes_back w 48 9 5 ⟨g, 0, none⟩ cap l Tryz.underlying48 Tryz.underlying5 Tryz.underlying9 (fun j hj => by rw [Addr.add_lit, Nat.zero_add]; exact own_cell8 hgb (by simpa using ht) j hj rfl)
theorem bytes_any (A : Nat) (v : Value) (sz N : Nat) (w : World) (h : Wr w A v sz N) : Calls Tryz.prog 54 #[ptr A] w fun e w' => e = .returned (.string (bs (byt N (byc sz)))) ∧ w = w' := by
  have c0 : w.cell? ⟨A, 0, none⟩ = some v := by rw [blk_cell h.1]; rfl
  have hcv := own_string h.2.1
  unfold ptr
  go_enter Tryz.func54, Tryz.ntmps54
  go_wp2
  go_ret
  exact ⟨rfl, rfl⟩

set_option maxRecDepth 100000 in
set_option maxHeartbeats 1000000 in
theorem fill_any0 (A q : Nat) (v : Value) (l : List UInt8) (sz x n : Nat) (W : World) (hx : x < 256) (hsz : sz ≤ 1000000)
  (hb : Blk W A #[v, .int .i64 sz] 151) (hown : W.ownsRow 0 5 1 v q (l.map byteV)) (hlq : l.length = q)
  (hvA : v.ownBlock ≠ some A) (hq : q ≤ 1000000) (hn : n ≤ 8)
  (hsp : (sz : Int) % 8 = 0) (hbx : bits BinOp.or IntKind.u8 0 x = (x : Int)) :
    Calls Tryz.prog 82 #[ptr A, .int .u8 x, .int .i64 n] W fun e W' => e = .returned (.tuple #[]) ∧
      ∃ v', Blk W' A #[v', .int .i64 ((sz : Int) + n)] 151 ∧ W'.ownsRow 0 5 1 v' (q + 1) ((l ++ [UInt8.ofNat x]).map byteV) ∧ v'.ownBlock ≠ some A ∧ Chg (foot A v) W W' ∧ Moved W v v' := by
  unfold ptr
  obtain ⟨i0, hi, hz0, hz1, hz2⟩ := info_parts info5
  have hw : IntKind.i64.wrap (((q + 1 : Nat) : Int) - 1) = (q : Int) := by rw [IntKind.wrap_i64]; omega
  have c0 : W.cell? ⟨A, 0, none⟩ = some v := by rw [blk_cell hb]; rfl
  have c1 : W.cell? ⟨A, 1, none⟩ = some (.int .i64 sz) := by rw [blk_cell hb]; rfl
  go_enter Tryz.func82, Tryz.ntmps82
  go_wp2_with (first | (at_builtin; refine wpList_push8 _ rfl (.tmp 18) (.tmp 19) 48 rfl i0 Tryz.underlying48 hi hz0 hz1 hz2 v q l rfl (World.ownsRow.alloc hown _) hq ⟨W.heap.size, 0, none⟩ 0 0 rfl rfl (by simp) ?_) | go_in)
  intro v' w1 hown1 hgr1 hmv1
  have hb1 : Blk w1 A #[v, .int .i64 sz] 151 := (hgr1.block A (blk_lt (blk_alloc hb _)) (fun e => hvA e.symm)).trans (blk_alloc hb _)
  have hch : Chg (foot A v) W w1 := chg_grown (chg_alloc (chg_refl _ _) _) hgr1 (fun k hk _ => .inr hk)
  have hmv : Moved W v v' := fun k hk => (hmv1 k hk).imp id (fun h => by simp at h; omega)
  have hA : A < W.heap.size := blk_lt hb
  have hown2 : w1.ownsRow 0 5 1 v' (q + 1) ((l ++ [0]).map byteV) := by simpa using hown1
  clear hown1
  obtain ⟨g, cap, cur, rfl, hcap, hg, hcs, ht, hl1⟩ := own_at8 hown2 (by omega)
  have hgA : ¬ g = A := by
    intro e; rcases hmv g rfl with h | h
    · exact hvA (by rw [h, e])
    · omega
  have hAg : ¬ A = g := fun e => hgA e.symm
  have d0 : w1.cell? ⟨A, 0, none⟩ = some v := by rw [blk_cell hb1]; rfl
  have e0 := blk_free hb1 0
  have e1 := blk_free hb1 1
  have hb2 := blk_set hb1 0 (.slice (some ⟨g, 0, none⟩) (q + 1) cap)
  have hg2 := blk_set_other hg ⟨A, 0, none⟩ (.slice (some ⟨g, 0, none⟩) (q + 1) cap) hgA
  have cq : (w1.setCell ⟨A, 0, none⟩ (.slice (some ⟨g, 0, none⟩) (q + 1) cap)).cell? ⟨g, q, none⟩ = some (.int .u8 0) := by
    rw [blk_cell hg2, ← blk_cell hg, own_cell8 hg ht q (by simp; omega) hl1]; simp [← hlq, byteV]
  have cA0 : (w1.setCell ⟨A, 0, none⟩ (.slice (some ⟨g, 0, none⟩) (q + 1) cap)).cell? ⟨A, 0, none⟩ = some (.slice (some ⟨g, 0, none⟩) (q + 1) cap) := by rw [blk_cell hb2]; rfl
  have cA1 : (w1.setCell ⟨A, 0, none⟩ (.slice (some ⟨g, 0, none⟩) (q + 1) cap)).cell? ⟨A, 1, none⟩ = some (.int .i64 sz) := by rw [blk_cell hb2]; rfl
  have fg := blk_free hg q
  have own3 : Hid (((w1.setCell ⟨A, 0, none⟩ (.slice (some ⟨g, 0, none⟩) (q + 1) cap)).setCell ⟨g, q, none⟩ (.int .u8 x)).ownsRow 0 5 1 (.slice (some ⟨g, 0, none⟩) (q + 1) cap) (q + 1) ((l ++ [UInt8.ofNat x]).map byteV)) := by
    have := own_set8 (own_kept hown2 (chg_set (S := (· = A)) (chg_refl _ _) ⟨A, 0, none⟩ (.slice (some ⟨g, 0, none⟩) (q + 1) cap) (fun _ => rfl)) (fun k hk e => by simp [Value.ownBlock] at hk; omega)) q (UInt8.ofNat x) x (by rw [u8_of _ hx])
    rw [List.set_append_right _ _ (by omega), hlq, Nat.sub_self] at this
    exact this
  go_wp2
  go_region
  have cB1 : ((w1.setCell ⟨A, 0, none⟩ (.slice (some ⟨g, 0, none⟩) (q + 1) cap)).setCell ⟨g, q, none⟩ (.int .u8 x)).cell? ⟨A, 1, none⟩ = some (.int .i64 sz) := by rw [blk_cell (blk_set_other hb2 ⟨g, q, none⟩ (.int .u8 x) hAg)]; rfl
  go_wp2
  go_end0
  refine ⟨rfl, .slice (some ⟨g, 0, none⟩) (q + 1) cap, ?_, ?_, ?_, ?_, hmv⟩
  · exact blk_set (blk_set_other hb2 ⟨g, q, none⟩ (.int .u8 x) hAg) 1 (.int .i64 ((sz : Int) + n))
  · exact own_kept (S := (· = A)) own3.out (chg_drew (chg_set (chg_refl _ _) ⟨A, 1, none⟩ _ (fun _ => rfl))) (fun k hk e => by simp [Value.ownBlock] at hk; omega)
  · simp [Value.ownBlock]; exact hgA
  · refine chg_set (chg_set (chg_set hch ⟨A, 0, none⟩ _ (fun _ => .inl rfl)) ⟨g, q, none⟩ _ (fun hlt => ?_)) ⟨A, 1, none⟩ _ (fun _ => .inl rfl)
    rcases hmv g rfl with h | h
    · exact .inr h
    · exact absurd hlt (by simp; omega)

set_option maxRecDepth 100000 in
set_option maxHeartbeats 1000000 in
theorem fill_any1 (A g cap q p T : Nat) (sz x n : Nat) (Y : Int) (W : World) (hsz : sz ≤ 1000000) (hp0 : 0 < p) (hp8 : p < 8)
  (c0 : W.cell? ⟨A, 0, none⟩ = some (.slice (some ⟨g, 0, none⟩) (q + 1) cap))
  (c1 : W.cell? ⟨A, 1, none⟩ = some (.int .i64 sz))
  (f1 : W.frozen? ⟨A, 1, none⟩ = false) (hq : q ≤ 1000000) (hn : n ≤ 8) (hgA : ¬ g = A)
  (cl : W.cell? ⟨g, q, none⟩ = some (.int .u8 (T : Int)))
  (fl : W.frozen? ⟨g, q, none⟩ = false) (hsp : (sz : Int) % 8 = (p : Int)) (hb : bits BinOp.or IntKind.u8 T (x * 2 ^ p % 256) = Y) :
    Calls Tryz.prog 82 #[ptr A, .int .u8 x, .int .i64 n] W fun e W' => e = .returned (.tuple #[]) ∧ W' = ((W.setCell ⟨g, q, none⟩ (.int .u8 Y)).setCell ⟨A, 1, none⟩ (.int .i64 ((sz : Int) + n))).drew := by
  unfold ptr
  have hz : ¬ (p : Int) = 0 := by omega
  have hw : IntKind.i64.wrap (((q + 1 : Nat) : Int) - 1) = (q : Int) := by rw [IntKind.wrap_i64]; omega
  go_enter Tryz.func82, Tryz.ntmps82
  go_wp2
  go_region
  have d1 : (W.setCell ⟨g, q, none⟩ (.int .u8 Y)).cell? ⟨A, 1, none⟩ = some (.int .i64 sz) := by rw [World.cell?_setCell_other _ _ _ _ (by intro e; injection e; omega)]; exact c1
  go_wp2
  go_end0
  exact ⟨rfl, rfl⟩

/-- What a Put of m bits leaves. -/
def PutPost (A : Nat) (v : Value) (sz N x m : Nat) (W : World) (e : Ending) (W' : World) : Prop :=
  e = .returned (.tuple #[]) ∧ ∃ v', Wr W' A v' (sz + m) (N + x % 2 ^ m * 2 ^ sz) ∧ Chg (foot A v) W W' ∧ Moved W v v'

theorem fill_anyh (A : Nat) (v : Value) (sz N x n : Nat) (W : World) (h : Wr W A v sz N) (hx : x < 2 ^ n) (hn : 0 < n) (hp : sz % 8 + n ≤ 8) (hsz : sz ≤ 1000000) :
    Calls Tryz.prog 82 #[ptr A, .int .u8 x, .int .i64 n] W fun e W' => e = .returned (.tuple #[]) ∧ ∃ v', Wr W' A v' (sz + n) (N + x * 2 ^ sz) ∧ Chg (foot A v) W W' ∧ Moved W v v' := by
  obtain ⟨hb, hown, hne, hN⟩ := h
  obtain ⟨k1, k2, k3⟩ := fill_bytes N sz x n hN hx hn hp
  have hT := top_lt N sz hN
  have hx8 : x < 256 := Nat.lt_of_lt_of_le hx (pow_le_of (a := n) (b := 8) (by omega))
  have hN' : N + x * 2 ^ sz < 2 ^ (sz + n) := by have := put_lt N sz x n hN; rwa [Nat.mod_eq_of_lt hx] at this
  by_cases h0 : sz % 8 = 0
  · have hq : byc sz = sz / 8 := by unfold byc; omega
    rw [hq] at hown
    rw [h0, Nat.pow_zero, Nat.lt_one_iff] at hT
    rw [hT, h0, Nat.pow_zero, Nat.mul_one, Nat.zero_add] at k3
    refine (fill_any0 A (sz / 8) v (byt N (sz / 8)) sz x n W hx8 hsz hb hown (byt_len _ _) hne (by omega) (by omega) (by omega) (by rw [show (0 : Int) = ((0 : Nat) : Int) from rfl, u8_or_nat _ _ (by decide) hx8, Nat.zero_or])).mono ?_
    rintro e W' ⟨rfl, v', a1, a2, a3, a4, a5⟩
    exact ⟨rfl, v', ⟨by simpa using a1, by rw [k1, k3]; exact a2, a3, hN'⟩, a4, a5⟩
  · have hq : byc sz = sz / 8 + 1 := by unfold byc; omega
    rw [hq] at hown
    obtain ⟨g, cap, cur, rfl, hcap, hg, hcs, ht, hl⟩ := own_at8 hown (by omega)
    have hgA : ¬ g = A := fun e => hne (by rw [e]; rfl)
    have hT8 : N / 256 ^ (sz / 8) < 256 := Nat.lt_of_lt_of_le hT (pow_le_of (a := sz % 8) (b := 8) (by omega))
    have cl := own_cell8 hg ht (sz / 8) (by rw [byt_len]; omega) hl
    rw [byt_get, byteV, Nat.mod_eq_of_lt hT8, u8_of _ hT8] at cl
    have hor : bits BinOp.or IntKind.u8 ((N / 256 ^ (sz / 8) : Nat) : Int) ((x : Int) * 2 ^ (sz % 8) % 256) = ((N / 256 ^ (sz / 8) + x * 2 ^ (sz % 8) : Nat) : Int) := by
      have e : (x : Int) * 2 ^ (sz % 8) % 256 = ((x * 2 ^ (sz % 8) : Nat) : Int) := by
        rw [show (x : Int) * 2 ^ (sz % 8) = ((x * 2 ^ (sz % 8) : Nat) : Int) from by simp]; exact Int.emod_eq_of_lt (Int.natCast_nonneg _) (Int.ofNat_lt.2 (Nat.lt_of_le_of_lt (Nat.le_add_left _ _) k2))
      rw [e, u8_or_nat _ _ hT8 (Nat.lt_of_le_of_lt (Nat.le_add_left _ _) k2), or_hi _ _ _ hT]
    refine (fill_any1 A g cap (sz / 8) (sz % 8) (N / 256 ^ (sz / 8)) sz x n _ W hsz (by omega) (by omega) (by rw [blk_cell hb]; rfl) (by rw [blk_cell hb]; rfl) (blk_free hb 1) (by omega) (by omega) hgA cl (blk_free hg _) (by omega) hor).mono ?_
    rintro e W' ⟨rfl, rfl⟩
    have own2 := own_set8 hown (sz / 8) (UInt8.ofNat (N / 256 ^ (sz / 8) + x * 2 ^ (sz % 8))) _ (show ((N / 256 ^ (sz / 8) + x * 2 ^ (sz % 8) : Nat) : Int) = _ from by rw [u8_of _ k2])
    refine ⟨rfl, .slice (some ⟨g, 0, none⟩) (sz / 8 + 1) cap, ⟨?_, ?_, hne, hN'⟩, ?_, fun k hk => .inl hk⟩
    · have := blk_set (blk_set_other hb ⟨g, sz / 8, none⟩ (.int .u8 ((N / 256 ^ (sz / 8) + x * 2 ^ (sz % 8) : Nat) : Int)) (fun e => hgA e.symm)) 1 (.int .i64 ((sz : Int) + n))
      refine blk_drew ?_
      simpa using this
    · rw [k1, k3]
      rw [byt_snoc, List.set_append_right _ _ (by rw [byt_len]; exact Nat.le_refl _), byt_len, Nat.sub_self] at own2
      exact own_kept (S := (· = A)) own2 (chg_drew (chg_set (chg_refl _ _) ⟨A, 1, none⟩ _ (fun _ => rfl))) (fun k hk e => by simp [Value.ownBlock] at hk; omega)
    · exact chg_drew (chg_set (chg_set (chg_refl _ _) ⟨g, sz / 8, none⟩ _ (fun _ => .inr rfl)) ⟨A, 1, none⟩ _ (fun _ => .inl rfl))

theorem and_low (x m : Nat) (hm : m ≤ 8) : bits .and .u8 ((x : Int) % 256) ((2 ^ m - 1 : Nat) : Int) = ((x % 2 ^ m : Nat) : Int) := by
  have h8 : 2 ^ m ≤ 2 ^ 8 := pow_le_of hm
  have h88 : (2 : Nat) ^ 8 = 256 := rfl
  rw [show (x : Int) % 256 = ((x % 256 : Nat) : Int) from by omega, u8_and_nat _ _ (Nat.mod_lt _ (by decide)) (by omega), Nat.and_two_pow_sub_one_eq_mod]
  have e : (256 : Nat) = 2 ^ m * 2 ^ (8 - m) := by rw [← Nat.pow_add, show m + (8 - m) = 8 from by omega]
  conv => lhs; rw [e]
  rw [Nat.mod_mul_right_mod]

theorem put_zero (A : Nat) (v : Value) (sz N x : Nat) (n : Int) (W : World) (h : Wr W A v sz N) (hsz : sz ≤ 1000000) (hn : n ≤ 0) (hn0 : -9223372036854775808 ≤ n) :
    Calls Tryz.prog 53 #[ptr A, .int .u64 x, .int .i64 n] W (PutPost A v sz N x 0 W) := by
  have c1 : W.cell? ⟨A, 1, none⟩ = some (.int .i64 sz) := by rw [blk_cell h.1]; rfl
  have hcl : (if n < 0 then 0 else n) = 0 := by split <;> omega
  obtain ⟨r, hr⟩ : ∃ r : Nat, r = 8 - sz % 8 := ⟨_, rfl⟩
  have T := toEnd_any sz r W (by omega) hr
  have hr1 : 1 ≤ r := by omega
  have hr8 : r ≤ 8 := by omega
  clear hr
  unfold ptr
  go_enter Tryz.func53, Tryz.ntmps53
  go_wp2_with (go_at_call 80; refine T.mono ?_; rintro e w1 ⟨rfl, rfl⟩)
  go_end0
  exact ⟨rfl, v, by simpa [Nat.mod_one] using h, chg_refl _ _, fun k hk => .inl hk⟩

theorem put_small (A : Nat) (v : Value) (sz N x m : Nat) (W : World) (h : Wr W A v sz N) (hsz : sz ≤ 1000000) (_hx : x < 18446744073709551616) (hm : 0 < m) (hm8 : sz % 8 + m ≤ 8) :
    Calls Tryz.prog 53 #[ptr A, .int .u64 x, .int .i64 m] W (PutPost A v sz N x m W) := by
  have c1 : W.cell? ⟨A, 1, none⟩ = some (.int .i64 sz) := by rw [blk_cell h.1]; rfl
  obtain ⟨r, hr⟩ : ∃ r : Nat, r = 8 - sz % 8 := ⟨_, rfl⟩
  have T := toEnd_any sz r W (by omega) hr
  have F := fill_anyh A v sz N (x % 2 ^ m) m W h (Nat.mod_lt _ (Nat.pow_pos (by decide))) hm hm8 hsz
  have hb := and_low x m (by omega)
  obtain ⟨L, hL⟩ : ∃ L : Nat, L = 2 ^ m - 1 := ⟨_, rfl⟩
  have LL := lowest_any m L W (by omega) hL
  rw [← hL] at hb
  unfold PutPost
  generalize x % 2 ^ m = y at *
  clear hL
  have hmr : m ≤ r := by omega
  have hr8 : r ≤ 8 := by omega
  have hmn : min (m : Int) 64 = (m : Int) := by omega
  clear hr hm8
  unfold ptr at *
  go_enter Tryz.func53, Tryz.ntmps53
  go_wp2_with (first | (go_at_call 80; refine T.mono ?_; rintro e w1 ⟨rfl, rfl⟩) | (go_at_call 83; refine LL.mono ?_; rintro e w1 ⟨rfl, rfl⟩))
  refine F.mono ?_
  rintro e w1 ⟨rfl, v1, k1, k2, k3⟩
  go_wp2
  go_end0
  exact ⟨rfl, v1, k1, k2, k3⟩
set_option maxRecDepth 100000 in
/-- Both of putBoth's puts. -/
theorem both_any (A : Nat) (v : Value) (sz N x r k : Nat) (W : World) (_hx : x < 18446744073709551616) (hr : r ≤ 8) (_hk : k ≤ 64)
    (h1 : Calls Tryz.prog 53 #[ptr A, .int .u64 x, .int .i64 r] W (PutPost A v sz N x r W))
    (h2 : ∀ v' W', Wr W' A v' (sz + r) (N + x % 2 ^ r * 2 ^ sz) → Calls Tryz.prog 53 #[ptr A, .int .u64 ((x : Int) / 2 ^ r), .int .i64 k] W' (PutPost A v' (sz + r) (N + x % 2 ^ r * 2 ^ sz) (x / 2 ^ r) k W')) :
    Calls Tryz.prog 81 #[.int .u64 x, .int .i64 r, .int .i64 k, .func (.func 53) #[ptr A] #[]] W (PutPost A v sz N x (r + k) W) := by
  unfold ptr at *
  go_enter Tryz.func81, Tryz.ntmps81
  go_wp2_with fail
  refine h1.mono ?_
  rintro e w1 ⟨rfl, v1, k1, k2, k3⟩
  go_wp2_with (first | (go_at_call 53; refine (h2 v1 w1 k1).mono ?_; rintro e w2 ⟨rfl, v2, j1, j2, j3⟩))
  go_end0
  refine ⟨rfl, v2, ?_, chg_trans k2 j2 ?_, ?_⟩
  · have := j1
    rw [Nat.add_assoc, put_put] at this
    exact this
  · rintro i hi (rfl | e)
    · exact .inl rfl
    · rcases k3 i e with h | h
      · exact .inr h
      · omega
  · intro i e
    rcases j3 i e with h | h
    · exact k3 i h
    · exact .inr (Nat.le_trans (chg_size k2) h)

set_option maxRecDepth 100000 in
theorem put_large (A : Nat) (v : Value) (sz N x : Nat) (n : Int) (m r : Nat) (W : World) (h : Wr W A v sz N) (hsz : sz ≤ 1000000) (hx : x < 18446744073709551616) (hn : n ≤ 9223372036854775807)
    (hcl : (0 ≤ n ∧ n ≤ 64 ∧ n = m) ∨ (64 < n ∧ m = 64)) (hr : r = 8 - sz % 8) (hm : r < m)
    (h2 : ∀ v' W', Wr W' A v' (sz + r) (N + x % 2 ^ r * 2 ^ sz) → Calls Tryz.prog 53 #[ptr A, .int .u64 ((x : Int) / 2 ^ r), .int .i64 ((m - r : Nat) : Int)] W' (PutPost A v' (sz + r) (N + x % 2 ^ r * 2 ^ sz) (x / 2 ^ r) (m - r) W')) :
    Calls Tryz.prog 53 #[ptr A, .int .u64 x, .int .i64 n] W (PutPost A v sz N x m W) := by
  have c1 : W.cell? ⟨A, 1, none⟩ = some (.int .i64 sz) := by rw [blk_cell h.1]; rfl
  have T := toEnd_any sz r W (by omega) hr
  have hm64 : m ≤ 64 := by omega
  have B := both_any A v sz N x r (m - r) W hx (by omega) (by omega) (put_small A v sz N x r W h hsz hx (by omega) (by omega)) h2
  rw [show r + (m - r) = m from by omega] at B
  clear h2
  have hr8 : r ≤ 8 := by omega
  have hr1 : 1 ≤ r := by omega
  clear hr
  have hk : ((m : Int) - r) = ((m - r : Nat) : Int) := by omega
  have hk64 : m - r ≤ 64 := by omega
  generalize m - r = k at *
  unfold ptr at *
  rcases hcl with ⟨a1, a2, rfl⟩ | ⟨a1, hm'⟩
  · clear a1
    have hmn : min (m : Int) 64 = (m : Int) := by omega
    go_enter Tryz.func53, Tryz.ntmps53
    go_wp2_with (first | (go_at_call 80; refine T.mono ?_; rintro e w1 ⟨rfl, rfl⟩))
    refine B.mono ?_
    rintro e w1 ⟨rfl, v1, k1, k2, k3⟩
    go_wp2
    go_end0
    exact ⟨rfl, v1, k1, k2, k3⟩
  · have b1 : ¬ n < 0 := by omega
    have hmx : max n 0 = n := by omega
    have hmn : min n 64 = 64 := by omega
    have hk' : (64 : Int) - r = (k : Int) := by omega
    have hr64 : r < 64 := by omega
    clear hk hm hm64 hm'
    go_enter Tryz.func53, Tryz.ntmps53
    go_wp2_with (first | (go_at_call 80; refine T.mono ?_; rintro e w1 ⟨rfl, rfl⟩))
    refine B.mono ?_
    rintro e w1 ⟨rfl, v1, k1, k2, k3⟩
    go_wp2
    go_end0
    exact ⟨rfl, v1, k1, k2, k3⟩

/-- Put of m bits, m at most 64. -/
theorem put_nat (A : Nat) : ∀ (m : Nat) (v : Value) (sz N x : Nat) (W : World), Wr W A v sz N → sz + 100 ≤ 1000000 + (64 - m) → x < 18446744073709551616 → m ≤ 64 →
    Calls Tryz.prog 53 #[ptr A, .int .u64 x, .int .i64 m] W (PutPost A v sz N x m W) := by
  intro m
  induction m using Nat.strongRecOn with
  | _ m ih =>
    intro v sz N x W h hsz hx hm
    by_cases h0 : m = 0
    · subst h0; exact put_zero A v sz N x 0 W h (by omega) (by omega) (by omega)
    by_cases h1 : sz % 8 + m ≤ 8
    · exact put_small A v sz N x m W h (by omega) hx (by omega) h1
    · refine put_large A v sz N x m m (8 - sz % 8) W h (by omega) hx (by omega) (.inl ⟨by omega, by omega, rfl⟩) rfl (by omega) fun v' W' h' => ?_
      have hd : ((x : Int) / 2 ^ (8 - sz % 8)) = ((x / 2 ^ (8 - sz % 8) : Nat) : Int) := by simp
      rw [hd]
      exact ih (m - (8 - sz % 8)) (by omega) v' _ _ _ W' h' (by omega) (Nat.lt_of_le_of_lt (Nat.div_le_self _ _) hx) (by omega)

/-- How many bits a Put of n bits puts. -/
def cl (n : Int) : Nat := if n < 0 then 0 else if 64 < n then 64 else n.toNat
theorem cl_le (n : Int) : cl n ≤ 64 := by unfold cl; split <;> (try split) <;> omega
theorem cl_nat (m : Nat) (h : m ≤ 64) : cl m = m := by unfold cl; split <;> (try split) <;> omega

theorem put_any (A : Nat) (v : Value) (sz N x : Nat) (n : Int) (W : World) (h : Wr W A v sz N) (hsz : sz ≤ 999000) (hx : x < 18446744073709551616) (hn0 : -9223372036854775808 ≤ n) (hn1 : n ≤ 9223372036854775807) :
    Calls Tryz.prog 53 #[ptr A, .int .u64 x, .int .i64 n] W (PutPost A v sz N x (cl n) W) := by
  by_cases h0 : n < 0
  · rw [show cl n = 0 from by simp [cl, h0]]
    exact put_zero A v sz N x n W h (by omega) (by omega) hn0
  by_cases h1 : 64 < n
  · rw [show cl n = 64 from by simp [cl, h0, h1]]
    refine put_large A v sz N x n 64 (8 - sz % 8) W h (by omega) hx hn1 (.inr ⟨h1, rfl⟩) rfl (by omega) fun v' W' h' => ?_
    have hd : ((x : Int) / 2 ^ (8 - sz % 8)) = ((x / 2 ^ (8 - sz % 8) : Nat) : Int) := by simp
    rw [hd]
    exact put_nat A _ v' _ _ _ W' h' (by omega) (Nat.lt_of_le_of_lt (Nat.div_le_self _ _) hx) (by omega)
  · obtain ⟨m, rfl⟩ := Int.eq_ofNat_of_zero_le (show 0 ≤ n by omega)
    rw [cl_nat m (by omega)]
    exact put_nat A m v sz N x W h (by omega) hx (by omega)
end Go.Proofs.YtofclflcicjlaaaGreat
