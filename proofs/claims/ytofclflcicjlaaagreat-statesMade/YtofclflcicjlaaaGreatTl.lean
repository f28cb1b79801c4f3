/-
  The table that grows from the front: one cell, all cells.
-/
import Derived.Test.YtofclflcicjlaaaGreatLy
import Derived.Test.YtofclflcicjlaaaGreatLn
import Derived.BigRegion
import Derived.Deep.RegionLaw
import Derived.Deep.QuietTactic
import Derived.Deep.RegionWith
import Derived.OwnWalk
import Derived.BigQuiet
namespace Go.Proofs.YtofclflcicjlaaaGreat
open Go.ChangeShapes Go.WideShapes Go.ChangeAt Go.RowKit
open Go.ChangeMaps (open_string shut_string)

theorem run_pushT {P : Program} (w : World) (t ty e : TypeId) (i : TypeInfo) (z : Value) (size bytes : Nat) (ht : P.underlying t = some (.slice e)) (hi : P.info? e = some i) (hz : i.zero = some z)
    (hsize : i.size = size) (hby : i.bytes = bytes) (hzs : z.cells.size = size) (hsz : 0 < size) (h16 : bytes ≤ 64)
    (v : Value) (n : Nat) (xs : List Value) (hown : w.ownsRow 0 e size v n xs)
    (a : Addr) (m c : Nat) (news : List Value) (hl : news.length = m * size) (hnews : ∀ j u, news[j]? = some u → w.cell? (a.add j) = some u) (h1 : ∀ u ∈ news, u.oneCell' = true) (hn : n + m ≤ 100000) :
    ∃ v' w', (Builtin.append_ #[t, t] ty #[v, .slice (some a) m c]).run P w = .ok v' w' ∧ w'.ownsRow 0 e size v' (n + m) (xs ++ news) ∧ w.grownBy w' v.ownBlock ∧ Moved w v v' := by
  have hb : (n + m) * bytes ≤ 140737488355328 := by
    have : (n + m) * bytes ≤ 100000 * 64 := Nat.mul_le_mul hn h16
    omega
  obtain ⟨v', w', r0, r1, r2, _, r4⟩ := run_append_own_at (P := P) w 0 t ty e i z size bytes ht hi hz hsize hby hzs hsz v n xs hown a m c news hl hnews h1 (by simp only [maxLen]; omega) hb (Nat.zero_le _)
  refine ⟨v', w', r0, r1, r2, fun k hk => ?_⟩
  rcases r4 with r4 | r4
  · left; rw [← r4]; exact hk
  · right; rw [hk] at r4; injection r4 with r4; omega
theorem step_pushT {P : Program} {ops : Array Oper} {o : Oper} {a : Act} {w : World} {K : Act → World → Prop} {Q : Exit → Act → World → Prop} {E : Prop}
    (hg : o.guard = none) (s x : Operand) (t : TypeId) (hop : o.op = Op.call { callee := Callee.builtin Builtin.append, args := #[s, x], argTypes := #[t, t] })
    (e : TypeId) (i : TypeInfo) (z : Value) (size bytes : Nat) (ht : P.underlying t = some (.slice e)) (hi : P.info? e = some i) (hz : i.zero = some z)
    (hsize : i.size = size) (hby : i.bytes = bytes) (hzs : z.cells.size = size) (hsz : 0 < size) (h16 : bytes ≤ 64)
    (v : Value) (n : Nat) (xs : List Value) (hs : a.eval s = v) (hown : w.ownsRow 0 e size v n xs)
    (ad : Addr) (m c : Nat) (news : List Value) (hx : a.eval x = .slice (some ad) m c) (hl : news.length = m * size) (hnews : ∀ j u, news[j]? = some u → w.cell? (ad.add j) = some u) (h1 : ∀ u ∈ news, u.oneCell' = true) (hn : n + m ≤ 100000)
    (hK : ∀ v' w', w'.ownsRow 0 e size v' (n + m) (xs ++ news) → w.grownBy w' v.ownBlock → Moved w v v' → K (a.put o.dst v') w') :
    if Region.wanted o (yielded ops a.tmps) = true then Oper.wp P o a w K Q else E := by
  have hw : Region.wanted o (yielded ops a.tmps) = true := by simp [Region.wanted, hg]
  rw [if_pos hw]
  obtain ⟨v', w', hrun, r1, r2, r3⟩ := run_pushT (P := P) w t o.type e i z size bytes ht hi hz hsize hby hzs hsz h16 v n xs hown ad m c news hl hnews h1 hn
  unfold Oper.wp
  simp [execOp, hop, resolve, invoke, builtin, hs, hx, hrun, Result.andThen]
  exact hK v' w' r1 r2 r3
theorem wpList_pushT {P : Program} (w : World) {ops : Array Oper} {rest : List Oper} {o : Oper} {a : Act} {Q : Exit → Act → World → Prop}
    (hg : o.guard = none) (s x : Operand) (t : TypeId) (hop : o.op = Op.call { callee := Callee.builtin Builtin.append, args := #[s, x], argTypes := #[t, t] })
    (e : TypeId) (i : TypeInfo) (z : Value) (size bytes : Nat) (ht : P.underlying t = some (.slice e)) (hi : P.info? e = some i) (hz : i.zero = some z)
    (hsize : i.size = size) (hby : i.bytes = bytes) (hzs : z.cells.size = size) (hsz : 0 < size) (h16 : bytes ≤ 64)
    (v : Value) (n : Nat) (xs : List Value) (hs : a.eval s = v) (hown : w.ownsRow 0 e size v n xs)
    (ad : Addr) (m c : Nat) (news : List Value) (hx : a.eval x = .slice (some ad) m c) (hl : news.length = m * size) (hnews : ∀ j u, news[j]? = some u → w.cell? (ad.add j) = some u) (h1 : ∀ u ∈ news, u.oneCell' = true) (hn : n + m ≤ 100000)
    (hK : ∀ v' w', w'.ownsRow 0 e size v' (n + m) (xs ++ news) → w.grownBy w' v.ownBlock → Moved w v v' → wpList P ops Q rest (a.put o.dst v') w') :
    wpList P ops Q (o :: rest) a w := by
  refine wpList_plain hg fun K hK' => ?_
  obtain ⟨v', w', hr, r1, r2, r3⟩ := run_pushT (P := P) w t o.type e i z size bytes ht hi hz hsize hby hzs hsz h16 v n xs hown ad m c news hl hnews h1 hn
  unfold Oper.wp execOp
  simp only [hop, resolve, invoke, builtin, Sem.run_bind, Sem.run_pure, Result.andThen_ok, List.map_toArray, List.map_cons, List.map_nil, hs, hx, hr]
  exact hK' _ _ (hK v' w' r1 r2 r3)
theorem three_new (w : World) (x y z : Value) (t : TypeId) : ∀ j u, [x, y, z][j]? = some u → (w.alloc (.cells #[x, y, z] t)).cell? ((⟨w.heap.size, 0, none⟩ : Addr).add j) = some u := by
  intro j u hj
  rw [Addr.add_lit, blk_cell (blk_new w #[x, y, z] t), ← hj]
  simp
/-- The table that grows: its block, the states that come next, the cells told. -/
def Tb (W : World) (A Q sc B k : Nat) (L cs : List Nat) (m : Nat) : Prop :=
  ∃ v, (B ≤ A ∧ B ≤ Q ∧ From B v) ∧ Blk W A #[.int .i64 (k : Int), .slice (some ⟨Q, 0, none⟩) 65 sc, v] 102 ∧ W.ownsRow 0 3 1 (.slice (some ⟨Q, 0, none⟩) 65 sc) 65 (nis (nxt L cs m)) ∧ W.ownsRow 0 77 3 v m (cvs (tab k L cs m)) ∧ A ≠ Q ∧ ∀ j, v.ownBlock = some j → j ≠ A ∧ j ≠ Q
theorem bts_num {k x : Nat} (h0 : 0 < x) (hx : x < 2 ^ (k + 1)) (hk : k ≤ 12) : ∃ b n s : Nat, bts k x = b ∧ b ≤ k ∧ (k : Int) - (Nat.log2 x : Int) = (b : Int) ∧ (x : Int) * 2 ^ b = (n : Int) ∧ (2 : Int) ^ k = (s : Int) ∧ 2 ^ k = s ∧ n < 8192 ∧ s ≤ n ∧ s ≤ 4096 ∧ x * 2 ^ bts k x - 2 ^ k = n - s ∧ Nat.log2 x ≤ k := by
  obtain ⟨l1, l2, l3, l4⟩ := log2_bd h0 hx
  obtain ⟨f1, f2⟩ := cell_fits k x h0 hx
  have pb := pow_bd k hk
  have pb2 := Nat.two_pow_pos (bts k x)
  refine ⟨bts k x, x * 2 ^ bts k x, 2 ^ k, rfl, by omega, by omega, by rw [Int.natCast_mul, Int.natCast_pow]; rfl, by rw [Int.natCast_pow]; rfl, rfl, ?_, f1, pb, rfl, l1⟩
  rw [Nat.pow_succ] at f2
  omega
set_option maxRecDepth 100000 in
set_option maxHeartbeats 2000000 in
theorem tell_any (A Q sc B k : Nat) (L cs : List Nat) (m c : Nat) (W : World) (h : Tb W A Q sc B k L cs m) (hs : Spd k L cs) (hm : m < cs.length) (hc : g cs m = c) :
    Calls Tryz.prog 46 #[.pointer (some ⟨A, 0, none⟩), .int .i64 (c : Int)] W fun e W' => e = .returned (.tuple #[]) ∧ Tb W' A Q sc B k L cs (m + 1) ∧ Below B W W' := by
  obtain ⟨v, hB, h1, h2, h3, h4, h5⟩ := h
  have HB := Hid.intro hB
  clear hB
  have qlt : Hid (Q < W.heap.size) := (h2.lt Q rfl).2
  have alt : Hid (A < W.heap.size) := blk_lt h1
  obtain ⟨x1, x2, x3, x4⟩ := xat_bd hs m hm
  obtain ⟨x, hx⟩ : ∃ x, xat L cs m = x := ⟨_, rfl⟩
  rw [hx] at x1 x2 x3 x4
  obtain ⟨b, n, s, eb, bk, kb, xn, ks, kn, nb, sn, sb, ex, lk⟩ := bts_num x3 x4 hs.k12
  have BL := blen_any x
  have hc65 := (spd_lt hs (g_mem cs m hm)).1
  rw [hc] at hc65
  have C2 : Hid (tab k L cs (m + 1) = tab k L cs m ++ [(c, b, n - s)]) := by
    show _ = _
    rw [tab_succ]; unfold cel; rw [hx, ex, eb, hc]
  have N2 : Hid (nxt L cs (m + 1) = (nxt L cs m).set c (x + 1)) := by
    show _ = _
    simp only [nxt]
    rw [hc, ← hx]; unfold xat; rw [hc]
  have xg : g (nxt L cs m) c = x := by rw [← hx]; unfold xat; rw [hc]
  have cx := nis_at h2 c hc65
  rw [xg] at cx
  have fx := (own_there h2 c (by omega)).2.2
  have a0 : W.cell? ⟨A, 0, none⟩ = some (.int .i64 (k : Int)) := by rw [blk_cell h1]; rfl
  have a1 : W.cell? ⟨A, 1, none⟩ = some (.slice (some ⟨Q, 0, none⟩) 65 sc) := by rw [blk_cell h1]; rfl
  have H1 := Hid.intro h1
  have H2 := Hid.intro h2
  have H3 := Hid.intro h3
  have H5 := Hid.intro h5
  have hk12 := hs.k12
  have x8 : x < 8192 := by have : 2 ^ (k + 1) ≤ 8192 := by rw [Nat.pow_succ]; have := pow_bd k hk12; omega
                           omega
  have hm4 : m < 4096 := by have := hs.all; have := pow_bd k hk12; omega
  clear h1 h2 h3 h5 hs hm hc x1 x2 x4 hx eb xg ex
  go_enter Tryz.func46, Tryz.ntmps46
  go_wp2_with fail
  have hQA : A ≠ Q := h4
  have e0 : Blk (W.setCell ⟨Q, c, none⟩ (.int .i64 ((x : Int) + 1))) A #[.int .i64 (k : Int), .slice (some ⟨Q, 0, none⟩) 65 sc, v] 102 := blk_set_other H1.out ⟨Q, c, none⟩ _ h4
  have E2 : Hid ((W.setCell ⟨Q, c, none⟩ (.int .i64 ((x : Int) + 1))).ownsRow 0 3 1 (.slice (some ⟨Q, 0, none⟩) 65 sc) 65 (nis (nxt L cs (m + 1)))) := by
    show World.ownsRow _ _ _ _ _ _ _
    have := own_set H2.out c (.int .i64 ((x + 1 : Nat) : Int))
    rw [nis_set] at this
    rw [N2.out]
    exact this
  have E3 : Hid ((W.setCell ⟨Q, c, none⟩ (.int .i64 ((x : Int) + 1))).ownsRow 0 77 3 v m (cvs (tab k L cs m))) := own_kept (S := (· = Q)) H3.out (chg_set (chg_refl _ _) ⟨Q, c, none⟩ _ (fun _ => rfl)) (fun j hj e => (H5.out j hj).2 e)
  have Y1 : Hid (Below B W (W.setCell ⟨Q, c, none⟩ (.int .i64 ((x : Int) + 1))) ∧ Q < (W.setCell ⟨Q, c, none⟩ (.int .i64 ((x : Int) + 1))).heap.size) := ⟨(Below.refl _ _).setCell (p := ⟨Q, c, none⟩) HB.out.2.1 _, by rw [Go.Deep.nblk_setCell]; exact qlt.out⟩
  generalize W.setCell ⟨Q, c, none⟩ (.int .i64 ((x : Int) + 1)) = w1 at *
  clear a0 a1 cx fx H1 H2 H3
  have a0 : w1.cell? ⟨A, 0, none⟩ = some (.int .i64 (k : Int)) := by rw [blk_cell e0]; rfl
  have LB : ∀ w, Calls Tryz.prog 73 #[.int .u64 (x : Int)] w fun e w' => e = .returned (.int .i64 ((Nat.log2 x + 1 : Nat) : Int)) ∧ w' = w := fun w => BL w x3 (by omega)
  have wx : (x : Int) % 18446744073709551616 = (x : Int) := by omega
  have lx : ((Nat.log2 x + 1 : Nat) : Int) - 1 = (Nat.log2 x : Int) := by omega
  clear BL
  generalize Nat.log2 x = lg at *
  have E0 := Hid.intro e0
  clear e0
  go_quiet ((go_at_call 73; refine Calls.quiet_of_same (LB _)))
  have e1 : Blk (w1.drewN nq) A #[.int .i64 (k : Int), .slice (some ⟨Q, 0, none⟩) 65 sc, v] 102 := blk_kept E0.out (drewN_chg w1 nq) (fun h => h)
  have F2 : Hid ((w1.drewN nq).ownsRow 0 3 1 (.slice (some ⟨Q, 0, none⟩) 65 sc) 65 (nis (nxt L cs (m + 1)))) := own_kept E2.out (drewN_chg w1 nq) (fun _ _ h => h)
  have F3 : Hid ((w1.drewN nq).ownsRow 0 77 3 v m (cvs (tab k L cs m))) := own_kept E3.out (drewN_chg w1 nq) (fun _ _ h => h)
  have Y2 : Hid (Below B W (w1.drewN nq) ∧ Q < (w1.drewN nq).heap.size) := ⟨below_drewN Y1.out.1 _, Nat.lt_of_lt_of_le Y1.out.2 (below_drewN (Below.refl w1.heap.size w1) nq).size⟩
  generalize w1.drewN nq = w2 at *
  clear a0 E0 E2 E3 LB wx lx kb lk
  have a0 : w2.cell? ⟨A, 0, none⟩ = some (.int .i64 (k : Int)) := by rw [blk_cell e1]; rfl
  have a2 : w2.cell? ⟨A, 2, none⟩ = some v := by rw [blk_cell e1]; rfl
  have E1 := Hid.intro e1
  have a3 : ∀ d : Int, (w2.alloc (.cells #[.int .i64 (c : Int), .int .i64 (b : Int), .int .i64 d] 77)).cell? ⟨A, 2, none⟩ = some v := fun d => by rw [blk_cell (blk_alloc e1 _)]; rfl
  clear e1
  obtain ⟨d, hd⟩ : ∃ d : Nat, (n : Int) - (s : Int) = (d : Int) := ⟨n - s, by omega⟩
  have DN : Hid (n - s = d) := by show _ = _; omega
  have wd : IntKind.i64.wrap (d : Int) = (d : Int) := by rw [IntKind.wrap_i64]; omega
  have wn : IntKind.i64.wrap (n : Int) = (n : Int) := by rw [IntKind.wrap_i64]; omega
  have ws : IntKind.i64.wrap (s : Int) = (s : Int) := by rw [IntKind.wrap_i64]; omega
  have b0 : (0 : Int) ≤ (b : Int) := by omega
  have k0 : (0 : Int) ≤ (k : Int) := by omega
  obtain ⟨i0, hi, hz, hs, hb⟩ := info_all info77
  clear kn sn
  go_wp2_with fail
  go_region_law (refine step_pushT rfl (.tmp 35) (.tmp 48) 51 rfl 77 i0 (.agg #[.int .i64 0, .int .i64 0, .int .i64 0]) 3 24 Tryz.underlying51 hi hz hs hb rfl (by decide) (by decide) v m (cvs (tab k L cs m)) rfl (World.ownsRow.alloc (own_drew F3.out) _) ⟨w2.heap.size, 0, none⟩ 1 1 [.int .i64 (c : Int), .int .i64 (b : Int), .int .i64 (d : Int)] rfl rfl (three_new _ _ _ _ _) (by intro u hu; simp at hu; rcases hu with rfl | rfl | rfl <;> rfl) (by omega) ?_; intro v2 w3 g1 g2 g3; have g7 := blk_grown (blk_alloc (blk_drew E1.out) _) g2 (fun e => (H5.out A e.symm).1 rfl); have g8 := blk_free g7 2; have g9 := blk_cell g7 2; have G1 := Hid.intro g1; have G2 := Hid.intro g2; have G3 := Hid.intro g3; have G7 := Hid.intro g7; obtain ⟨vb, vc, rfl⟩ := own_slice g1 (Nat.succ_pos _); clear g1 g2 g3 g7)
  all_goals
    have hBS : B ≤ W.heap.size := by have := HB.out.1; have := alt.out; omega
    have K1 : Below B W (w2.alloc (.cells #[.int .i64 (c : Int), .int .i64 (b : Int), .int .i64 (d : Int)] 77)).drew := (Y2.out.1.alloc (Nat.le_trans hBS Y2.out.1.size) _).drew
    have K2 := below_grown K1 G2.out (Nat.le_trans hBS K1.size) (fun j hj => HB.out.2.2 j hj)
    have hA2 : A < w2.heap.size := blk_lt E1.out
    have vbn : vb ≠ A ∧ vb ≠ Q := by
      rcases G3.out vb rfl with e | e
      · exact H5.out vb e
      · have e' : w2.heap.size + 1 ≤ vb := by simpa using e
        have := Y2.out.2
        omega
    have o2 : w3.ownsRow 0 3 1 (.slice (some ⟨Q, 0, none⟩) 65 sc) 65 (nis (nxt L cs (m + 1))) := own_kept (S := fun j => some j = v.ownBlock) (own_drew (World.ownsRow.alloc F2.out _)) (chg_grown (chg_refl _ _) G2.out (fun j hj _ => hj.symm)) (fun j hj e => by simp [Value.ownBlock] at hj; subst hj; exact (H5.out Q e.symm).2 rfl)
    have FV : From B (.slice (some ⟨vb, 0, none⟩) (m + 1) vc) := from_moved HB.out.2.2 G3.out (Nat.le_trans hBS K1.size)
    have Z := chg_set (S := (· = A)) (chg_refl _ w3) ⟨A, 2, none⟩ (.slice (some ⟨vb, 0, none⟩) (m + 1) vc) (fun _ => rfl)
    go_wp2_with fail
    go_returns
    refine ⟨rfl, ⟨.slice (some ⟨vb, 0, none⟩) (m + 1) vc, ⟨HB.out.1, HB.out.2.1, FV⟩, by simpa using blk_set G7.out 2 (.slice (some ⟨vb, 0, none⟩) (m + 1) vc), own_kept o2 Z (fun j hj e => by simp [Value.ownBlock] at hj; omega), ?_, h4, fun j hj => by simp [Value.ownBlock] at hj; subst hj; exact vbn⟩, K2.setCell (p := ⟨A, 2, none⟩) HB.out.1 _⟩
    rw [C2.out, cvs_snoc, DN.out]
    exact own_kept G1.out Z (fun j hj e => by simp [Value.ownBlock] at hj; omega)
def EtRel (A Q sc B k : Nat) (L cs : List Nat) (w : World) (sv : Value) (wr : World) : Prop :=
  ∃ i : Nat, i ≤ 2 ^ k ∧ sv = .int .i64 i ∧ Tb wr A Q sc B k L cs i ∧ Below B w wr
set_option maxRecDepth 100000 in
set_option maxHeartbeats 1000000 in
theorem ecell_any (A Q sc B k b c1 base : Nat) (L cs : List Nat) (W : World) (h : Tb W A Q sc B k L cs 0) (hs : Spd k L cs) (ho : W.ownsRow base 3 1 (.slice (some ⟨b, 0, none⟩) (2 ^ k) c1) (2 ^ k) (nis cs)) (hb : b < B) :
    Calls Tryz.prog 45 #[.pointer (some ⟨A, 0, none⟩), .slice (some ⟨b, 0, none⟩) ((2 ^ k : Nat)) c1, .func (.func 46) #[] #[]] W fun e W' => e = .returned (.tuple #[]) ∧ Tb W' A Q sc B k L cs (2 ^ k) ∧ Below B W W' := by
  have pb := pow_bd k hs.k12
  have ST : Hid (EtRel A Q sc B k L cs W (.int .i64 0) W) := ⟨0, Nat.zero_le _, rfl, h, Below.refl _ _⟩
  have HO : Hid (∀ wr, Below B W wr → ∀ i, i < 2 ^ k → wr.cell? ⟨b, i, none⟩ = some (.int .i64 (g cs i : Nat))) := fun wr hw i hi => nis_at (own_below ho hw (fun j hj => by simp [Value.ownBlock] at hj; omega)) i hi
  have LA : Hid (∀ m wr, m < 2 ^ k → Tb wr A Q sc B k L cs m → Calls Tryz.prog 46 #[.pointer (some ⟨A, 0, none⟩), .int .i64 (g cs m : Nat)] wr fun e W' => e = .returned (.tuple #[]) ∧ Tb W' A Q sc B k L cs (m + 1) ∧ Below B wr W') := fun m wr hm hw => tell_any A Q sc B k L cs m _ wr hw hs (by rw [hs.all]; exact hm) rfl
  obtain ⟨s, es⟩ : ∃ s, 2 ^ k = s ∧ s = s := ⟨_, rfl, rfl⟩
  have ES := Hid.intro es.1
  rw [es.1] at HO pb LA ⊢
  clear h ho es hs
  go_enter Tryz.func45, Tryz.ntmps45
  go_wp2_with fail
  go_loopw [10] (fun sv wr => EtRel A Q sc B k L cs W sv wr) (fun sv _ => s - (intOf sv).toNat)
  case atStart => exact ST.out
  case round =>
    clear ST
    obtain ⟨i, hi, rfl, d1, d2⟩ := hrel
    rw [ES.out] at hi
    by_cases hlt : i < s
    · have cx := HO.out wr d2 i hlt
      have LY := LA.out i wr hlt d1
      have hii : (i : Int) < (s : Int) := by omega
      generalize g cs i = c at *
      have D2 := Hid.intro d2
      clear d1 d2
      go_wp2_with fail
      with_reducible refine LY.mono ?_
      rintro e w1 ⟨rfl, k1, k2⟩
      clear LY
      go_wp2_with fail
      go_roundw
      case rel => exact ⟨i + 1, by rw [ES.out]; omega, by go_num, k1, D2.out.trans k2⟩
      case measure => simp [intOf]; omega
    · obtain rfl : i = s := by omega
      go_wp2_with fail
      go_returns
      exact ⟨rfl, d1, d2⟩
end Go.Proofs.YtofclflcicjlaaaGreat
