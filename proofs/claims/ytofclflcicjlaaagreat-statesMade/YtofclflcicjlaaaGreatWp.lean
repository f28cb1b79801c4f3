/-
  A writer's two rows, and the block that they hang on; what a writer by states puts: two rows grow by one.
-/
import Derived.Test.YtofclflcicjlaaaGreatPw
import Derived.WalkKit
import Derived.ProofKit
import Derived.OpenShut
import Derived.Deep.QuietTactic
import Derived.Deep.RegionWith
import Derived.Deep.RegionHeld3
import Derived.OwnWalk
import Derived.ChangeOld
import Derived.Below
import Derived.BigQuiet
import Derived.ArgAppend
import Derived.Deep.AppendLies
import Derived.Deep.RegionLaw
namespace Go.Proofs.YtofclflcicjlaaaGreat
open Go.ChangeShapes Go.WideShapes Go.ChangeAt Go.RowKit
open Go.ChangeMaps (open_string shut_string)
set_option maxRecDepth 100000
set_option linter.unusedVariables false
def Wt (W : World) (A B : Nat) (lv sv : Value) (st : Int) (vv kv : Value) (V : List (Nat × Nat)) : Prop :=
  B ≤ A ∧ Blk W A #[lv, sv, .int .i64 st, vv, kv] 58 ∧ VL W B vv kv V ∧ (∀ q, vv.ownBlock = some q → q ≠ A) ∧ ∀ q, kv.ownBlock = some q → q ≠ A
/-- Two rows and the block that they hang on, as a world grows. -/
def Pr (W0 : World) (S : Nat → Prop) (A B : Nat) (cs : Array Value) (vv kv : Value) (nv nk : Nat) (xs ys : List Value) (w : World) : Prop :=
  Blk w A cs 58 ∧ w.ownsRow 0 64 1 vv nv xs ∧ w.ownsRow 0 3 1 kv nk ys ∧ (From B vv ∧ From B kv ∧ Dj vv kv ∧ (∀ q, vv.ownBlock = some q → q ≠ A) ∧ ∀ q, kv.ownBlock = some q → q ≠ A) ∧ Below B W0 w ∧ B ≤ W0.heap.size ∧ Chg S W0 w ∧ (∀ q, vv.ownBlock = some q → q < W0.heap.size → S q) ∧ ∀ q, kv.ownBlock = some q → q < W0.heap.size → S q
section
variable {W0 w w' : World} {S : Nat → Prop} {A B nv nk : Nat} {cs : Array Value} {vv kv : Value} {xs ys : List Value}
theorem pr_alloc (h : Pr W0 S A B cs vv kv nv nk xs ys w) (o : Obj) : Pr W0 S A B cs vv kv nv nk xs ys (w.alloc o) :=
  ⟨blk_alloc h.1 o, World.ownsRow.alloc h.2.1 o, World.ownsRow.alloc h.2.2.1 o, h.2.2.2.1, h.2.2.2.2.1.alloc (Nat.le_trans h.2.2.2.2.2.1 h.2.2.2.2.1.size) o, h.2.2.2.2.2.1, chg_alloc h.2.2.2.2.2.2.1 o, h.2.2.2.2.2.2.2⟩
theorem pr_drew (h : Pr W0 S A B cs vv kv nv nk xs ys w) : Pr W0 S A B cs vv kv nv nk xs ys w.drew :=
  ⟨blk_drew h.1, own_drew h.2.1, own_drew h.2.2.1, h.2.2.2.1, h.2.2.2.2.1.drew, h.2.2.2.2.2.1, chg_drew h.2.2.2.2.2.2.1, h.2.2.2.2.2.2.2⟩
theorem pr_own1 (h : Pr W0 S A B cs vv kv nv nk xs ys w) : w.ownsRow 0 64 1 vv nv xs := h.2.1
theorem pr_own2 (h : Pr W0 S A B cs vv kv nv nk xs ys w) : w.ownsRow 0 3 1 kv nk ys := h.2.2.1
theorem own_keepG {v u : Value} {e : TypeId} {s n : Nat} {xs : List Value} (g : w.grownBy w' v.ownBlock) (d : ∀ q, u.ownBlock = some q → v.ownBlock ≠ some q) (h : w.ownsRow 0 e s u n xs) : w'.ownsRow 0 e s u n xs :=
  own_kept (S := fun j => some j = v.ownBlock) h (chg_grown (chg_refl _ _) g (fun j hj _ => hj.symm)) (fun j hj e => d j hj e.symm)
theorem pr_v {v2 : Value} {news : List Value} (h : Pr W0 S A B cs vv kv nv nk xs ys w) (o : w'.ownsRow 0 64 1 v2 (nv + 1) (xs ++ news)) (g : w.grownBy w' vv.ownBlock) (m : Moved w vv v2) : Pr W0 S A B cs v2 kv (nv + 1) nk (xs ++ news) ys w' := by
  obtain ⟨h1, h2, h3, ⟨f1, f2, d, n1, n2⟩, h5, h6, h7, h8, h9⟩ := h
  have hs : B ≤ w.heap.size := Nat.le_trans h6 h5.size
  refine ⟨grown_blk h1 g n1, o, own_keepG g (fun q hq e => d q e hq) h3, ⟨from_moved f1 m hs, f2, fun q hq e => ?_, fun q hq => ?_, n2⟩, below_grown h5 g hs (fun j hj => f1 j hj), h6, chg_grown h7 g (fun j hj hl => h8 j hj hl), fun q hq hl => ?_, h9⟩
  · rcases m q hq with r | r
    · exact d q r e
    · have := (h3.lt q e).2; omega
  · rcases m q hq with r | r
    · exact n1 q r
    · have := blk_lt h1; omega
  · rcases m q hq with r | r
    · exact h8 q r hl
    · have := chg_size h7; omega
theorem pr_k {v2 : Value} {news : List Value} (h : Pr W0 S A B cs vv kv nv nk xs ys w) (o : w'.ownsRow 0 3 1 v2 (nk + 1) (ys ++ news)) (g : w.grownBy w' kv.ownBlock) (m : Moved w kv v2) : Pr W0 S A B cs vv v2 nv (nk + 1) xs (ys ++ news) w' := by
  obtain ⟨h1, h2, h3, ⟨f1, f2, d, n1, n2⟩, h5, h6, h7, h8, h9⟩ := h
  have hs : B ≤ w.heap.size := Nat.le_trans h6 h5.size
  refine ⟨grown_blk h1 g n2, own_keepG g (fun q hq e => d q hq e) h2, o, ⟨f1, from_moved f2 m hs, fun q hq e => ?_, n1, fun q hq => ?_⟩, below_grown h5 g hs (fun j hj => f2 j hj), h6, chg_grown h7 g (fun j hj hl => h9 j hj hl), h8, fun q hq hl => ?_⟩
  · rcases m q e with r | r
    · exact d q hq r
    · have := (h2.lt q hq).2; omega
  · rcases m q hq with r | r
    · exact n2 q r
    · have := blk_lt h1; omega
  · rcases m q hq with r | r
    · exact h9 q r hl
    · have := chg_size h7; omega
theorem one_newN {N : Nat} (hN : w.heap.size = N) (x : Value) (t : TypeId) : ∀ j u, [x][j]? = some u → (w.alloc (.cells #[x] t)).cell? ((⟨N, 0, none⟩ : Addr).add j) = some u := by
  subst hN; exact one_new w x t
theorem news_alloc {l : List Value} {a : Addr} (h : ∀ j u, l[j]? = some u → w.cell? (a.add j) = some u) (o : Obj) : ∀ j u, l[j]? = some u → (w.alloc o).cell? (a.add j) = some u := fun j u hj => by
  rw [World.cell?_alloc_lt _ _ _ (World.block_lt_of_cell? w _ (h j u hj))]; exact h j u hj
theorem news_drew {l : List Value} {a : Addr} (h : ∀ j u, l[j]? = some u → w.cell? (a.add j) = some u) : ∀ j u, l[j]? = some u → w.drew.cell? (a.add j) = some u := h
theorem news_grown {l : List Value} {v : Value} {N : Nat} (g : w.grownBy w' v.ownBlock) (hne : v.ownBlock ≠ some N) (h : ∀ j u, l[j]? = some u → w.cell? ((⟨N, 0, none⟩ : Addr).add j) = some u) : ∀ j u, l[j]? = some u → w'.cell? ((⟨N, 0, none⟩ : Addr).add j) = some u := fun j u hj => by
  rw [g.cell_far _ (World.block_lt_of_cell? w _ (h j u hj)) (fun e => hne (by rw [← e, Addr.add_lit]))]; exact h j u hj
end
theorem pr_cells {W0 w : World} {S : Nat → Prop} {A B nv nk : Nat} {a0 a1 a2 a3 a4 : Value} {vv kv : Value} {xs ys : List Value} (h : Pr W0 S A B #[a0, a1, a2, a3, a4] vv kv nv nk xs ys w) :
    (w.cell? ⟨A, 3, none⟩ = some a3 ∧ w.cell? ⟨A, 4, none⟩ = some a4) ∧ ((∀ o, (w.alloc o).cell? ⟨A, 3, none⟩ = some a3) ∧ ∀ o, (w.alloc o).cell? ⟨A, 4, none⟩ = some a4) ∧ ((∀ o o', ((w.alloc o).alloc o').cell? ⟨A, 3, none⟩ = some a3) ∧ ∀ o o', ((w.alloc o).alloc o').cell? ⟨A, 4, none⟩ = some a4) ∧
    (w.frozen? ⟨A, 3, none⟩ = false ∧ w.frozen? ⟨A, 4, none⟩ = false) ∧ ((∀ u, (w.setCell ⟨A, 4, none⟩ u).cell? ⟨A, 3, none⟩ = some a3) ∧ ∀ u, (w.setCell ⟨A, 3, none⟩ u).cell? ⟨A, 4, none⟩ = some a4) ∧ ((∀ u, (w.setCell ⟨A, 4, none⟩ u).frozen? ⟨A, 3, none⟩ = false) ∧ ∀ u, (w.setCell ⟨A, 3, none⟩ u).frozen? ⟨A, 4, none⟩ = false) := by
  have hb := h.1
  refine ⟨⟨by rw [blk_cell hb]; rfl, by rw [blk_cell hb]; rfl⟩, ⟨fun o => by rw [blk_cell (blk_alloc hb o)]; rfl, fun o => by rw [blk_cell (blk_alloc hb o)]; rfl⟩, ⟨fun o o' => by rw [blk_cell (blk_alloc (blk_alloc hb o) o')]; rfl, fun o o' => by rw [blk_cell (blk_alloc (blk_alloc hb o) o')]; rfl⟩,
    ⟨blk_free hb 3, blk_free hb 4⟩, ⟨fun u => by rw [blk_cell (blk_set hb 4 u)]; rfl, fun u => by rw [blk_cell (blk_set hb 3 u)]; rfl⟩, ⟨fun u => blk_free (blk_set hb 4 u) 3, fun u => blk_free (blk_set hb 3 u) 4⟩⟩
set_option linter.unusedVariables false
set_option maxRecDepth 100000 in
set_option maxHeartbeats 8000000 in
theorem wput_any (A B : Nat) (lv sv : Value) (st : Int) (vv kv : Value) (V : List (Nat × Nat)) (v n : Nat) (W : World) (h : Wt W A B lv sv st vv kv V) (hv : v < 9223372036854775808) (hl : V.length ≤ 5000) :
    Calls Tryz.prog 20 #[.pointer (some ⟨A, 0, none⟩), .int .i64 (v : Int), .int .i64 (n : Int)] W fun e W' => e = .returned (.tuple #[]) ∧ (∃ vv' kv', Wt W' A B lv sv st vv' kv' (V ++ [(v, n)])) ∧ Below B W W' ∧ Chg (fun q => q = A ∨ vv.ownBlock = some q ∨ kv.ownBlock = some q) W W' := by
  obtain ⟨hBA, hb, ⟨o1, o2, f1, f2, dj⟩, n1, n2⟩ := h
  have hBW : B ≤ W.heap.size := Nat.le_trans hBA (Nat.le_of_lt (blk_lt hb))
  have P0 : Pr W (fun q => q = A ∨ vv.ownBlock = some q ∨ kv.ownBlock = some q) A B #[lv, sv, .int .i64 st, vv, kv] vv kv V.length V.length (uvs (V.map Prod.fst)) (nis (V.map Prod.snd)) W := ⟨hb, o1, o2, ⟨f1, f2, dj, n1, n2⟩, Below.refl _ _, hBW, chg_refl _ _, fun q hq _ => .inr (.inl hq), fun q hq _ => .inr (.inr hq)⟩
  have P1 := pr_drew P0
  obtain ⟨⟨a3, a4⟩, -, -, -, -, -⟩ := pr_cells P0
  obtain ⟨-, ⟨a5, a6⟩, ⟨a7, a8⟩, -, -, -⟩ := pr_cells P0
  obtain ⟨i5, hi5, hz5, hs5, hb5⟩ := info_all info64
  obtain ⟨i3, hi3, hz3, hs3, hb3⟩ := info_all info3
  have V1 : vv.ownBlock ≠ some W.heap.size ∧ vv.ownBlock ≠ some (W.heap.size + 1) := ⟨fun e => by have := (o1.lt _ e).2; omega, fun e => by have := (o1.lt _ e).2; omega⟩
  have K1 : kv.ownBlock ≠ some W.heap.size ∧ kv.ownBlock ≠ some (W.heap.size + 1) := ⟨fun e => by have := (o2.lt _ e).2; omega, fun e => by have := (o2.lt _ e).2; omega⟩
  have FIN : Hid (∀ v8 k8 w8, Pr W (fun q => q = A ∨ vv.ownBlock = some q ∨ kv.ownBlock = some q) A B #[lv, sv, .int .i64 st, vv, kv] v8 k8 (V.length + 1) (V.length + 1) (uvs (V.map Prod.fst) ++ [.int .u64 (IntKind.u64.wrap (v : Int))]) (nis (V.map Prod.snd) ++ [.int .i64 (n : Int)]) w8 →
      ∀ W', (W' = (w8.setCell ⟨A, 3, none⟩ v8).setCell ⟨A, 4, none⟩ k8 ∨ W' = (w8.setCell ⟨A, 4, none⟩ k8).setCell ⟨A, 3, none⟩ v8) → (∃ vv' kv', Wt W' A B lv sv st vv' kv' (V ++ [(v, n)])) ∧ Below B W W' ∧ Chg (fun q => q = A ∨ vv.ownBlock = some q ∨ kv.ownBlock = some q) W W') := fun v8 k8 w8 p W' hW => by
    have wv : IntKind.u64.wrap (v : Int) = (v : Int) := by unfold IntKind.wrap; simp [IntKind.bits, IntKind.signed]; omega
    obtain ⟨p1, p2, p3, ⟨g1, g2, dd, m1, m2⟩, p5, -, p7, -, -⟩ := p
    rw [wv, uvs_snoc] at p2
    rw [nis_snoc] at p3
    have key : ∀ W', Blk W' A #[lv, sv, .int .i64 st, v8, k8] 58 → Chg (· = A) w8 W' → Below B W W' → (∃ vv' kv', Wt W' A B lv sv st vv' kv' (V ++ [(v, n)])) ∧ Below B W W' ∧ Chg (fun q => q = A ∨ vv.ownBlock = some q ∨ kv.ownBlock = some q) W W' := fun W' q1 q2 q3 =>
      ⟨⟨v8, k8, hBA, q1, vl_set (own_kept p2 q2 (fun j hj e => m1 j hj e)) (own_kept p3 q2 (fun j hj e => m2 j hj e)) g1 g2 dd, m1, m2⟩, q3, chg_trans p7 q2 (fun _ _ e => .inl e)⟩
    rcases hW with rfl | rfl
    · exact key _ (by simpa using blk_set (blk_set p1 3 v8) 4 k8) (chg_set (S := (· = A)) (chg_set (S := (· = A)) (chg_refl _ _) ⟨A, 3, none⟩ _ (fun _ => rfl)) ⟨A, 4, none⟩ _ (fun _ => rfl)) ((p5.setCell (p := ⟨A, 3, none⟩) hBA _).setCell (p := ⟨A, 4, none⟩) hBA _)
    · exact key _ (by simpa using blk_set (blk_set p1 4 k8) 3 v8) (chg_set (S := (· = A)) (chg_set (S := (· = A)) (chg_refl _ _) ⟨A, 4, none⟩ _ (fun _ => rfl)) ⟨A, 3, none⟩ _ (fun _ => rfl)) ((p5.setCell (p := ⟨A, 4, none⟩) hBA _).setCell (p := ⟨A, 3, none⟩) hBA _)
  have HB := Hid.intro hb
  have HO1 := Hid.intro o1
  have HO2 := Hid.intro o2
  clear hb o1 o2 f1 f2 dj n1 n2
  go_enter Tryz.func20, Tryz.ntmps20
  go_wp2_with fail
  go_region_law (first
    | (refine step_pushT rfl (.tmp 11) (.tmp 14) 56 rfl 64 i5 (.int .u64 0) 1 8 Tryz.underlying56 hi5 hz5 hs5 hb5 rfl (by decide) (by decide) vv V.length (uvs (V.map Prod.fst)) rfl (pr_own1 (by repeat (first | assumption | apply pr_alloc | apply pr_drew))) ⟨_, 0, none⟩ 1 1 [.int .u64 (IntKind.u64.wrap (v : Int))] rfl rfl (by first | assumption | exact news_drew (one_newN rfl _ _) | exact news_drew (one_newN (World.size_alloc _ _) _ _) | exact news_drew (news_alloc (one_newN rfl _ _) _) | exact news_drew (news_alloc (by assumption) _) | exact one_newN rfl _ _ | exact news_alloc (by assumption) _) (by intro u hu; simp at hu; subst hu; rfl) (by omega) ?_
       intro v8 w8 o8 g8 m8
       obtain ⟨vb, vc, rfl⟩ := own_slice o8 (Nat.succ_pos _)
       have p8 := pr_v (by repeat (first | assumption | apply pr_alloc | apply pr_drew)) o8 g8 m8
       obtain ⟨⟨q3, q4⟩, ⟨q5, q6⟩, -, ⟨q7, q8⟩, ⟨q9, q10⟩, q11, q12⟩ := pr_cells p8
       try have N8 := news_grown (l := [Value.int .i64 (n : Int)]) (N := W.heap.size) g8 V1.1 (news_drew (one_newN rfl _ _))
       try have N8 := news_grown (l := [Value.int .i64 (n : Int)]) (N := W.heap.size) g8 V1.1 (news_drew (news_alloc (one_newN rfl _ _) _))
       try have N9 := news_grown (l := [Value.int .i64 (n : Int)]) (N := W.heap.size + 1) g8 V1.2 (news_drew (one_newN (World.size_alloc _ _) _ _))
       clear o8 g8 m8)
    | (refine step_pushT rfl (.tmp 19) (.tmp 21) 23 rfl 3 i3 (.int .i64 0) 1 8 Tryz.underlying23 hi3 hz3 hs3 hb3 rfl (by decide) (by decide) kv V.length (nis (V.map Prod.snd)) rfl (pr_own2 (by repeat (first | assumption | apply pr_alloc | apply pr_drew))) ⟨_, 0, none⟩ 1 1 [.int .i64 (n : Int)] rfl rfl (by first | assumption | exact news_drew (one_newN rfl _ _) | exact news_drew (one_newN (World.size_alloc _ _) _ _) | exact news_drew (news_alloc (one_newN rfl _ _) _) | exact news_drew (news_alloc (by assumption) _) | exact one_newN rfl _ _ | exact news_alloc (by assumption) _) (by intro u hu; simp at hu; subst hu; rfl) (by omega) ?_
       intro k8 x8 o8 g8 m8
       obtain ⟨kb, kc, rfl⟩ := own_slice o8 (Nat.succ_pos _)
       have p9 := pr_k (by repeat (first | assumption | apply pr_alloc | apply pr_drew)) o8 g8 m8
       obtain ⟨⟨q3, q4⟩, ⟨q5, q6⟩, -, ⟨q7, q8⟩, ⟨q9, q10⟩, q11, q12⟩ := pr_cells p9
       try have N8 := news_grown (l := [Value.int .u64 (IntKind.u64.wrap (v : Int))]) (N := W.heap.size) g8 K1.1 (news_drew (one_newN rfl _ _))
       try have N8 := news_grown (l := [Value.int .u64 (IntKind.u64.wrap (v : Int))]) (N := W.heap.size) g8 K1.1 (news_drew (news_alloc (one_newN rfl _ _) _))
       try have N9 := news_grown (l := [Value.int .u64 (IntKind.u64.wrap (v : Int))]) (N := W.heap.size + 1) g8 K1.2 (news_drew (one_newN (World.size_alloc _ _) _ _))
       clear o8 g8 m8))
  all_goals (go_wp2_with fail)
  all_goals (go_returns)
  all_goals (first | exact ⟨rfl, FIN.out _ _ _ (by assumption) _ (.inl rfl)⟩ | exact ⟨rfl, FIN.out _ _ _ (by assumption) _ (.inr rfl)⟩)
end Go.Proofs.YtofclflcicjlaaaGreat
