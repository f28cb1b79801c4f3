/-
  How the reference's reading of parts by states stands.
-/
import Derived.Test.YtofclflcicjlaaaGreatGqq
import Derived.Test.YtofclflcicjlaaaGreatPw
import Derived.Test.YtofclflcicjlaaaGreatRefTb
import Derived.Test.YtofclflcicjlaaaGreatRefHxh
import Derived.Test.YtofclflcicjlaaaGreatRefCvw
import Derived.WalkKit
import Derived.ProofKit
import Derived.OpenShut
import Derived.Deep.QuietTactic
import Derived.Deep.RegionWith
import Derived.Deep.RegionHeld3
import Derived.OwnWalk
import Derived.ChangeOld
import Derived.Below
import Derived.BigQuiet
import Derived.Lib.MinMax
namespace Go.Proofs.YtofclflcicjlaaaGreat
open Go.ChangeShapes Go.WideShapes Go.ChangeAt Go.RowKit
open Go.ChangeMaps (open_string shut_string)
set_option linter.unusedVariables false
def RgPost (G : Nat × List (Nat × Nat)) (w : World) (e : Ending) (w' : World) : Prop :=
  ∃ v, e = .returned (.agg #[v, .int .i64 (G.1 : Nat)]) ∧ w'.ownsRow w.heap.size 74 2 v G.2.length (pvs (G.2.map toIP)) ∧ Below w.heap.size w w'
theorem rg_none {G : Nat × List (Nat × Nat)} {w w' : World} {er : Nat} (h : G = (er, [])) (b : Below w.heap.size w w') : RgPost G w (.returned (.agg #[.slice none 0 0, .int .i64 (er : Int)])) w' := by
  subst h; exact ⟨_, rfl, World.ownsRow_nil _ _ _ _, b⟩
theorem tg_cases (X a bb : Nat) (h : bb ≤ 12) : ∃ E y a', geb a (bb : Int) = E ∧ got X (a - gkb a bb) (gkb a bb) = y ∧ a - gkb a bb = a' ∧ y ≤ 4096 ∧ a' ≤ a ∧ ((E ≠ 0 ∧ a < bb) ∨ (E = 0 ∧ bb ≤ a ∧ a' = a - bb ∧ y = got X (a - bb) bb)) := by
  by_cases hab : a < bb
  · have e0 : geb a (bb : Int) = 2 := by unfold geb; rw [if_neg (by omega), if_pos (by omega)]
    have e1 : gkb a (bb : Int) = 0 := by unfold gkb; rw [e0]; rfl
    exact ⟨2, 0, a, e0, by rw [e1, got_zero], by rw [e1]; rfl, by omega, by omega, .inl ⟨by omega, hab⟩⟩
  · have e0 : geb a (bb : Int) = 0 := by unfold geb; rw [if_neg (by omega), if_neg (by omega)]
    have e1 : gkb a (bb : Int) = bb := by unfold gkb; rw [if_pos e0]; simp
    have h1 := got_lt X (a - bb) bb
    have h2 := pow_bd bb h
    exact ⟨0, _, a - bb, e0, rfl, by rw [e1], by rw [e1]; omega, by omega, .inr ⟨rfl, by omega, rfl, by rw [e1]⟩⟩
theorem rg_cases (X Lq r m : Nat) (h : m ≤ 64) (hr : r ≤ Lq) : ∃ E y r', ge Lq r (m : Int) = E ∧ got X r (gk Lq r m) = y ∧ r + gk Lq r m = r' ∧ y < 2 ^ 64 ∧ r' ≤ Lq ∧ ((E ≠ 0 ∧ Lq - r < m) ∨ (E = 0 ∧ m ≤ Lq - r ∧ r' = r + m ∧ y = got X r m)) := by
  by_cases hab : Lq - r < m
  · have e0 : ge Lq r (m : Int) = 2 := by unfold ge; rw [if_neg (by omega), if_pos (by omega)]
    have e1 : gk Lq r (m : Int) = 0 := by unfold gk; rw [e0]; rfl
    exact ⟨2, 0, r, e0, by rw [e1, got_zero], by rw [e1]; rfl, by decide, hr, .inl ⟨by omega, hab⟩⟩
  · have e0 : ge Lq r (m : Int) = 0 := by unfold ge; rw [if_neg (by omega), if_neg (by omega)]
    have e1 : gk Lq r (m : Int) = m := by unfold gk; rw [if_pos e0]; simp
    exact ⟨0, _, r + m, e0, rfl, by rw [e1], by rw [e1]; exact Nat.lt_of_lt_of_le (got_lt _ _ _) (Nat.pow_le_pow_right (by decide) h), by omega, .inr ⟨rfl, by omega, rfl, by rw [e1]⟩⟩
/-- How the reference's reading stands: its cells, the tail's bits left, the rests' taken, the parts told. -/
def Gv (w W : World) (C7 D A g cg R X P : Nat) (rv : Value) (b s cp k : Nat) (L cs : List Nat) (t q : ByteArray) (x0 x1 x2 : Int) (a r : Nat) (pv : Value) (acc : List (Nat × Nat)) : Prop :=
  (Blk W w.heap.size #[.slice none 0 0, .int .i64 0] 34 ∧ Blk W C7 #[.slice (some ⟨b, 0, none⟩) s cp, .int .i64 0] 67 ∧ Blk W D #[.slice none 0 0, .int .i64 3] 34) ∧
  Blk W X #[.int .u64 x0, .int .i64 x1, .int .i64 x2] 87 ∧ Tl W A g cg (le t.data.toList) a ∧ Wkh W R rv (le q.data.toList) (8 * q.size) r ∧
  W.ownsRow 0 77 3 (.slice (some ⟨b, 0, none⟩) s cp) s (cvs (tab k L cs s)) ∧ W.ownsRow 0 74 2 pv acc.length (pvs (acc.map toIP)) ∧ From P pv ∧ Below w.heap.size w W
/-- The order of its blocks. -/
def GO (w : World) (C7 D A g R X P b : Nat) (rv : Value) : Prop :=
  w.heap.size < C7 ∧ w.heap.size ≤ b ∧ b < C7 ∧ C7 < D ∧ D < A ∧ D < g ∧ A < R ∧ g < R ∧ R < X ∧ X < P ∧ ∀ j, rv.ownBlock = some j → A < j ∧ g < j ∧ j ≠ R ∧ j < X
theorem own_ne {w : World} {base e size b n cap : Nat} {xs : List Value} {S : Nat → Prop} (hb : ¬ S b) : ∀ k, (Value.slice (some ⟨b, 0, none⟩) n cap).ownBlock = some k → ¬ S k := fun k hk => by
  simp [Value.ownBlock] at hk; subst hk; exact hb
theorem gv_tget {w W W' : World} {C7 D A g cg R X P b s cp k : Nat} {rv pv : Value} {L cs : List Nat} {t q : ByteArray} {x0 x1 x2 : Int} {a a' r : Nat} {acc : List (Nat × Nat)} (o : GO w C7 D A g R X P b rv) (h : Gv w W C7 D A g cg R X P rv b s cp k L cs t q x0 x1 x2 a r pv acc)
    (h1 : Tl W' A g cg (le t.data.toList) a') (c : Chg (· = A) W W') : Gv w W' C7 D A g cg R X P rv b s cp k L cs t q x0 x1 x2 a' r pv acc := by
  obtain ⟨o1, o2, o3, o4, o5, o6, o7, o8, o9, o10, o11⟩ := o
  obtain ⟨⟨k1, k2, k3⟩, k4, k5, ⟨k6, k7, k8⟩, k9, k10, k11, k12⟩ := h
  exact ⟨⟨blk_kept k1 c (by omega), blk_kept k2 c (by omega), blk_kept k3 c (by omega)⟩, blk_kept k4 c (by omega), h1, ⟨blk_kept k6 c (by omega), own_kept k7 c (fun j hj e => by have := (o11 j hj).1; omega), k8⟩,
    own_kept k9 c (fun j hj e => by simp [Value.ownBlock] at hj; omega), own_kept k10 c (fun j hj e => by have := k11 j hj; omega), k11, k12.trans (chg_below c k12.size (fun j hj => by omega))⟩
theorem gv_rget {w W W' : World} {C7 D A g cg R X P b s cp k : Nat} {rv pv : Value} {L cs : List Nat} {t q : ByteArray} {x0 x1 x2 : Int} {a r r' : Nat} {acc : List (Nat × Nat)} (o : GO w C7 D A g R X P b rv) (h : Gv w W C7 D A g cg R X P rv b s cp k L cs t q x0 x1 x2 a r pv acc)
    (h1 : Wkh W' R rv (le q.data.toList) (8 * q.size) r') (c : Chg (· = R) W W') : Gv w W' C7 D A g cg R X P rv b s cp k L cs t q x0 x1 x2 a r' pv acc := by
  obtain ⟨o1, o2, o3, o4, o5, o6, o7, o8, o9, o10, o11⟩ := o
  obtain ⟨⟨k1, k2, k3⟩, k4, k5, k6, k9, k10, k11, k12⟩ := h
  exact ⟨⟨blk_kept k1 c (by omega), blk_kept k2 c (by omega), blk_kept k3 c (by omega)⟩, blk_kept k4 c (by omega), tl_kept k5 c (by omega) (by omega), h1,
    own_kept k9 c (fun j hj e => by simp [Value.ownBlock] at hj; omega), own_kept k10 c (fun j hj e => by have := k11 j hj; omega), k11, k12.trans (chg_below c k12.size (fun j hj => by omega))⟩
theorem gv_later {w W W' : World} {C7 D A g cg R X P b s cp k : Nat} {rv pv : Value} {L cs : List Nat} {t q : ByteArray} {x0 x1 x2 : Int} {a r : Nat} {acc : List (Nat × Nat)} (h : Gv w W C7 D A g cg R X P rv b s cp k L cs t q x0 x1 x2 a r pv acc)
    (c : Below W.heap.size W W') : Gv w W' C7 D A g cg R X P rv b s cp k L cs t q x0 x1 x2 a r pv acc := by
  obtain ⟨⟨k1, k2, k3⟩, k4, k5, ⟨k6, k7, k8⟩, k9, k10, k11, k12⟩ := h
  have cc : Chg (fun _ => False) W W' := chg_of c
  exact ⟨⟨blk_kept k1 cc id, blk_kept k2 cc id, blk_kept k3 cc id⟩, blk_kept k4 cc id, tl_kept k5 cc id id, ⟨blk_kept k6 cc id, own_later k7 c, k8⟩, own_later k9 c, own_later k10 c, k11, k12.trans (c.mono k12.size)⟩
theorem gv_store {w W : World} {C7 D A g cg R X P b s cp k : Nat} {rv pv : Value} {L cs : List Nat} {t q : ByteArray} {x0 x1 x2 : Int} {a r : Nat} {acc : List (Nat × Nat)} (o : GO w C7 D A g R X P b rv) (h : Gv w W C7 D A g cg R X P rv b s cp k L cs t q x0 x1 x2 a r pv acc) (y0 y1 y2 : Int) :
    Gv w (((W.setCell ⟨X, 0, none⟩ (.int .u64 y0)).setCell ⟨X, 1, none⟩ (.int .i64 y1)).setCell ⟨X, 2, none⟩ (.int .i64 y2)) C7 D A g cg R X P rv b s cp k L cs t q y0 y1 y2 a r pv acc := by
  obtain ⟨o1, o2, o3, o4, o5, o6, o7, o8, o9, o10, o11⟩ := o
  obtain ⟨⟨k1, k2, k3⟩, k4, k5, ⟨k6, k7, k8⟩, k9, k10, k11, k12⟩ := h
  have c0 : Chg (· = X) W W := chg_refl _ _
  have c1 := chg_set c0 ⟨X, 0, none⟩ (.int .u64 y0) (fun _ => rfl)
  have c2 := chg_set c1 ⟨X, 1, none⟩ (.int .i64 y1) (fun _ => rfl)
  have c := chg_set c2 ⟨X, 2, none⟩ (.int .i64 y2) (fun _ => rfl)
  have e1 : Blk (W.setCell ⟨X, 0, none⟩ (.int .u64 y0)) X #[.int .u64 y0, .int .i64 x1, .int .i64 x2] 87 := by simpa using blk_set k4 0 (.int .u64 y0)
  have e2 : Blk ((W.setCell ⟨X, 0, none⟩ (.int .u64 y0)).setCell ⟨X, 1, none⟩ (.int .i64 y1)) X #[.int .u64 y0, .int .i64 y1, .int .i64 x2] 87 := by simpa using blk_set e1 1 (.int .i64 y1)
  have e : Blk (((W.setCell ⟨X, 0, none⟩ (.int .u64 y0)).setCell ⟨X, 1, none⟩ (.int .i64 y1)).setCell ⟨X, 2, none⟩ (.int .i64 y2)) X #[.int .u64 y0, .int .i64 y1, .int .i64 y2] 87 := by simpa using blk_set e2 2 (.int .i64 y2)
  clear c0 c1 c2 e1 e2 k4
  generalize ((W.setCell ⟨X, 0, none⟩ (.int .u64 y0)).setCell ⟨X, 1, none⟩ (.int .i64 y1)).setCell ⟨X, 2, none⟩ (.int .i64 y2) = W' at *
  exact ⟨⟨blk_kept k1 c (by omega), blk_kept k2 c (by omega), blk_kept k3 c (by omega)⟩, e, tl_kept k5 c (by omega) (by omega), ⟨blk_kept k6 c (by omega), own_kept k7 c (fun j hj e => by have := (o11 j hj).2.2.2; omega), k8⟩,
    own_kept k9 c (fun j hj e => by simp [Value.ownBlock] at hj; omega), own_kept k10 c (fun j hj e => by have := k11 j hj; omega), k11, k12.trans (chg_below c k12.size (fun j hj => by omega))⟩
theorem gv_push {w W W' : World} {C7 D A g cg R X P b s cp k : Nat} {rv pv v2 : Value} {L cs : List Nat} {t q : ByteArray} {x0 x1 x2 : Int} {a r c y : Nat} {acc : List (Nat × Nat)} (o : GO w C7 D A g R X P b rv) (h : Gv w W C7 D A g cg R X P rv b s cp k L cs t q x0 x1 x2 a r pv acc) (hP : P ≤ W.heap.size)
    (g1 : W'.ownsRow 0 74 2 v2 (acc.length + 1) (pvs (acc.map toIP) ++ [.int .i64 (c : Int), .int .u64 (y : Int)])) (g2 : W.grownBy W' pv.ownBlock) (g3 : Moved W pv v2) : Gv w W' C7 D A g cg R X P rv b s cp k L cs t q x0 x1 x2 a r v2 (acc ++ [(c, y)]) := by
  obtain ⟨o1, o2, o3, o4, o5, o6, o7, o8, o9, o10, o11⟩ := o
  obtain ⟨⟨k1, k2, k3⟩, k4, k5, ⟨k6, k7, k8⟩, k9, k10, k11, k12⟩ := h
  have c' : Chg (fun j => some j = pv.ownBlock) W W' := chg_grown (chg_refl _ _) g2 (fun j hj _ => hj.symm)
  have ne : ∀ j, j < P → ¬ (some j = pv.ownBlock) := fun j hj e => by have := k11 j e.symm; omega
  refine ⟨⟨blk_kept k1 c' (ne _ (by omega)), blk_kept k2 c' (ne _ (by omega)), blk_kept k3 c' (ne _ (by omega))⟩, blk_kept k4 c' (ne _ (by omega)), tl_kept k5 c' (ne _ (by omega)) (ne _ (by omega)), ⟨blk_kept k6 c' (ne _ (by omega)), own_kept k7 c' (fun j hj => ne j (by have := (o11 j hj).2.2.2; omega)), k8⟩,
    own_kept k9 c' (fun j hj => ne j (by simp [Value.ownBlock] at hj; omega)), ?_, from_moved k11 g3 hP, below_grown k12 g2 k12.size (fun j hj => by have := k11 j hj; omega)⟩
  rw [List.length_append, List.map_append, show [(c, y)].map toIP = [((c : Int), (y : Int))] from rfl, ← pvs_snocq]
  exact g1
def G0 (w W : World) (C7 D b s cp k : Nat) (L cs : List Nat) : Prop :=
  (Blk W w.heap.size #[.slice none 0 0, .int .i64 0] 34 ∧ Blk W C7 #[.slice (some ⟨b, 0, none⟩) s cp, .int .i64 0] 67 ∧ Blk W D #[.slice none 0 0, .int .i64 3] 34) ∧
  W.ownsRow 0 77 3 (.slice (some ⟨b, 0, none⟩) s cp) s (cvs (tab k L cs s)) ∧ Below w.heap.size w W
theorem g0_later {w W W' : World} {C7 D b s cp k : Nat} {L cs : List Nat} (h : G0 w W C7 D b s cp k L cs) (c : Below W.heap.size W W') : G0 w W' C7 D b s cp k L cs := by
  obtain ⟨⟨k1, k2, k3⟩, k9, k12⟩ := h
  have cc : Chg (fun _ => False) W W' := chg_of c
  exact ⟨⟨blk_kept k1 cc id, blk_kept k2 cc id, blk_kept k3 cc id⟩, own_later k9 c, k12.trans (c.mono k12.size)⟩
theorem chg_no {a b : World} (h : Chg (fun _ => False) a b) : Below a.heap.size a b := chg_below h (Nat.le_refl _) (fun _ h => h.elim)
/-- What the cells of the reference's result, its bad one, are. -/
theorem g0_bad {w W : World} {C7 D b s cp k : Nat} {L cs : List Nat} (h : G0 w W C7 D b s cp k L cs) :
    (W.cell? ⟨w.heap.size, 0, none⟩ = some (.slice none 0 0) ∧ W.cell? ⟨w.heap.size, 1, none⟩ = some (.int .i64 0) ∧ W.frozen? ⟨w.heap.size, 0, none⟩ = false ∧ W.frozen? ⟨w.heap.size, 1, none⟩ = false) ∧
    (W.cell? ⟨D, 0, none⟩ = some (.slice none 0 0) ∧ W.cell? ⟨D, 1, none⟩ = some (.int .i64 3)) ∧
    (∀ v e, ((W.setCell ⟨w.heap.size, 0, none⟩ v).setCell ⟨w.heap.size, 1, none⟩ e).cell? ⟨w.heap.size, 0, none⟩ = some v ∧ ((W.setCell ⟨w.heap.size, 0, none⟩ v).setCell ⟨w.heap.size, 1, none⟩ e).cell? ⟨w.heap.size, 1, none⟩ = some e ∧
      Below w.heap.size w ((W.setCell ⟨w.heap.size, 0, none⟩ v).setCell ⟨w.heap.size, 1, none⟩ e)) := by
  obtain ⟨⟨k1, k2, k3⟩, k9, k12⟩ := h
  exact ⟨rb_cells k1, ⟨by rw [blk_cell k3]; rfl, by rw [blk_cell k3]; rfl⟩, fun v e => rb_end k1 k12 v e⟩
theorem gv_g0 {w W : World} {C7 D A g cg R X P b s cp k : Nat} {rv pv : Value} {L cs : List Nat} {t q : ByteArray} {x0 x1 x2 : Int} {a r : Nat} {acc : List (Nat × Nat)} (h : Gv w W C7 D A g cg R X P rv b s cp k L cs t q x0 x1 x2 a r pv acc) : G0 w W C7 D b s cp k L cs := by
  obtain ⟨k1, k4, k5, k6, k9, k10, k11, k12⟩ := h
  exact ⟨k1, k9, k12⟩
theorem gv_start {w W : World} {C7 D A g cg R X P b s cp k : Nat} {rv : Value} {L cs : List Nat} {t q : ByteArray} {x0 x1 x2 : Int} {a r : Nat} (h : G0 w W C7 D b s cp k L cs) (hX : Blk W X #[.int .u64 x0, .int .i64 x1, .int .i64 x2] 87) (hT : Tl W A g cg (le t.data.toList) a)
    (hR : Wkh W R rv (le q.data.toList) (8 * q.size) r) : Gv w W C7 D A g cg R X P rv b s cp k L cs t q x0 x1 x2 a r (.slice none 0 0) [] := by
  obtain ⟨k1, k9, k12⟩ := h
  exact ⟨k1, hX, hT, hR, k9, World.ownsRow_nil _ _ _ _, fun j hj => by simp [Value.ownBlock] at hj, k12⟩
theorem wkh_kept {W W' : World} {S : Nat → Prop} {A : Nat} {v : Value} {X L a : Nat} (h : Wkh W A v X L a) (c : Chg S W W') (h1 : ¬ S A) (h2 : ∀ j, v.ownBlock = some j → ¬ S j) : Wkh W' A v X L a :=
  ⟨blk_kept h.1 c h1, own_kept h.2.1 c h2, h.2.2⟩
def lenV : Value → Nat
  | .slice _ n _ => n
  | _ => 0
def RgRel (w : World) (C7 D A g cg R X P : Nat) (rv : Value) (b s cp k : Nat) (L cs : List Nat) (t q : ByteArray) (m : Nat) (G : Option (List (Nat × Nat) × Nat × Nat × Nat)) (sv pv : Value) (wr : World) : Prop :=
  ∃ (st a r : Nat) (acc : List (Nat × Nat)) (x0 x1 x2 : Int), sv = .int .i64 (st : Int) ∧ acc.length ≤ m ∧ Gv w wr C7 D A g cg R X P rv b s cp k L cs t q x0 x1 x2 a r pv acc ∧ P ≤ wr.heap.size ∧ st < 2 ^ k ∧ a ≤ 8 * t.size ∧ r ≤ 8 * q.size ∧
    gS k L cs (le t.data.toList) (le q.data.toList) (8 * q.size) (m - acc.length) st a r acc = G
end Go.Proofs.YtofclflcicjlaaaGreat
