/-
  The queue's next: the package that comes out.
-/
import Derived.Test.YtabnafjndljimaaNp
namespace Go.Proofs.Ytabnafjndljimaa
open Go.ChangeShapes Go.WideShapes Go.ChangeAt Go.RowKit
open Go.ChangeMaps (open_string shut_string)

theorem tm_lt {W : World} {N : Nat} {p : Pk} (h : Tm W N p) : p.b < W.heap.size := (World.ownsRow.lt h p.b rfl).2
theorem qp_lt {W : World} {A : Nat} {v : Value} {N D : Nat} {tbl : List Pk} {l : List Nat} (h : Qp W A v N D tbl l) : ∀ k, foot A v k → k < W.heap.size :=
  fun k hk => hk.elim (fun e => by rw [e]; exact blk_lt h.1) (fun e => (h.2.1.lt k e).2)
/-- A block that is not the queue's, nor one of its packages', is set: the queue stays. -/
theorem qp_other {W w1 w2 : World} {A B : Nat} {v v' : Value} {N D : Nat} {tbl : List Pk} {l l' : List Nat} (h : Qp W A v N D tbl l) (k1 : Qp w1 A v' N D tbl l') (c : Chg (· = B) w1 w2) (hB : W.heap.size ≤ B) (hv : v'.ownBlock = v.ownBlock) : Qp w2 A v' N D tbl l' :=
  qp_kept k1 c (fun k hk e => by
    have hk' : foot A v k := hk.elim (fun e => .inl e) (fun e => .inr (by rw [← hv]; exact e))
    have := qp_lt h k hk'; omega) (fun p hp e => by have := tm_lt (h.2.2.2.1 p hp).2.1; omega)
set_option maxRecDepth 100000 in
set_option maxHeartbeats 1000000 in
theorem nextP_any (A b cap n N D : Nat) (tbl : List Pk) (all out l : List Nat) (W : World) (h : Qp W A (.slice (some ⟨b, 0, none⟩) (n + 1) cap) N D tbl l) (hn : l.length = n + 1) (hl : n ≤ 500) (hN : N ≤ 100000) (hD : D < 16777216) (hp : PopInv (klt tbl) all out l) :
    Calls Try.prog 37 #[.pointer (some ⟨A, 0, none⟩)] W fun e W' => e = .returned (pav N (T tbl (g l 0))) ∧
      ∃ l', Qp W' A (.slice (some ⟨b, 0, none⟩) n cap) N D tbl l' ∧ l'.length = n ∧ PopInv (klt tbl) all (out ++ [g l 0]) l' ∧ Chg (foot A (.slice (some ⟨b, 0, none⟩) (n + 1) cap)) W W' := by
  have al : Chg (fun _ => False) W (W.alloc (.cells #[.int .i64 0, .slice none 0 0] 63)) := chg_alloc (chg_refl _ _) _
  have bn := blk_new W #[.int .i64 0, .slice none 0 0] 63
  have PO := hpopP_any A b cap n N D tbl all out l _ (qp_no h al) hn hl hN hD hp
  have ae := assert_pack
  have HA := Hid.intro (qp_lt h)
  unfold pav at PO ⊢
  unfold pcv at PO ⊢
  generalize (T tbl (g l 0)).c = x at *
  generalize (T tbl (g l 0)).b = y at *
  generalize (T tbl (g l 0)).cap = z at *
  clear hp hn
  go_enter Try.func37, Try.ntmps37
  go_wp2_with fail
  with_reducible refine PO.mono ?_
  rintro e w1 ⟨rfl, l', k1, k2, k3, k4⟩
  clear PO
  have K2 := Hid.intro k2
  have bk := blk_kept bn k4 (fun hf => by have := HA.out _ hf; omega)
  have r0 : w1.cell? ⟨W.heap.size, 0, none⟩ = some (.int .i64 0) := by rw [blk_cell bk]; rfl
  have r1 : w1.cell? ⟨W.heap.size, 1, none⟩ = some (.slice none 0 0) := by rw [blk_cell bk]; rfl
  have f0 := blk_free bk 0
  have f1 := blk_free bk 1
  have q0 : (w1.setCell ⟨W.heap.size, 0, none⟩ (.int .i64 (x : Int))).cell? ⟨W.heap.size, 0, none⟩ = some (.int .i64 (x : Int)) := by rw [blk_cell (blk_set bk 0 _)]; rfl
  have q1 : ((w1.setCell ⟨W.heap.size, 0, none⟩ (.int .i64 (x : Int))).setCell ⟨W.heap.size, 1, none⟩ (.slice (some ⟨y, 0, none⟩) N z)).cell? ⟨W.heap.size, 1, none⟩ = some (.slice (some ⟨y, 0, none⟩) N z) := by rw [blk_cell (blk_set (blk_set bk 0 _) 1 _)]; rfl
  clear k2 bk bn
  go_wp2_with fail
  have c2 : Chg (· = W.heap.size) w1 ((w1.setCell ⟨W.heap.size, 0, none⟩ (.int .i64 (x : Int))).setCell ⟨W.heap.size, 1, none⟩ (.slice (some ⟨y, 0, none⟩) N z)) := chg_in (chg_in (chg_refl _ _) _ _) _ _
  refine bodyPost_ret (v := .agg #[.int .i64 (x : Int), .slice (some ⟨y, 0, none⟩) N z]) (by simp [results, Try.results37, go_sem, q0, q1]) rfl ⟨rfl, l', qp_other h k1 c2 (Nat.le_refl _) rfl, K2.out, k3, ?_⟩
  refine chg_trans (chg_trans (chg_mono al (fun _ _ h => h.elim)) k4 (fun _ _ h => h)) c2 (fun k hk e => by omega)
end Go.Proofs.Ytabnafjndljimaa
