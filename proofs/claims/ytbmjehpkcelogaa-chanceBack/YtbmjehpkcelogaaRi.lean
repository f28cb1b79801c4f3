/-
  The reference's decoder: From, Bit.
-/
import Derived.Test.YtbmjehpkcelogaaRh
namespace Go.Proofs.Ytbmjehpkcelogaa
open Go.ChangeShapes Go.WideShapes Go.ChangeAt Go.RowKit
open Go.ChangeMaps (open_string shut_string)


theorem re_next {W W' : World} {A : Nat} {s : ByteArray} {B : Nat} {v v' : Value} {st st' : Nat × Nat × Nat} {bad : Bool} (h : Re W A s B v st bad) (c : Chg (foot B v) W W') (m : Moved W v v') (k : Cs W' B v' st') : Re W' A s B v' st' bad := by
  refine ⟨blk_kept h.1 c (fun e => e.elim (fun e => h.2.2.1 (by omega)) (fun e => h.2.2.2 e)), k, h.2.2.1, fun e => ?_⟩
  rcases m A e with g | g
  · exact h.2.2.2 g
  · have := blk_lt h.1; omega
theorem rfrom_any (s : ByteArray) (w : World) : Calls Try.prog 19 #[.string s] w fun e w' => ∃ A B v, e = .returned (ptr A) ∧ Re w' A s B v st0 false ∧ (∀ k, rfoot A B v k → w.heap.size ≤ k) ∧ Chg (fun _ => False) w w' := by
  go_enter Try.func19, Try.ntmps19
  go_wp2_with fail
  refine (cnew_any w).mono ?_
  rintro e x1 ⟨B, v, rfl, a1, a2, a3, a4⟩
  have hs := chg_size a4
  have hB := blk_lt a2.1
  have hv := fun k hk => (a2.2.1.lt k hk).2
  have A2 := Hid.intro a2
  unfold ptr
  go_wp2
  go_ret
  refine ⟨x1.heap.size, B, v, rfl, ⟨blk_new _ _ _, co_kept A2.out (chg_alloc (chg_refl (fun _ => False) _) _) (fun _ _ h => h), by omega, fun e => by have := hv _ e; omega⟩, ?_, chg_alloc a4 _⟩
  rintro k (e | e)
  · omega
  · exact up_foot a3 k e
def RbPost (A : Nat) (s : ByteArray) (B : Nat) (v : Value) (n er : Nat) (st : Nat × Nat × Nat) (bad : Bool) (W : World) (e : Ending) (W' : World) : Prop :=
  e = .returned (agg3 n er) ∧ ∃ v', Re W' A s B v' st bad ∧ Chg (rfoot A B v) W W' ∧ Moved W v v'
theorem chg_ah {A B : Nat} {v : Value} {a b : World} (h : Chg (· = A) a b) : Chg (rfoot A B v) a b := chg_mono h (fun _ _ e => .inl e)
theorem chg_cs {A B : Nat} {v : Value} {a b : World} (h : Chg (foot B v) a b) : Chg (rfoot A B v) a b := chg_mono h (fun _ _ e => .inr e)
/-- A result's block, new in W, set at the end. -/
theorem rb_fin {W wr : World} {A : Nat} {s : ByteArray} {B : Nat} {v v' : Value} {st st' : Nat × Nat × Nat} {bad b : Bool} (h : Re W A s B v st bad) (o : Obj) (d : Re wr A s B v' st' b) (c : Chg (rfoot A B v) (W.alloc o) wr)
    (m : Moved (W.alloc o) v v') (hm : v'.ownBlock ≠ some W.heap.size)
    (c0 c1 c2 u0 u1 u2 : Value) (bk : Blk wr W.heap.size #[c0, c1, c2] 43) (W2 : World) (hW : W2 = ((wr.setCell ⟨W.heap.size, 0, none⟩ u0).setCell ⟨W.heap.size, 1, none⟩ u1).setCell ⟨W.heap.size, 2, none⟩ u2) :
    (Re W2 A s B v' st' b ∧ Chg (rfoot A B v) W W2 ∧ Moved W v v') ∧ Blk W2 W.heap.size #[u0, u1, u2] 43 := by
  have b3 : Blk W2 W.heap.size #[u0, u1, u2] 43 := by
    rw [hW]
    have := blk_set (blk_set (blk_set bk 0 u0) 1 u1) 2 u2
    simpa using this
  obtain ⟨f0, f1, f2, f3⟩ := fin3 wr W.heap.size c0 c1 c2 u0 u1 u2 bk W2 hW
  have hA := re_lt h A (.inl rfl)
  have hB := re_lt h B (.inr (.inl rfl))
  refine ⟨⟨re_kept d f3 ?_, ?_, ?_⟩, b3⟩
  · rintro k (e | e | e) g
    · omega
    · omega
    · exact hm (by rw [e, g])
  · exact chg_trans (chg_trans (chg_alloc (chg_refl (rfoot A B v) W) o) c (fun _ _ e => e)) f3 (fun j hj e => by omega)
  · exact moved_from m (chg_size (chg_alloc (chg_refl (rfoot A B v) W) o))
set_option maxRecDepth 100000 in
set_option maxHeartbeats 4000000 in
theorem rget_any (A : Nat) (s : ByteArray) (B : Nat) (v : Value) (st : Nat × Nat × Nat) (bad : Bool) (p : Int) (W : World) (h : Re W A s B v st bad) (hi : Iv st) (hk : st.1 ≤ 90000) (hs2 : s.size ≤ 100000) :
    Calls Try.prog 24 #[ptr A, .int .i64 p] W (RbPost A s B v (gBit s.data.toList p st bad).1 (gBit s.data.toList p st bad).2.1 (gBit s.data.toList p st bad).2.2.1 (gBit s.data.toList p st bad).2.2.2 W) := by
  have AH := ahead_any A s B v st bad _ (re_alloc h (.cells #[.int .u64 0, .int .i64 0, .int .i64 0] 43)) hi hk hs2
  have hltA := re_lt h A (.inl rfl)
  have hltB := re_lt h B (.inr (.inl rfl))
  unfold gBit
  by_cases h0 : (ovr s.data.toList st bad).1 = 0
  · obtain ⟨e1, e2, e3⟩ := ovr_ok _ st bad h0
    rw [if_pos h0]
    rw [e1] at AH ⊢
    simp only at AH ⊢
    have C := fun (w : World) => (chance_any p w).mono (fun _ _ g => And.intro g.1 g.2.symm)
    obtain ⟨i1, i2, i3⟩ := hi
    obtain ⟨b1, b2⟩ := bel_lt p st.2.2 i1
    have q1 : (st.2.2 : Int) / 4096 = ((st.2.2 / 4096 : Nat) : Int) := by omega
    have hp12 : (2 : Int) ^ 12 = 4096 := rfl
    have hbel : ((st.2.2 / 4096 : Nat) : Int) * ((cut p : Nat) : Int) = ((bel p st.2.2 : Nat) : Int) := by unfold bel; rw [Int.natCast_mul]
    have hbi2 : ((bel p st.2.2 : Nat) : Int) < 18446744073709551616 := by omega
    have hw : IntKind.u64.wrap ((bel p st.2.2 : Nat) : Int) = ((bel p st.2.2 : Nat) : Int) := by rw [IntKind.wrap_u64]; omega
    clear hbi2
    have RB := Hid.intro (fun (w : World) (b : Int) (bb : Bool) (hbb : decide (b ≠ 0) = bb) (hc : Cs w B v st) => (by have := rbit_any B v st p b w hc ⟨i1, i2, i3⟩ hk; rw [hbb] at this; exact this : Calls Try.prog 15 #[ptr B, .int .i64 p, .int .i64 b] w (CoPost B v (5 + (bitS p bb st).1) (bitS p bb st).2.1 (bitS p bb st).2.2 w)))
    have H := Hid.intro h
    clear e1 e2 e3 h0 h i1 i2 i3 b1 b2
    generalize hd : (ah s.data.toList st).2 = d at *
    clear hd
    generalize bel p st.2.2 = q at *
    generalize st.2.2 / 4096 = q2 at *
    generalize cut p = cp at *
    have F : Hid (∀ (bit : Nat) (bb : Bool) (W3 w5 : World) (e : Ending), Re W3 A s B v st false → Chg (· = A) (W.alloc (.cells #[.int .u64 0, .int .i64 0, .int .i64 0] 43)) W3 → Blk W3 W.heap.size #[.int .u64 0, .int .i64 0, .int .i64 0] 43 → CoPost B v (5 + (bitS p bb st).1) (bitS p bb st).2.1 (bitS p bb st).2.2 W3 e w5 →
        ∃ v', e = .returned (.tuple #[]) ∧ Re w5 A s B v' (bitS p bb st) false ∧ Chg (rfoot A B v) (W.alloc (.cells #[.int .u64 0, .int .i64 0, .int .i64 0] 43)) w5 ∧ Moved (W.alloc (.cells #[.int .u64 0, .int .i64 0, .int .i64 0] 43)) v v' ∧ v'.ownBlock ≠ some W.heap.size ∧ Blk w5 W.heap.size #[.int .u64 0, .int .i64 0, .int .i64 0] 43) := by
      refine Hid.intro ?_
      rintro bit bb W3 w5 e g1 g2 g3 ⟨rfl, v', g4, g5, g6⟩
      refine ⟨v', rfl, re_next g1 g5 g6 g4, chg_trans (chg_ah g2) (chg_cs g5) (fun _ _ e => e), moved_from g6 (chg_size g2), fun e => ?_, blk_kept g3 g5 (fun e => ?_)⟩
      · rcases g6 _ e with g | g
        · have := re_lt H.out _ (.inr (.inr g)); omega
        · have := blk_lt g3; omega
      · rcases e with e | e
        · have := re_lt H.out _ (.inr (.inl e)); omega
        · have := re_lt H.out _ (.inr (.inr e)); omega
    by_cases hlt : d < q
    · have hlti : (d : Int) < (q : Int) := by omega
      have hltd : decide ((d : Int) < (q : Int)) = true := decide_eq_true hlti
      rw [if_pos hlt, decide_eq_true hlt]
      clear hlt
      unfold AhPost agg3 ptr at AH
      unfold ptr at *
      go_enter Try.func24, Try.ntmps24
      go_wp2_with fail
      refine AH.mono ?_
      rintro e w1 ⟨rfl, k1, k2⟩
      have bk : Blk w1 W.heap.size #[.int .u64 0, .int .i64 0, .int .i64 0] 43 := blk_kept (blk_new W _ 43) k2 (by omega)
      have k3 := re_alloc k1 (.cells #[.int .u64 (d : Int), .int .i64 0, .int .i64 0] 43)
      have bk3 := blk_alloc bk (.cells #[.int .u64 (d : Int), .int .i64 0, .int .i64 0] 43)
      have a1 : w1.cell? ⟨A, 1, none⟩ = some (ptr B) := by rw [blk_cell k1.1]; rfl
      have d1 : w1.cell? ⟨B, 1, none⟩ = some (.int .u64 (st.2.2 : Int)) := by rw [blk_cell k1.2.1.1]; rfl
      have hltA := re_lt k1 A (.inl rfl)
      have hltB := re_lt k1 B (.inr (.inl rfl))
      have K1 := Hid.intro k3
      have K2 := Hid.intro (chg_alloc k2 (.cells #[.int .u64 (d : Int), .int .i64 0, .int .i64 0] 43))
      have BK := Hid.intro bk3
      clear k1 k2 bk AH k3 bk3
      unfold ptr at *
      go_wp2_with fail
      go_quiet ((go_at_call 36; refine Calls.quiet_of_same (C _)))
      have K1 := Hid.intro (show Re (World.drewN (w1.alloc (.cells #[.int .u64 (d : Int), .int .i64 0, .int .i64 0] 43)) nq) A s B v st false from K1.out)
      have K2 := Hid.intro (chg_drewN K2.out nq)
      have BK := Hid.intro (show Blk (World.drewN (w1.alloc (.cells #[.int .u64 (d : Int), .int .i64 0, .int .i64 0] 43)) nq) W.heap.size _ 43 from BK.out)
      clear a1 d1 hltA hltB q1 hw hbel C
      generalize World.drewN (w1.alloc (.cells #[.int .u64 (d : Int), .int .i64 0, .int .i64 0] 43)) nq = W3 at *
      have a1 : W3.cell? ⟨A, 1, none⟩ = some (ptr B) := by rw [blk_cell K1.out.1]; rfl
      have hltA := re_lt K1.out A (.inl rfl)
      unfold ptr at *
      go_wp2_with fail
      refine (RB.out W3 1 true rfl K1.out.2.1).mono ?_
      rintro e w5 hp
      obtain ⟨v', rfl, g1, g2, g3, g4, g5⟩ := F.out 1 true W3 w5 e K1.out K2.out BK.out hp
      have b0 : w5.cell? ⟨W.heap.size, 0, none⟩ = some (.int .u64 0) := by rw [blk_cell g5]; rfl
      have b1 : w5.cell? ⟨W.heap.size, 1, none⟩ = some (.int .i64 0) := by rw [blk_cell g5]; rfl
      have b2 : w5.cell? ⟨W.heap.size, 2, none⟩ = some (.int .i64 0) := by rw [blk_cell g5]; rfl
      have fb := fun k => blk_free g5 k
      have hltR := blk_lt g5
      have G := Hid.intro (And.intro g1 (And.intro g2 (And.intro g3 (And.intro g4 g5))))
      clear g1 g2 g3 g4 g5 hp K1 K2 BK a1 hltA F RB
      go_wp2
      obtain ⟨W2, hW2⟩ : ∃ W2, W2 = ((w5.setCell ⟨W.heap.size, 0, none⟩ (.int .u64 1)).setCell ⟨W.heap.size, 1, none⟩ (.int .i64 0)).setCell ⟨W.heap.size, 2, none⟩ (.int .i64 0) := ⟨_, rfl⟩
      obtain ⟨⟨k1, k2, k3⟩, b3⟩ := rb_fin H.out _ G.out.1 G.out.2.1 G.out.2.2.1 G.out.2.2.2.1 _ _ _ _ _ _ G.out.2.2.2.2 W2 hW2
      rw [← hW2]
      have r0 := blk_cell b3 0
      have r1 := blk_cell b3 1
      have r2 := blk_cell b3 2
      exact bodyPost_ret (v := agg3 1 0) (by simp [results, Try.results24, go_sem, agg3, r0, r1, r2]) rfl ⟨rfl, v', k1, k2, k3⟩
    · have hlti : ¬ (d : Int) < (q : Int) := by omega
      have hltd : decide ((d : Int) < (q : Int)) = false := decide_eq_false hlti
      rw [if_neg hlt, decide_eq_false hlt]
      clear hlt
      unfold AhPost agg3 ptr at AH
      unfold ptr at *
      go_enter Try.func24, Try.ntmps24
      go_wp2_with fail
      refine AH.mono ?_
      rintro e w1 ⟨rfl, k1, k2⟩
      have bk : Blk w1 W.heap.size #[.int .u64 0, .int .i64 0, .int .i64 0] 43 := blk_kept (blk_new W _ 43) k2 (by omega)
      have k3 := re_alloc k1 (.cells #[.int .u64 (d : Int), .int .i64 0, .int .i64 0] 43)
      have bk3 := blk_alloc bk (.cells #[.int .u64 (d : Int), .int .i64 0, .int .i64 0] 43)
      have a1 : w1.cell? ⟨A, 1, none⟩ = some (ptr B) := by rw [blk_cell k1.1]; rfl
      have d1 : w1.cell? ⟨B, 1, none⟩ = some (.int .u64 (st.2.2 : Int)) := by rw [blk_cell k1.2.1.1]; rfl
      have hltA := re_lt k1 A (.inl rfl)
      have hltB := re_lt k1 B (.inr (.inl rfl))
      have K1 := Hid.intro k3
      have K2 := Hid.intro (chg_alloc k2 (.cells #[.int .u64 (d : Int), .int .i64 0, .int .i64 0] 43))
      have BK := Hid.intro bk3
      clear k1 k2 bk AH k3 bk3
      unfold ptr at *
      go_wp2_with fail
      go_quiet ((go_at_call 36; refine Calls.quiet_of_same (C _)))
      have K1 := Hid.intro (show Re (World.drewN (w1.alloc (.cells #[.int .u64 (d : Int), .int .i64 0, .int .i64 0] 43)) nq) A s B v st false from K1.out)
      have K2 := Hid.intro (chg_drewN K2.out nq)
      have BK := Hid.intro (show Blk (World.drewN (w1.alloc (.cells #[.int .u64 (d : Int), .int .i64 0, .int .i64 0] 43)) nq) W.heap.size _ 43 from BK.out)
      clear a1 d1 hltA hltB q1 hw hbel C
      generalize World.drewN (w1.alloc (.cells #[.int .u64 (d : Int), .int .i64 0, .int .i64 0] 43)) nq = W3 at *
      have a1 : W3.cell? ⟨A, 1, none⟩ = some (ptr B) := by rw [blk_cell K1.out.1]; rfl
      have hltA := re_lt K1.out A (.inl rfl)
      unfold ptr at *
      go_wp2_with fail
      refine (RB.out W3 0 false rfl K1.out.2.1).mono ?_
      rintro e w5 hp
      obtain ⟨v', rfl, g1, g2, g3, g4, g5⟩ := F.out 0 false W3 w5 e K1.out K2.out BK.out hp
      have b0 : w5.cell? ⟨W.heap.size, 0, none⟩ = some (.int .u64 0) := by rw [blk_cell g5]; rfl
      have b1 : w5.cell? ⟨W.heap.size, 1, none⟩ = some (.int .i64 0) := by rw [blk_cell g5]; rfl
      have b2 : w5.cell? ⟨W.heap.size, 2, none⟩ = some (.int .i64 0) := by rw [blk_cell g5]; rfl
      have fb := fun k => blk_free g5 k
      have hltR := blk_lt g5
      have G := Hid.intro (And.intro g1 (And.intro g2 (And.intro g3 (And.intro g4 g5))))
      clear g1 g2 g3 g4 g5 hp K1 K2 BK a1 hltA F RB
      go_wp2
      obtain ⟨W2, hW2⟩ : ∃ W2, W2 = ((w5.setCell ⟨W.heap.size, 0, none⟩ (.int .u64 0)).setCell ⟨W.heap.size, 1, none⟩ (.int .i64 0)).setCell ⟨W.heap.size, 2, none⟩ (.int .i64 0) := ⟨_, rfl⟩
      obtain ⟨⟨k1, k2, k3⟩, b3⟩ := rb_fin H.out _ G.out.1 G.out.2.1 G.out.2.2.1 G.out.2.2.2.1 _ _ _ _ _ _ G.out.2.2.2.2 W2 hW2
      rw [← hW2]
      have r0 := blk_cell b3 0
      have r1 := blk_cell b3 1
      have r2 := blk_cell b3 2
      exact bodyPost_ret (v := agg3 0 0) (by simp [results, Try.results24, go_sem, agg3, r0, r1, r2]) rfl ⟨rfl, v', k1, k2, k3⟩
  · obtain ⟨e1, e2⟩ := ovr_err _ st bad h0
    rw [if_neg h0]
    rw [e1] at AH
    simp only at AH ⊢
    have hne : (((ovr s.data.toList st bad).1 : Int) != 0) = true := by simpa using h0
    generalize (ovr s.data.toList st bad).1 = er at *
    have H := Hid.intro h
    clear e1 e2 h0 h
    unfold AhPost agg3 ptr at AH
    unfold ptr
    go_enter Try.func24, Try.ntmps24
    go_wp2_with fail
    refine AH.mono ?_
    rintro e w1 ⟨rfl, k1, k2⟩
    have bk : Blk w1 W.heap.size #[.int .u64 0, .int .i64 0, .int .i64 0] 43 := blk_kept (blk_new W _ 43) k2 (by omega)
    have b0 : w1.cell? ⟨W.heap.size, 0, none⟩ = some (.int .u64 0) := by rw [blk_cell bk]; rfl
    have b1 : w1.cell? ⟨W.heap.size, 1, none⟩ = some (.int .i64 0) := by rw [blk_cell bk]; rfl
    have b2 : w1.cell? ⟨W.heap.size, 2, none⟩ = some (.int .i64 0) := by rw [blk_cell bk]; rfl
    have fb := fun k => blk_free bk k
    have hltR := blk_lt bk
    have K1 := Hid.intro k1
    have K2 := Hid.intro k2
    have BK := Hid.intro bk
    clear k1 k2 bk AH
    go_wp2
    obtain ⟨W2, hW2⟩ : ∃ W2, W2 = ((w1.setCell ⟨W.heap.size, 0, none⟩ (.int .u64 0)).setCell ⟨W.heap.size, 1, none⟩ (.int .i64 0)).setCell ⟨W.heap.size, 2, none⟩ (.int .i64 (er : Int)) := ⟨_, rfl⟩
    obtain ⟨⟨k1, k2, k3⟩, b3⟩ := rb_fin H.out _ K1.out (chg_ah K2.out) (moved_refl _ _) (fun e => by have := re_lt H.out _ (.inr (.inr e)); omega) _ _ _ _ _ _ BK.out W2 hW2
    rw [← hW2]
    have B4 := blk_alloc b3 (.cells #[.int .u64 0, .int .i64 0, .int .i64 (er : Int)] 43)
    have k4 := re_alloc k1 (.cells #[.int .u64 0, .int .i64 0, .int .i64 (er : Int)] 43)
    have k5 := chg_alloc k2 (.cells #[.int .u64 0, .int .i64 0, .int .i64 (er : Int)] 43)
    generalize W2.alloc (.cells #[.int .u64 0, .int .i64 0, .int .i64 (er : Int)] 43) = W4 at *
    have r0 := blk_cell B4 0
    have r1 := blk_cell B4 1
    have r2 := blk_cell B4 2
    exact bodyPost_ret (v := agg3 0 er) (by simp [results, Try.results24, go_sem, agg3, r0, r1, r2]) rfl ⟨rfl, v, k4, k5, k3⟩
end Go.Proofs.Ytbmjehpkcelogaa
