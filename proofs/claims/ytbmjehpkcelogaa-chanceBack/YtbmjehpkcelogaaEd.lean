/-
  Package chance, the decoder: End, one bit of a Direct.
-/
import Derived.Test.YtbmjehpkcelogaaDd
namespace Go.Proofs.Ytbmjehpkcelogaa
open Go.ChangeShapes Go.WideShapes Go.ChangeAt Go.RowKit
open Go.ChangeMaps (open_string shut_string)

/-- What End leaves. -/
def EdPost (A : Nat) (s : ByteArray) (v : Value) (er : Nat) (st : Nat × Nat × Nat) (bad : Bool) (W : World) (e : Ending) (W' : World) : Prop :=
  e = .returned (.int .i64 er) ∧ De W' A s v st bad ∧ Chg (· = A) W W'
set_option maxRecDepth 100000 in
theorem dend_any (A : Nat) (s : ByteArray) (v : Value) (st : Nat × Nat × Nat) (bad : Bool) (W : World) (h : De W A s v st bad) (hg : Gd s.data.toList st bad) (hk : st.1 ≤ 99000) (hs : s.size ≤ 100000) :
    Calls Try.prog 25 #[ptr A] W (EdPost A s v (gEnd s.data.toList st bad).1 st (gEnd s.data.toList st bad).2 W) := by
  have O := over_any A s v st bad W h hg.1 hg.2 (by omega) hs
  unfold gEnd EdPost
  by_cases h0 : (ovr s.data.toList st bad).1 = 0
  · obtain ⟨e1, e2, e3⟩ := ovr_ok _ st bad h0
    rw [if_pos h0]
    rw [e1] at O ⊢
    simp only at O ⊢
    generalize (ah s.data.toList st).2 = d at *
    have FM := fun (w : World) (g : De w A s v st false) => fun (n : Nat) => fail_any A s v st false 3 (w.drewN n) (de_drewN g n)
    have NM := fun (w : World) (g : De w A s v st false) => fun (n : Nat) => (need_any A s v st false (w.drewN n) (de_drewN g n) (by omega)).mono (fun _ _ g => And.intro g.1 g.2.symm)
    clear h0 e1 e2
    by_cases hd : 0 < d
    · have hd1 : decide (0 < d) = true := decide_eq_true hd
      rw [if_pos (.inl hd)]
      have hdi : (0 : Int) < d := by omega
      clear hd
      unfold ptr at *
      go_enter Try.func25, Try.ntmps25
      go_wp2_with fail
      refine O.mono ?_
      rintro e w1 ⟨rfl, k1, k2⟩
      have FM := FM w1 k1
      go_wp2
      go_quiet (fail)
      go_wp2_with fail
      refine (FM _).mono ?_
      rintro e w2 ⟨rfl, m1, m2⟩
      go_wp2
      go_ret
      exact ⟨rfl, m1, chg_trans k2 m2 (fun _ _ h => h)⟩
    · have hd1 : decide ((0 : Int) < (d : Int)) = false := decide_eq_false (by omega)
      obtain rfl : d = 0 := by omega
      have e1 : (0 < 0 ∨ 5 + st.1 < s.data.toList.length) ↔ (5 + st.1 < s.size) := by rw [len_data]; omega
      by_cases hl : 5 + st.1 < s.size
      · rw [if_pos (e1.2 hl)]
        have hl1 : decide (((5 + st.1 : Nat) : Int) < (s.size : Int)) = true := decide_eq_true (by omega)
        have hl2 : ((5 + st.1 : Nat) : Int) < (s.size : Int) := by omega
        clear e1
        generalize 5 + st.1 = q at *
        unfold ptr at *
        go_enter Try.func25, Try.ntmps25
        go_wp2_with fail
        refine O.mono ?_
        rintro e w1 ⟨rfl, k1, k2⟩
        have FM := FM w1 k1
        have NM := NM w1 k1
        have c0 : w1.cell? ⟨A, 0, none⟩ = some (.string s) := by rw [blk_cell k1.1]; rfl
        go_wp2
        go_quiet ((go_at_call 42; refine Calls.quiet_of_same (NM _)))
        go_wp2_with fail
        refine (FM _).mono ?_
        rintro e w2 ⟨rfl, m1, m2⟩
        go_wp2
        go_ret
        exact ⟨rfl, m1, chg_trans k2 m2 (fun _ _ h => h)⟩
      · rw [if_neg (fun h => hl (e1.1 h))]
        have hl1 : decide (((5 + st.1 : Nat) : Int) < (s.size : Int)) = false := decide_eq_false (by omega)
        have hl2 : ¬ ((5 + st.1 : Nat) : Int) < (s.size : Int) := by omega
        clear e1
        generalize 5 + st.1 = q at *
        unfold ptr at *
        go_enter Try.func25, Try.ntmps25
        go_wp2_with fail
        refine O.mono ?_
        rintro e w1 ⟨rfl, k1, k2⟩
        have NM := NM w1 k1
        have c0 : w1.cell? ⟨A, 0, none⟩ = some (.string s) := by rw [blk_cell k1.1]; rfl
        go_wp2
        go_quiet ((go_at_call 42; refine Calls.quiet_of_same (NM _)))
        go_wp2
        go_ret
        exact ⟨rfl, k1, k2⟩
  · obtain ⟨e1, e2⟩ := ovr_err _ st bad h0
    rw [if_neg h0]
    rw [e1] at O
    simp only at O ⊢
    have hne : (((ovr s.data.toList st bad).1 : Int) == 0) = false := by simpa using h0
    have hne2 : ¬ ((ovr s.data.toList st bad).1 : Int) = 0 := by omega
    generalize (ovr s.data.toList st bad).1 = er at *
    clear h0 e1
    unfold ptr at *
    go_enter Try.func25, Try.ntmps25
    go_wp2_with fail
    refine O.mono ?_
    rintro e w1 ⟨rfl, k1, k2⟩
    go_wp2
    go_quiet (fail)
    go_wp2
    go_ret
    exact ⟨rfl, k1, k2⟩

def tV (x : Nat) : Value := .int .u64 (x : Int)
/-- One bit of a Direct. -/
theorem ddir_one (A : Nat) (s : ByteArray) (v : Value) (st : Nat × Nat × Nat) (bad : Bool) (W : World) (h : De W A s v st bad) (hg : Gd s.data.toList st bad) (hk : st.1 ≤ 99000) (hs : s.size ≤ 100000) :
    Calls Try.prog 20 #[ptr A, .int .i64 1] W (DePost A s v (.int .u64 ((gDir s.data.toList 1 0 st bad).1 : Nat)) (gDir s.data.toList 1 0 st bad).2.1 (gDir s.data.toList 1 0 st bad).2.2.1 (gDir s.data.toList 1 0 st bad).2.2.2 W) := by
  have O := over_any A s v st bad W h hg.1 hg.2 (by omega) hs
  have WI := within_any 0 1 64 W 1 (by omega)
  rw [gDir]
  by_cases h0 : (ovr s.data.toList st bad).1 = 0
  · obtain ⟨e1, e2, e3⟩ := ovr_ok _ st bad h0
    rw [if_pos h0]
    rw [e1] at O ⊢
    simp only [gDir] at O ⊢
    have hR := hg.1.1
    generalize (ah s.data.toList st).2 = d at *
    have BE := fun (w : World) (g : De w A s v st false) => half_any (fit1 _ _ _) A v 0 st.2.1 st.2.2 w g
    have PU := fun (b : Nat) (hb : b < 2) (w : World) (g : De w A s v st false) => follow_dir A s v st false (.int .u64 (b : Int)) (.int .i64 1) _ _ _ w (by omega) (by have := (rg_dir (b.testBit 0) (0, st.2.1, st.2.2) (show Rg (0, st.2.1, st.2.2) from iv_rg (st := st) hg.1)).2; simp only at this; omega) (direct_one (fit1 _ _ _) A v 0 st.2.1 st.2.2 b w g hR (by omega) (by omega))
    clear h0 e1 e2
    by_cases hb : st.2.2 / 2 ≤ d
    · have PU := fun (w : World) (g : De w A s v st false) => PU 1 (by decide) w g
      rw [show (1 : Nat).testBit 0 = true from rfl, dirS_at] at PU
      rw [decide_eq_true hb, if_pos hb]
      have hbi : ((st.2.2 / 2 : Nat) : Int) ≤ (d : Int) := by omega
      unfold DePost
      generalize dirS true st = st' at *
      generalize st.2.2 / 2 = q at *
      clear hR hb
      unfold ptr ptrO at *
      go_enter Try.func20, Try.ntmps20
      go_wp2_with (first | (go_at_call 28; refine WI.mono ?_; rintro e w2 ⟨rfl, rfl⟩))
      refine O.mono ?_
      rintro e w1 ⟨rfl, k1, k2⟩
      have BE := BE w1 k1
      have PU := PU w1 k1
      go_wp2_with (first | (go_at_call 30; refine BE.mono ?_; rintro e w2 ⟨rfl, rfl⟩))
      refine PU.mono ?_
      rintro e w2 ⟨rfl, v2, m1, m2, m3⟩
      go_wp2
      go_ret2
      exact ⟨rfl, v2, m1, foot_next (chg_one k2) (fun k h => .inl h) m2, moved_next k2 (fun k h => .inl h) m3⟩
    · have PU := fun (w : World) (g : De w A s v st false) => PU 0 (by decide) w g
      rw [show (0 : Nat).testBit 0 = false from rfl, dirS_at] at PU
      rw [decide_eq_false hb, if_neg hb]
      have hbi : ¬ ((st.2.2 / 2 : Nat) : Int) ≤ (d : Int) := by omega
      unfold DePost
      generalize dirS false st = st' at *
      generalize st.2.2 / 2 = q at *
      clear hR hb
      unfold ptr ptrO at *
      go_enter Try.func20, Try.ntmps20
      go_wp2_with (first | (go_at_call 28; refine WI.mono ?_; rintro e w2 ⟨rfl, rfl⟩))
      refine O.mono ?_
      rintro e w1 ⟨rfl, k1, k2⟩
      have BE := BE w1 k1
      have PU := PU w1 k1
      go_wp2_with (first | (go_at_call 30; refine BE.mono ?_; rintro e w2 ⟨rfl, rfl⟩))
      refine PU.mono ?_
      rintro e w2 ⟨rfl, v2, m1, m2, m3⟩
      go_wp2
      go_ret2
      exact ⟨rfl, v2, m1, foot_next (chg_one k2) (fun k h => .inl h) m2, moved_next k2 (fun k h => .inl h) m3⟩
  · obtain ⟨e1, e2⟩ := ovr_err _ st bad h0
    rw [if_neg h0]
    rw [e1] at O
    simp only at O ⊢
    have hne : (((ovr s.data.toList st bad).1 : Int) != 0) = true := by simpa using h0
    unfold DePost
    generalize (ovr s.data.toList st bad).1 = er at *
    clear h0 e1
    unfold ptr at *
    go_enter Try.func20, Try.ntmps20
    go_wp2_with (first | (go_at_call 28; refine WI.mono ?_; rintro e w2 ⟨rfl, rfl⟩))
    refine O.mono ?_
    rintro e w1 ⟨rfl, k1, k2⟩
    go_wp2
    go_ret2
    exact ⟨rfl, v, k1, chg_one k2, fun k h => .inl h⟩
end Go.Proofs.Ytbmjehpkcelogaa
