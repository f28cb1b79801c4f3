/-
  Package chance, the decoder: follow, Bit.
-/
import Derived.Test.YtbmjehpkcelogaaOv
namespace Go.Proofs.Ytbmjehpkcelogaa
open Go.ChangeShapes Go.WideShapes Go.ChangeAt Go.RowKit
open Go.ChangeMaps (open_string shut_string)
theorem own_cut0 {W : World} {g n cap : Nat} {xs : List Value} (h : W.ownsRow 0 5 1 (.slice (some ⟨g, 0, none⟩) n cap) n xs) : W.ownsRow 0 5 1 (.slice (some ⟨g, 0, none⟩) 0 cap) 0 [] := by
  refine ⟨rfl, ?_⟩
  rcases h.2 with ⟨h0, _⟩ | ⟨g', cap', cur, hv, hb, hg, hc, hm, hs, ht⟩
  · cases h0
  · injection hv with e1 e2 e3
    injection e1 with e1
    injection e1 with e1
    subst e1 e3
    exact .inr ⟨g, cap, cur, rfl, hb, hg, Nat.zero_le _, hm, hs, by simp⟩
set_option maxRecDepth 100000 in
theorem follow_bit (A : Nat) (s : ByteArray) (v : Value) (st : Nat × Nat × Nat) (bad : Bool) (a b : Value) (g L R : Nat) (W : World) (hk : st.1 ≤ 100000) (hg : g ≤ 1000)
    (hP : Calls Try.prog 14 #[ptrO A 1, a, b] W (EnPost (F1 (.string s) (.int .i64 (st.1 : Int)) (.bool bad)) 73 A v g L R W)) :
    Calls Try.prog 41 #[ptr A, .func (.func 14) #[ptrO A 1] #[], a, b] W fun e W' => e = .returned (.tuple #[]) ∧ ∃ v', De W' A s v' (st.1 + g, L, R) bad ∧ Chg (foot A v) W W' ∧ Moved W v v' := by
  generalize st.1 = k at *
  unfold ptr
  unfold ptrO at *
  go_enter Try.func41, Try.ntmps41
  go_wp2_with fail
  refine hP.mono ?_
  rintro e w1 ⟨rfl, v1, h1, h2, h3⟩
  obtain ⟨ad, cp, rfl, hl, hnil, hnews⟩ := own_news h1.2.1
  have c1 : w1.cell? ⟨A, 1, none⟩ = some (.slice ad g cp) := by rw [blk_cell h1.1]; rfl
  have c4 : w1.cell? ⟨A, 4, none⟩ = some (.int .i64 (k : Int)) := by rw [blk_cell h1.1]; rfl
  have f4 := blk_free h1.1 4
  have f1 := blk_free h1.1 1
  have b1 : Blk (w1.setCell ⟨A, 4, none⟩ (.int .i64 ((k : Int) + g))) A (F1 (.string s) (.int .i64 ((k : Int) + g)) (.bool bad) (.slice ad g cp) (lstV L) (gonV R)) 73 := by
    have := blk_set h1.1 4 (.int .i64 ((k : Int) + g)); simpa [F1] using this
  have e1 : (w1.setCell ⟨A, 4, none⟩ (.int .i64 ((k : Int) + g))).cell? ⟨A, 1, none⟩ = some (.slice ad g cp) := by rw [blk_cell b1]; rfl
  have g1 := blk_free b1 1
  have B1 := Hid.intro b1
  have HH := Hid.intro h1
  clear b1 hl hnil hnews
  go_wp2
  go_region
  rcases h1.2.1.2 with ⟨e5, e6⟩ | ⟨gb, cap, cur, e5, e6⟩
  · injection e5 with e7 _ e8
    subst e7 e6 e8
    go_wp2
    go_end0
    refine ⟨rfl, .slice none 0 0, ⟨?_, World.ownsRow_nil _ _ _ _, by simp [Value.ownBlock], HH.out.2.2.2⟩, ?_, fun k hk => by simp [Value.ownBlock] at hk⟩
    · have := blk_drew (blk_set B1.out 1 (.slice none 0 0)); simpa [F1] using this
    · exact chg_drew (chg_set (chg_set h2 _ _ (fun _ => .inl rfl)) _ _ (fun _ => .inl rfl))
  · injection e5 with e7 _ e8
    subst e7 e8
    have hne := HH.out.2.2.1
    have ho := own_cut0 (own_kept (S := (· = A)) HH.out.2.1 (chg_drew (chg_set (S := (· = A)) (chg_set (S := (· = A)) (chg_refl _ _) ⟨A, 4, none⟩ (.int .i64 ((k : Int) + g)) (fun _ => rfl)) ⟨A, 1, none⟩ (.slice (some ⟨gb, 0, none⟩) 0 cp) (fun _ => rfl))) (fun i hi e => hne (by rw [hi, e])))
    have HO := Hid.intro ho
    clear ho e6
    go_wp2
    go_end0
    refine ⟨rfl, .slice (some ⟨gb, 0, none⟩) 0 cp, ⟨?_, HO.out, hne, HH.out.2.2.2⟩, ?_, h3⟩
    · have := blk_drew (blk_set B1.out 1 (.slice (some ⟨gb, 0, none⟩) 0 cp)); simpa [F1] using this
    · exact chg_drew (chg_set (chg_set h2 _ _ (fun _ => .inl rfl)) _ _ (fun _ => .inl rfl))
set_option maxRecDepth 100000 in
theorem follow_dir (A : Nat) (s : ByteArray) (v : Value) (st : Nat × Nat × Nat) (bad : Bool) (a b : Value) (g L R : Nat) (W : World) (hk : st.1 ≤ 100000) (hg : g ≤ 1000)
    (hP : Calls Try.prog 12 #[ptrO A 1, a, b] W (EnPost (F1 (.string s) (.int .i64 (st.1 : Int)) (.bool bad)) 73 A v g L R W)) :
    Calls Try.prog 39 #[ptr A, .func (.func 12) #[ptrO A 1] #[], a, b] W fun e W' => e = .returned (.tuple #[]) ∧ ∃ v', De W' A s v' (st.1 + g, L, R) bad ∧ Chg (foot A v) W W' ∧ Moved W v v' := by
  generalize st.1 = k at *
  unfold ptr
  unfold ptrO at *
  go_enter Try.func39, Try.ntmps39
  go_wp2_with fail
  refine hP.mono ?_
  rintro e w1 ⟨rfl, v1, h1, h2, h3⟩
  obtain ⟨ad, cp, rfl, hl, hnil, hnews⟩ := own_news h1.2.1
  have c1 : w1.cell? ⟨A, 1, none⟩ = some (.slice ad g cp) := by rw [blk_cell h1.1]; rfl
  have c4 : w1.cell? ⟨A, 4, none⟩ = some (.int .i64 (k : Int)) := by rw [blk_cell h1.1]; rfl
  have f4 := blk_free h1.1 4
  have f1 := blk_free h1.1 1
  have b1 : Blk (w1.setCell ⟨A, 4, none⟩ (.int .i64 ((k : Int) + g))) A (F1 (.string s) (.int .i64 ((k : Int) + g)) (.bool bad) (.slice ad g cp) (lstV L) (gonV R)) 73 := by
    have := blk_set h1.1 4 (.int .i64 ((k : Int) + g)); simpa [F1] using this
  have e1 : (w1.setCell ⟨A, 4, none⟩ (.int .i64 ((k : Int) + g))).cell? ⟨A, 1, none⟩ = some (.slice ad g cp) := by rw [blk_cell b1]; rfl
  have g1 := blk_free b1 1
  have B1 := Hid.intro b1
  have HH := Hid.intro h1
  clear b1 hl hnil hnews
  go_wp2
  go_region
  rcases h1.2.1.2 with ⟨e5, e6⟩ | ⟨gb, cap, cur, e5, e6⟩
  · injection e5 with e7 _ e8
    subst e7 e6 e8
    go_wp2
    go_end0
    refine ⟨rfl, .slice none 0 0, ⟨?_, World.ownsRow_nil _ _ _ _, by simp [Value.ownBlock], HH.out.2.2.2⟩, ?_, fun k hk => by simp [Value.ownBlock] at hk⟩
    · have := blk_drew (blk_set B1.out 1 (.slice none 0 0)); simpa [F1] using this
    · exact chg_drew (chg_set (chg_set h2 _ _ (fun _ => .inl rfl)) _ _ (fun _ => .inl rfl))
  · injection e5 with e7 _ e8
    subst e7 e8
    have hne := HH.out.2.2.1
    have ho := own_cut0 (own_kept (S := (· = A)) HH.out.2.1 (chg_drew (chg_set (S := (· = A)) (chg_set (S := (· = A)) (chg_refl _ _) ⟨A, 4, none⟩ (.int .i64 ((k : Int) + g)) (fun _ => rfl)) ⟨A, 1, none⟩ (.slice (some ⟨gb, 0, none⟩) 0 cp) (fun _ => rfl))) (fun i hi e => hne (by rw [hi, e])))
    have HO := Hid.intro ho
    clear ho e6
    go_wp2
    go_end0
    refine ⟨rfl, .slice (some ⟨gb, 0, none⟩) 0 cp, ⟨?_, HO.out, hne, HH.out.2.2.2⟩, ?_, h3⟩
    · have := blk_drew (blk_set B1.out 1 (.slice (some ⟨gb, 0, none⟩) 0 cp)); simpa [F1] using this
    · exact chg_drew (chg_set (chg_set h2 _ _ (fun _ => .inl rfl)) _ _ (fun _ => .inl rfl))

theorem bitS_at (p : Int) (b : Bool) (st : Nat × Nat × Nat) : (st.1 + (bitS p b (0, st.2.1, st.2.2)).1, (bitS p b (0, st.2.1, st.2.2)).2.1, (bitS p b (0, st.2.1, st.2.2)).2.2) = bitS p b st := by
  cases b <;> simp [bitS, nar]
theorem dirS_at (b : Bool) (st : Nat × Nat × Nat) : (st.1 + (dirS b (0, st.2.1, st.2.2)).1, (dirS b (0, st.2.1, st.2.2)).2.1, (dirS b (0, st.2.1, st.2.2)).2.2) = dirS b st := by
  cases b <;> simp [dirS, nar]
theorem ovr_err (s : List UInt8) (st : Nat × Nat × Nat) (bad : Bool) (h : (ovr s st bad).1 ≠ 0) : ovr s st bad = ((ovr s st bad).1, 0, true) ∧ (ovr s st bad).1 ≤ 3 := by
  unfold ovr at h ⊢
  cases bad
  · simp only [Bool.false_eq_true, if_false] at h ⊢
    by_cases h0 : (ah s st).1 = 0
    · rw [if_pos h0] at h; exact absurd rfl h
    · rw [if_neg h0]
      exact ⟨rfl, by have := ah_cases s st; simp only; omega⟩
  · simp
theorem ovr_ok (s : List UInt8) (st : Nat × Nat × Nat) (bad : Bool) (h : (ovr s st bad).1 = 0) : ovr s st bad = (0, (ah s st).2, false) ∧ (ah s st).1 = 0 ∧ bad = false := by
  obtain ⟨a, b, c⟩ := ovr_bad s st bad h
  subst a
  refine ⟨?_, b, rfl⟩
  unfold ovr; rw [if_pos b]; simp
/-- What stays of a decoder's ground. -/
def Gd (s : List UInt8) (st : Nat × Nat × Nat) (bad : Bool) : Prop := Iv st ∧ Jv s st bad
theorem gd0 (s : List UInt8) : Gd s st0 false := ⟨iv0, jv0 s⟩
theorem gd_bad {s : List UInt8} {st : Nat × Nat × Nat} {bad : Bool} (h : Gd s st bad) : Gd s st true := ⟨h.1, jv_bad s st⟩
theorem gd_bit {s : List UInt8} {st : Nat × Nat × Nat} {bad : Bool} (p : Int) (h : Gd s st bad) : Gd s (gBit s p st bad).2.2.1 (gBit s p st bad).2.2.2 ∧ (gBit s p st bad).2.2.1.1 ≤ st.1 + 2 := by
  unfold gBit
  by_cases h0 : (ovr s st bad).1 = 0
  · obtain ⟨a, b, c⟩ := ovr_ok s st bad h0
    rw [if_pos h0, a]
    simp only
    exact ⟨⟨(bitS_ok p _ st h.1).1, jv_bit s p st h.1 b⟩, (rg_bit p _ st (iv_rg h.1)).2⟩
  · rw [if_neg h0]
    exact ⟨gd_bad h, Nat.le_add_right _ _⟩
theorem gd_dir : ∀ (n acc : Nat) {s : List UInt8} {st : Nat × Nat × Nat} {bad : Bool}, Gd s st bad → Gd s (gDir s n acc st bad).2.2.1 (gDir s n acc st bad).2.2.2 ∧ (gDir s n acc st bad).2.2.1.1 ≤ st.1 + 2 * n
  | 0, acc, s, st, bad, h => ⟨h, by simp [gDir]⟩
  | n + 1, acc, s, st, bad, h => by
    rw [gDir]
    by_cases h0 : (ovr s st bad).1 = 0
    · obtain ⟨a, b, c⟩ := ovr_ok s st bad h0
      rw [if_pos h0, a]
      simp only
      obtain ⟨k1, k2⟩ := gd_dir n (acc * 2 + if st.2.2 / 2 ≤ (ah s st).2 then 1 else 0) (s := s) (st := dirS (decide (st.2.2 / 2 ≤ (ah s st).2)) st) (bad := false) ⟨(dirS_ok _ st h.1).1, jv_dir s st h.1 b⟩
      exact ⟨k1, by have := (rg_dir (decide (st.2.2 / 2 ≤ (ah s st).2)) st (iv_rg h.1)).2; omega⟩
    · rw [if_neg h0]
      exact ⟨gd_bad h, by simp only; omega⟩
/-- What a decoder's answer leaves. -/
def DePost (A : Nat) (s : ByteArray) (v : Value) (a : Value) (er : Nat) (st : Nat × Nat × Nat) (bad : Bool) (W : World) (e : Ending) (W' : World) : Prop :=
  e = .returned (.tuple #[a, .int .i64 er]) ∧ ∃ v', De W' A s v' st bad ∧ Chg (foot A v) W W' ∧ Moved W v v'
theorem chg_one {A : Nat} {v : Value} {a b : World} (h : Chg (· = A) a b) : Chg (foot A v) a b := chg_mono h (fun _ _ e => .inl e)
theorem foot_next {A : Nat} {v v' : Value} {W a b : World} (h : Chg (foot A v) W a) (m : Moved W v v') (g : Chg (foot A v') a b) : Chg (foot A v) W b :=
  chg_trans h g (fun k hk e => e.elim .inl (fun e => (m k e).elim .inr (fun h => absurd hk (by omega))))
theorem moved_next {v v' v'' : Value} {W a : World} {S : Nat → Prop} (h : Chg S W a) (m : Moved W v v') (g : Moved a v' v'') : Moved W v v'' :=
  fun k e => (g k e).elim (m k) (fun h' => .inr (Nat.le_trans (chg_size h) h'))
set_option maxRecDepth 100000 in
theorem dbit_any (A : Nat) (s : ByteArray) (v : Value) (st : Nat × Nat × Nat) (bad : Bool) (p : Int) (W : World) (h : De W A s v st bad) (hg : Gd s.data.toList st bad) (hk : st.1 ≤ 99000) (hs : s.size ≤ 100000) :
    Calls Try.prog 23 #[ptr A, .int .i64 p] W (DePost A s v (.int .i64 ((gBit s.data.toList p st bad).1 : Nat)) (gBit s.data.toList p st bad).2.1 (gBit s.data.toList p st bad).2.2.1 (gBit s.data.toList p st bad).2.2.2 W) := by
  have O := over_any A s v st bad W h hg.1 hg.2 (by omega) hs
  unfold gBit
  by_cases h0 : (ovr s.data.toList st bad).1 = 0
  · obtain ⟨e1, e2, e3⟩ := ovr_ok _ st bad h0
    rw [if_pos h0]
    rw [e1] at O ⊢
    simp only at O ⊢
    have hR := hg.1.1
    generalize (ah s.data.toList st).2 = d at *
    have BE := fun (w : World) (g : De w A s v st false) => below_any (fit1 _ _ _) A v 0 st.2.1 st.2.2 p w g
    have PU := fun (b : Int) (w : World) (g : De w A s v st false) => follow_bit A s v st false (.int .i64 p) (.int .i64 b) _ _ _ w (by omega) (by have := (rg_bit p (decide (b ≠ 0)) (0, st.2.1, st.2.2) (show Rg (0, st.2.1, st.2.2) from iv_rg (st := st) hg.1)).2; simp only at this; omega) (bit_any (fit1 _ _ _) A v 0 st.2.1 st.2.2 p b w g hR (by omega))
    clear h0 e1 e2
    by_cases hb : d < bel p st.2.2
    · have PU := fun (w : World) (g : De w A s v st false) => PU 1 w g
      rw [decide_eq_true (by decide), bitS_at] at PU
      rw [decide_eq_true hb, if_pos hb]
      have hbi : (d : Int) < ((bel p st.2.2 : Nat) : Int) := by omega
      unfold DePost
      generalize bitS p true st = st' at *
      generalize bel p st.2.2 = q at *
      clear hR hb
      unfold ptr ptrO at *
      go_enter Try.func23, Try.ntmps23
      go_wp2_with fail
      refine O.mono ?_
      rintro e w1 ⟨rfl, k1, k2⟩
      have BE := BE w1 k1
      have PU := PU w1 k1
      go_wp2_with (first | (go_at_call 34; refine BE.mono ?_; rintro e w2 ⟨rfl, rfl⟩))
      refine PU.mono ?_
      rintro e w2 ⟨rfl, v2, m1, m2, m3⟩
      go_wp2
      go_ret2
      exact ⟨rfl, v2, m1, foot_next (chg_one k2) (fun k h => .inl h) m2, moved_next k2 (fun k h => .inl h) m3⟩
    · have PU := fun (w : World) (g : De w A s v st false) => PU 0 w g
      rw [decide_eq_false (by decide), bitS_at] at PU
      rw [decide_eq_false hb, if_neg hb]
      have hbi : ¬ (d : Int) < ((bel p st.2.2 : Nat) : Int) := by omega
      unfold DePost
      generalize bitS p false st = st' at *
      generalize bel p st.2.2 = q at *
      clear hR hb
      unfold ptr ptrO at *
      go_enter Try.func23, Try.ntmps23
      go_wp2_with fail
      refine O.mono ?_
      rintro e w1 ⟨rfl, k1, k2⟩
      have BE := BE w1 k1
      have PU := PU w1 k1
      go_wp2_with (first | (go_at_call 34; refine BE.mono ?_; rintro e w2 ⟨rfl, rfl⟩))
      refine PU.mono ?_
      rintro e w2 ⟨rfl, v2, m1, m2, m3⟩
      go_wp2
      go_ret2
      exact ⟨rfl, v2, m1, foot_next (chg_one k2) (fun k h => .inl h) m2, moved_next k2 (fun k h => .inl h) m3⟩
  · obtain ⟨e1, e2⟩ := ovr_err _ st bad h0
    rw [if_neg h0]
    rw [e1] at O
    simp only at O ⊢
    have hne : (((ovr s.data.toList st bad).1 : Int) != 0) = true := by simpa using h0
    unfold DePost
    generalize (ovr s.data.toList st bad).1 = er at *
    clear h0 e1
    unfold ptr at *
    go_enter Try.func23, Try.ntmps23
    go_wp2_with fail
    refine O.mono ?_
    rintro e w1 ⟨rfl, k1, k2⟩
    go_wp2
    go_ret2
    exact ⟨rfl, v, k1, chg_one k2, fun k h => .inl h⟩
theorem dbit_nil (p : Int) (W : World) : Calls Try.prog 23 #[.pointer none, .int .i64 p] W fun e W' => e = .returned (.tuple #[.int .i64 0, .int .i64 6]) ∧ W = W' := by
  have O := over_nil W
  go_enter Try.func23, Try.ntmps23
  go_wp2_with fail
  refine O.mono ?_
  rintro e w1 ⟨rfl, rfl⟩
  go_wp2
  go_ret2
  exact ⟨rfl, rfl⟩
theorem end_nil (W : World) : Calls Try.prog 25 #[.pointer none] W fun e W' => e = .returned (.int .i64 6) ∧ Chg (fun _ => False) W W' := by
  have O := over_nil W
  go_enter Try.func25, Try.ntmps25
  go_wp2_with fail
  refine O.mono ?_
  rintro e w1 ⟨rfl, rfl⟩
  go_wp2
  go_quiet (fail)
  go_wp2
  go_ret
  exact ⟨rfl, chg_drewN (chg_refl _ _) _⟩
theorem ddir_nil (n : Int) (W : World) : Calls Try.prog 20 #[.pointer none, .int .i64 n] W fun e W' => e = .returned (.tuple #[.int .u64 0, .int .i64 6]) ∧ W = W' := by
  have O := over_nil W
  have WI := within_any 0 n 64 W ((cl n : Nat) : Int) (by unfold cl; (repeat' split) <;> omega)
  have hcl := cl_le n
  generalize cl n = m at *
  go_enter Try.func20, Try.ntmps20
  by_cases h1 : (m : Int) = 1
  · have h2 : ((m : Int) != 1) = false := by rw [h1]; rfl
    go_wp2_with (first | (go_at_call 28; refine WI.mono ?_; rintro e w1 ⟨rfl, rfl⟩))
    refine O.mono ?_
    rintro e w1 ⟨rfl, rfl⟩
    go_wp2
    go_ret2
    exact ⟨rfl, rfl⟩
  · have h2 : ((m : Int) != 1) = true := by simpa using h1
    go_wp2_with (first | (go_at_call 28; refine WI.mono ?_; rintro e w1 ⟨rfl, rfl⟩))
    refine O.mono ?_
    rintro e w1 ⟨rfl, rfl⟩
    go_wp2
    go_ret2
    exact ⟨rfl, rfl⟩
end Go.Proofs.Ytbmjehpkcelogaa
