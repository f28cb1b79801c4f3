/-
  The reference's coder: New, chance, add, grow.
-/
import Derived.Test.YtbmjehpkcelogaaLw
import Derived.Deep.QuietTactic
import Derived.Deep.RegionWith
import Derived.Deep.RegionHeld3
import Derived.OwnWalk
import Derived.Below
import Derived.BigQuiet
import Derived.Laws.BitsAllLaws
namespace Go.Proofs.Ytbmjehpkcelogaa
open Go.ChangeShapes Go.WideShapes Go.ChangeAt Go.RowKit
open Go.ChangeMaps (open_string shut_string)

/-- The reference's coder at A, its row in v: n bytes of low, which is L, and range. -/
def Co (W : World) (A : Nat) (v : Value) (n L R : Nat) : Prop :=
  Blk W A #[v, .int .u64 R] 63 ∧ W.ownsRow 0 5 1 v n ((be n L).map byteV) ∧ v.ownBlock ≠ some A
theorem co_kept {W W' : World} {S : Nat → Prop} {A : Nat} {v : Value} {n L R : Nat} (h : Co W A v n L R) (g : Chg S W W') (hS : ∀ k, foot A v k → ¬ S k) : Co W' A v n L R :=
  ⟨blk_kept h.1 g (hS A (.inl rfl)), own_kept h.2.1 g (fun k hk => hS k (.inr hk)), h.2.2⟩
theorem co_lt {W : World} {A : Nat} {v : Value} {n L R : Nat} (h : Co W A v n L R) (k : Nat) (hk : foot A v k) : k < W.heap.size :=
  hk.elim (fun e => e ▸ blk_lt h.1) (fun e => (h.2.1.lt k e).2)
/-- What a change of a coder leaves. -/
def CoPost (A : Nat) (v : Value) (n L R : Nat) (W : World) (e : Ending) (W' : World) : Prop :=
  e = .returned (.tuple #[]) ∧ ∃ v', Co W' A v' n L R ∧ Chg (foot A v) W W' ∧ Moved W v v'
theorem made_zero (n : Nat) : (madeCells #[Value.int .u8 0] n).toList = (be n 0).map byteV := by
  rw [toList_madeCells_one]
  induction n with
  | zero => rfl
  | succ n ih => rw [be, List.replicate_succ', ih, List.map_append]; rfl
theorem cnew_any (w : World) : Calls Try.prog 11 #[] w fun e w' => ∃ A v, e = .returned (ptr A) ∧ w.heap.size ≤ A ∧ Co w' A v 5 0 4294967295 ∧ Up w.heap.size A v ∧ Chg (fun _ => False) w w' := by
  obtain ⟨i0, hi0, hz0, hz1, hz2⟩ := info_parts info5
  go_enter Try.func11, Try.ntmps11
  go_wp2_with (first | (at_make; refine wpList_make_full _ rfl (.const (.int .i64 5)) (.const (.int .i64 5)) 51 rfl w.heap.size 5 i0 (.int .u8 0) 1 Try.underlying51 hi0 hz0 hz1 .i64 .i64 _ _ 5 rfl rfl rfl rfl (by rw [hz2]; omega) (by simp only [maxLen]; omega) (Nat.le_refl _) ?_) | go_in)
  intro x1 m1 m2
  rw [made_zero] at m1
  have hsz := m2.size
  have c1 : Chg (fun _ => False) w x1 := ⟨m2.os, m2.tape, m2.output, m2.size, fun k hk _ => m2.block k hk (by simp)⟩
  have M1 := Hid.intro m1
  have hl := (m1.lt w.heap.size rfl).2
  clear m1 m2
  go_wp2
  go_ret
  refine ⟨x1.heap.size, _, rfl, hsz, ⟨blk_new _ _ _, own_kept (own_low M1.out) (chg_alloc (chg_refl _ _) _) (fun _ _ h => h), ?_⟩, ⟨hsz, fun k hk => ?_⟩, chg_alloc c1 _⟩
  · simp [Value.ownBlock]; omega
  · simp [Value.ownBlock] at hk; omega
theorem chance_any (p : Int) (W : World) : Calls Try.prog 36 #[.int .i64 p] W fun e W' => e = .returned (.int .u64 ((cut p : Nat) : Int)) ∧ W = W' := by
  obtain ⟨c, hc⟩ : ∃ c, c = cut p := ⟨_, rfl⟩
  have hx : ((c : Nat) : Int) = max 1 (min p 4095) := by rw [hc]; unfold cut; (repeat' split) <;> omega
  have h1 := cut_pos p
  have h2 := cut_le p
  rw [← hc] at h1 h2 ⊢
  clear hc
  go_enter Try.func36, Try.ntmps36
  go_wp2
  all_goals
    go_ret
    exact ⟨ret_int (by omega), rfl⟩
def AdRel (A : Nat) (g n cap R : Nat) (tgt : List UInt8) (W : World) (nv iv : Value) (wr : World) : Prop :=
  ∃ (m Y N : Nat) (tl : List UInt8), m ≤ n ∧ tl.length = n - m ∧ nv = .int .u64 N ∧ N < 8589934592 ∧ iv = .int .i64 ((m : Int) - 1) ∧ Blk wr A #[.slice (some ⟨g, 0, none⟩) n cap, .int .u64 R] 63 ∧
    wr.ownsRow 0 5 1 (.slice (some ⟨g, 0, none⟩) n cap) n ((be m Y ++ tl).map byteV) ∧ be m (Y + N) ++ tl = tgt ∧ Chg (· = g) W wr
set_option maxRecDepth 100000 in
set_option maxHeartbeats 1000000 in
theorem add_any (A : Nat) (v : Value) (n L R N : Nat) (W : World) (h : Co W A v n L R) (hn : 0 < n) (hn2 : n ≤ 1000000) (hN : N < 4294967296) :
    Calls Try.prog 32 #[ptr A, .int .u64 N] W fun e W' => e = .returned (.tuple #[]) ∧ Co W' A v n (L + N) R ∧ Chg (foot A v) W W' := by
  obtain ⟨hb, hr, hne⟩ := h
  obtain ⟨g, cap, cur, rfl, hcap, hg, hcs, ht, hl⟩ := own_at hr hn
  have hgA : g ≠ A := fun e => hne (by rw [← e]; rfl)
  have c0 : W.cell? ⟨A, 0, none⟩ = some (.slice (some ⟨g, 0, none⟩) n cap) := by rw [blk_cell hb]; rfl
  have hlt := blk_lt hb
  have HNE := Hid.intro hne
  clear hg hcs ht hl hcap hne
  unfold ptr
  go_enter Try.func32, Try.ntmps32
  go_wp2_with fail
  go_loopw [1, 4] (fun nv iv wr => AdRel A g n cap R (be n (L + N)) W nv iv wr) (fun _ iv _ => (intOf iv + 1).toNat)
  case atStart => exact ⟨n, L, N, [], Nat.le_refl _, by simp, rfl, by omega, rfl, hb, by simpa using hr, by simp, chg_refl _ _⟩
  case round =>
    clear hb hr c0 hlt hN
    obtain ⟨m, Y, M, tl, hm, htl, rfl, hM, rfl, hb, d1, d2, d3⟩ := hrel
    have D2 := Hid.intro d2
    have D1 := Hid.intro d1
    have D3 := Hid.intro d3
    clear d2
    rcases Nat.eq_zero_or_pos m with h0 | h0
    · subst h0
      have hn0 : ¬ (0 : Int) ≤ ((0 : Nat) : Int) - 1 := by omega
      clear d1 d3
      go_wp2
      go_end0
      refine ⟨rfl, ⟨hb, ?_, HNE.out⟩, chg_mono D3.out (fun k _ e => by subst e; exact .inr rfl)⟩
      have := D1.out
      rw [← D2.out]
      simpa [be] using this
    · obtain ⟨q, rfl⟩ : ∃ q, m = q + 1 := ⟨m - 1, by omega⟩
      have hq : (((q + 1 : Nat) : Int) - 1) = (q : Int) := by omega
      rw [hq]
      have hge : (0 : Int) ≤ (q : Int) := by omega
      rcases Nat.eq_zero_or_pos M with h1 | h1
      · subst h1
        clear d1 d3
        go_wp2
        go_end0
        refine ⟨rfl, ⟨hb, ?_, HNE.out⟩, chg_mono D3.out (fun k _ e => by subst e; exact .inr rfl)⟩
        have := D1.out
        rw [← D2.out]
        simpa using this
      · have hMp : (0 : Int) < (M : Int) := by omega
        have hqn : q < n := by omega
        have c0 : wr.cell? ⟨A, 0, none⟩ = some (.slice (some ⟨g, 0, none⟩) n cap) := by rw [blk_cell hb]; rfl
        have hlt := blk_lt hb
        obtain ⟨g', cap', cur', hv', hc', hg', hcs', ht', hl'⟩ := own_at d1 (by omega)
        injection hv' with e1 _ e3
        injection e1 with e1
        injection e1 with e1
        subst e1 e3
        have cg := own_cell hg' ht' q (by simp [be_len, htl]; omega) hl'
        rw [show (be (q + 1) Y ++ tl)[q]'(by simp [be_len, htl]; omega) = UInt8.ofNat Y from by
          have := be_get q Y tl; rw [List.getElem?_eq_getElem (by simp [be_len, htl]; omega)] at this; simpa using this, byteV, u8_mod] at cg
        have fg := blk_free hg' q
        obtain ⟨y, hy⟩ : ∃ y, y = Y % 256 := ⟨_, rfl⟩
        obtain ⟨T, hT⟩ : ∃ T, T = M + y := ⟨_, rfl⟩
        obtain ⟨b, hb8⟩ : ∃ b, b = T % 256 := ⟨_, rfl⟩
        rw [← hy] at cg
        have hset := own_set d1 q (UInt8.ofNat (Y + M)) (b : Int) (by rw [u8_mod]; congr 1; omega)
        rw [be_put] at hset
        have HSET := Hid.intro hset
        have hTM : (M : Int) + (y : Int) = (T : Int) := by omega
        have hT2 : T < 8589934900 := by omega
        have hTi : (T : Int) < 18446744073709551616 := by omega
        have hw : (T : Int) % 256 = (b : Int) := by omega
        have hyi : (y : Int) < 256 := by omega
        have hsh : (T : Int) / 256 = ((T / 256 : Nat) : Int) := by omega
        have HQ : Hid ((Y + M) / 256 = Y / 256 + T / 256) := by show _ = _; omega
        have HT3 : Hid (T / 256 < 8589934592) := by show _ < _; omega
        have hb2 := blk_set_other hb ⟨g, q, none⟩ (.int .u8 (b : Int)) (fun e => hgA e.symm)
        have k3 : Chg (· = g) W (wr.setCell ⟨g, q, none⟩ (.int .u8 (b : Int))) := chg_set d3 _ _ (fun _ => rfl)
        have c02 : (wr.setCell ⟨g, q, none⟩ (.int .u8 (b : Int))).cell? ⟨A, 0, none⟩ = some (.slice (some ⟨g, 0, none⟩) n cap) := by rw [blk_cell hb2]; rfl
        clear hy hT hb8 hset d1 d3 ht' hcs' hc' hl' hg' hM D1 D3
        generalize T / 256 = T2 at *
        go_wp2_with fail
        refine ⟨⟨q, Y / 256, T2, UInt8.ofNat (Y + M) :: tl, by omega, by simp [htl]; omega, rfl, HT3.out, rfl, hb2, HSET.out, ?_, k3⟩, by simp [intOf]⟩
        rw [← D2.out, be, HQ.out, List.append_assoc]
        rfl
def rangeAt (A : Nat) (W : World) : Nat := match W.cell? ⟨A, 1, none⟩ with
  | some (.int _ x) => x.toNat
  | _ => 0
def leftAt (A : Nat) (W : World) : Nat := 4294967296 - rangeAt A W
theorem co_range {W : World} {A : Nat} {v : Value} {n L R : Nat} (h : Co W A v n L R) : rangeAt A W = R := by
  have c1 : W.cell? ⟨A, 1, none⟩ = some (.int .u64 R) := by rw [blk_cell h.1]; rfl
  unfold rangeAt; rw [c1]; simp
def GrRel (A : Nat) (v : Value) (n L S : Nat) (W : World) (wr : World) : Prop :=
  ∃ (i : Nat) (v' : Value), i ≤ 2 ∧ (∀ j, j < i → S * 256 ^ j < 16777216) ∧ S * 256 ^ i < 4294967296 ∧ Co wr A v' (n + i) (L * 256 ^ i) (S * 256 ^ i) ∧ Chg (foot A v) W wr ∧ Moved W v v'
theorem co_step {W wr w1 w2 : World} {A n m L L' R R' : Nat} {v v1 v2 : Value} (d : Co wr A v1 m L R) (d5 : Chg (foot A v) W wr) (d6 : Moved W v v1)
    (hb1 : Blk w1 A #[v1, .int .u64 R'] 63) (h1 : Chg (· = A) wr w1) (G1 : w2.ownsRow 0 5 1 v2 n ((be n L').map byteV)) (G2 : w1.grownBy w2 v1.ownBlock) (G3 : Moved w1 v1 v2) :
    Co (w2.setCell ⟨A, 0, none⟩ v2) A v2 n L' R' ∧ Chg (foot A v) W (w2.setCell ⟨A, 0, none⟩ v2) ∧ Moved W v v2 := by
  obtain ⟨d1, d2, d3⟩ := d
  have hA : A < w1.heap.size := blk_lt hb1
  have hne : v2.ownBlock ≠ some A := fun e => by
    rcases G3 A e with h | h
    · exact d3 h
    · omega
  have b2 : Blk w2 A #[v1, .int .u64 R'] 63 := (G2.block A hA (fun e => d3 e.symm)).trans hb1
  have c1 : Chg (foot A v) W w1 := chg_trans d5 h1 (fun _ _ e => .inl e)
  have c2 : Chg (foot A v) W w2 := chg_grown c1 G2 (fun k hk hlt => by
    rcases d6 k hk with h | h
    · exact .inr h
    · omega)
  refine ⟨⟨by have := blk_set b2 0 v2; simpa using this, own_kept (S := (· = A)) G1 (chg_set (chg_refl _ _) _ _ (fun _ => rfl)) (fun k hk e => hne (by rw [hk, e])), hne⟩, chg_set c2 _ _ (fun _ => .inl rfl), fun k hk => ?_⟩
  rcases G3 k hk with h | h
  · exact d6 k h
  · exact .inr (Nat.le_trans (chg_size c1) h)
theorem be_zeros (n X : Nat) : be n X ++ [0] = be (n + 1) (X * 256) := by
  rw [be, show X * 256 / 256 = X from by omega]
  congr 2
  apply UInt8.toNat_inj.1
  rw [UInt8.toNat_ofNat']; simp
set_option maxRecDepth 100000 in
set_option maxHeartbeats 2000000 in
theorem grow_any (A : Nat) (v : Value) (n L S : Nat) (W : World) (h : Co W A v n L S) (hS : 256 ≤ S) (hS2 : S < 4294967296) (hn : n ≤ 900000) :
    Calls Try.prog 33 #[ptr A] W (CoPost A v (n + gr S) (L * 256 ^ gr S) (S * 256 ^ gr S) W) := by
  obtain ⟨i0, hi0, hz0, hz1, hz2⟩ := info_parts info5
  unfold ptr
  go_enter Try.func33, Try.ntmps33
  go_wp2_with fail
  go_loopw [] (fun wr => GrRel A v n L S W wr) (fun wr => leftAt A wr)
  case atStart => exact ⟨0, v, by omega, fun j hj => absurd hj (by omega), by simpa using hS2, by simpa using h, chg_refl _ _, fun k hk => .inl hk⟩
  case round =>
    clear h
    obtain ⟨i, v1, g3, g2, g1, d, kk, mv⟩ := hrel
    have hrg := co_range d
    have c1 : wr.cell? ⟨A, 1, none⟩ = some (.int .u64 ((S * 256 ^ i : Nat) : Int)) := by rw [blk_cell d.1]; rfl
    have hlt := blk_lt d.1
    by_cases hsm : S * 256 ^ i < 16777216
    · have g3' : i < 2 := by
        rcases Nat.lt_or_ge i 2 with h | h
        · exact h
        · have e : i = 2 := by omega
          subst e; simp at hsm; omega
      have g2' : ∀ j, j < i + 1 → S * 256 ^ j < 16777216 := fun j hj => by
        rcases Nat.lt_or_ge j i with h | h
        · exact g2 j h
        · obtain rfl : j = i := by omega
          exact hsm
      have HG2 := Hid.intro g2'
      have HT : Hid (S * 256 ^ (i + 1) = S * 256 ^ i * 256) := by show _ = _; rw [Nat.pow_succ, Nat.mul_assoc]
      have HM : Hid (L * 256 ^ (i + 1) = L * 256 ^ i * 256) := by show _ = _; rw [Nat.pow_succ, Nat.mul_assoc]
      have HTP : Hid (256 ≤ S * 256 ^ i) := Nat.le_trans hS (Nat.le_mul_of_pos_right _ (Nat.pow_pos (by decide)))
      have HJ : Hid (n + (i + 1) = n + i + 1) := rfl
      have hnn : n + i ≤ 1000000 := by omega
      clear g2 g2'
      generalize S * 256 ^ i = T at *
      generalize L * 256 ^ i = Q at *
      generalize n + i = m at *
      have hT2 : (T : Int) * 256 = ((T * 256 : Nat) : Int) := by omega
      have hlti : (T : Int) < 16777216 := by omega
      have HLT := Hid.intro hsm
      have HRG := Hid.intro hrg
      have hb1 := blk_set d.1 1 (.int .u64 ((T * 256 : Nat) : Int))
      have HB1 : Hid (Blk (wr.setCell ⟨A, 1, none⟩ (.int .u64 ((T * 256 : Nat) : Int))) A #[v1, .int .u64 ((T * 256 : Nat) : Int)] 63) := hb1
      have k1 : Chg (· = A) wr (wr.setCell ⟨A, 1, none⟩ (.int .u64 ((T * 256 : Nat) : Int))) := chg_set (chg_refl _ _) _ _ (fun _ => rfl)
      have ROW : Hid ((wr.setCell ⟨A, 1, none⟩ (.int .u64 ((T * 256 : Nat) : Int))).ownsRow 0 5 1 v1 m ((be m Q).map byteV)) := own_kept d.2.1 k1 (fun k hk e => d.2.2 (by rw [hk, e]))
      have f1 := blk_free d.1 1
      have f0 : (wr.setCell ⟨A, 1, none⟩ (.int .u64 ((T * 256 : Nat) : Int))).frozen? ⟨A, 0, none⟩ = false := blk_free hb1 0
      have c0 : (wr.setCell ⟨A, 1, none⟩ (.int .u64 ((T * 256 : Nat) : Int))).cell? ⟨A, 0, none⟩ = some v1 := by rw [blk_cell hb1]; rfl
      have K1 := Hid.intro k1
      have HT256 : Hid (T * 256 = T * 256) := rfl
      have hT3 : Hid (T * 256 < 4294967296) := by show _ < _; omega
      have hUi : ((T * 256 : Nat) : Int) < 18446744073709551616 := by omega
      have hcn : ((wr.setCell ⟨A, 1, none⟩ (.int .u64 ((T * 256 : Nat) : Int))).alloc (.cells #[.int .u8 0] 5)).cell? ⟨wr.heap.size, 0, none⟩ = some (.int .u8 0) := by
        have := blk_cell (blk_new (wr.setCell ⟨A, 1, none⟩ (.int .u64 ((T * 256 : Nat) : Int))) #[.int .u8 0] 5) 0
        rw [Go.Deep.nblk_setCell] at this
        exact this
      clear hb1 k1 hrg hsm g1 hS2
      generalize hU : T * 256 = U at *
      have HU := Hid.intro hU
      clear hU
      go_wp2_with (first | (at_builtin; refine wpList_push _ rfl (.tmp 19) (.tmp 20) 51 rfl i0 Try.underlying51 hi0 hz0 hz1 hz2 v1 m (be m Q) rfl (World.ownsRow.alloc ROW.out _) hnn ⟨wr.heap.size, 0, none⟩ 0 0 (by decide) rfl hcn ?_) | fail)
      intro v2 w2 g1 g2 g3
      have b2 : Blk w2 A #[v1, .int .u64 (U : Int)] 63 := (g2.block A (by simp; omega) (fun e => d.2.2 e.symm)).trans (blk_alloc HB1.out _)
      have p0 : w2.cell? ⟨A, 0, none⟩ = some v1 := by rw [blk_cell b2]; rfl
      have p1 := blk_free b2 0
      have g1' : w2.ownsRow 0 5 1 v2 (m + 1) ((be (m + 1) (Q * 256)).map byteV) := by rw [← be_zeros, List.map_append]; exact g1
      obtain ⟨gg, cap, cur, rfl, _, _, _, _, _⟩ := own_at g1' (Nat.succ_pos _)
      obtain ⟨k1, k2, k3⟩ := co_step d kk mv (blk_alloc HB1.out (.cells #[.int .u8 0] 5)) (chg_alloc K1.out _) g1' g2 g3
      have K1 := Hid.intro k1
      have K2 := Hid.intro k2
      have K3 := Hid.intro k3
      have hle := Nat.lt_of_lt_of_le (show A < ((wr.setCell ⟨A, 1, none⟩ (.int .u64 (U : Int))).alloc (.cells #[.int .u8 0] 5)).heap.size by simp; omega) g2.size
      clear g1 g2 g3 b2 g1' k1 k2 k3 c0 c1 f0 f1 d kk mv hcn
      go_wp2_with fail
      go_roundw
      case rel =>
        refine ⟨i + 1, _, by omega, HG2.out, ?_, ?_, K2.out, K3.out⟩
        · rw [HT.out]; exact hT3.out
        · rw [HT.out, HM.out, HJ.out]; exact K1.out
      case measure =>
        unfold leftAt
        rw [HRG.out, co_range K1.out]
        have := HLT.out; have := HTP.out; have := HU.out; have := hT3.out
        omega
    · have hgg := gr_at S i g2 hsm hS
      have hge : ¬ ((S * 256 ^ i : Nat) : Int) < 16777216 := by omega
      have HG : Hid (i = gr S) := hgg
      have DD := Hid.intro (And.intro d (And.intro kk mv))
      clear hgg g2 hsm g1 hS2 d kk mv hrg
      generalize hTT : S * 256 ^ i = T at *
      have HTT := Hid.intro hTT
      clear hTT
      go_wp2_with fail
      go_end0
      refine ⟨rfl, v1, ?_, DD.out.2.1, DD.out.2.2⟩
      rw [← HG.out, HTT.out]
      exact DD.out.1
end Go.Proofs.Ytbmjehpkcelogaa
