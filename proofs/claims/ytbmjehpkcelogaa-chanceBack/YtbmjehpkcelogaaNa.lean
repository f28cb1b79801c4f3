/-
  Package chance, the encoder: narrow.
-/
import Derived.Test.YtbmjehpkcelogaaEn
namespace Go.Proofs.Ytbmjehpkcelogaa
open Go.ChangeShapes Go.WideShapes Go.ChangeAt Go.RowKit
open Go.ChangeMaps (open_string shut_string)

theorem en_step {F : Value → Value → Value → Array Value} {o : Nat} {t : TypeId} (hF : Fit F o) {W wr w1 w2 : World} {A n : Nat} {v v1 v2 l g : Value} {xs : List Value}
    (d1 : Blk wr A (F v1 l g) t) (d3 : v1.ownBlock ≠ some A) (d5 : Chg (foot A v) W wr) (d6 : Moved W v v1)
    (h1 : Chg (fun _ => False) wr w1) (G1 : w2.ownsRow 0 5 1 v2 n xs) (G2 : w1.grownBy w2 v1.ownBlock) (G3 : Moved w1 v1 v2) :
    Blk (w2.setCell ⟨A, o, none⟩ v2) A (F v2 l g) t ∧ (w2.setCell ⟨A, o, none⟩ v2).ownsRow 0 5 1 v2 n xs ∧ v2.ownBlock ≠ some A ∧ Chg (foot A v) W (w2.setCell ⟨A, o, none⟩ v2) ∧ Moved W v v2 := by
  have hA : A < w1.heap.size := Nat.lt_of_lt_of_le (blk_lt d1) (chg_size h1)
  have hne : v2.ownBlock ≠ some A := fun e => by
    rcases G3 A e with h | h
    · exact d3 h
    · omega
  have b1 : Blk w1 A (F v1 l g) t := blk_kept d1 h1 (fun h => h)
  have b2 : Blk w2 A (F v1 l g) t := (G2.block A hA (fun e => d3 e.symm)).trans b1
  have c1 : Chg (foot A v) W w1 := chg_trans d5 h1 (fun _ _ h => h.elim)
  have c2 : Chg (foot A v) W w2 := chg_grown c1 G2 (fun k hk hlt => by
    rcases d6 k hk with h | h
    · exact .inr h
    · omega)
  refine ⟨by have := blk_set b2 o v2; rwa [(hF _ _ _).2.2.2.1] at this, own_kept (S := (· = A)) G1 (chg_set (chg_refl _ _) _ _ (fun _ => rfl)) (fun k hk e => hne (by rw [hk, e])), hne, chg_set c2 _ _ (fun _ => .inl rfl), fun k hk => ?_⟩
  rcases G3 k hk with h | h
  · exact d6 k h
  · exact .inr (Nat.le_trans (chg_size c1) h)
theorem en_facts {F : Value → Value → Value → Array Value} {o : Nat} {t : TypeId} (hF : Fit F o) {w1 w2 : World} {A : Nat} {v1 l g : Value} (hb1 : Blk w1 A (F v1 l g) t) (d3 : v1.ownBlock ≠ some A) (g2 : w1.grownBy w2 v1.ownBlock) :
    w2.cell? ⟨A, o, none⟩ = some v1 ∧ w2.frozen? ⟨A, o, none⟩ = false ∧ w2.cell? ⟨A, o + 1, none⟩ = some l := by
  have hb : Blk w2 A (F v1 l g) t := (g2.block A (blk_lt hb1) (fun e => d3 e.symm)).trans hb1
  exact ⟨by rw [blk_cell hb]; exact (hF _ _ _).1, blk_free hb o, by rw [blk_cell hb]; exact (hF _ _ _).2.1⟩

def NaRel (F : Value → Value → Value → Array Value) (t : TypeId) (A : Nat) (v : Value) (j M S : Nat) (G : Value) (W : World) (iv : Value) (wr : World) : Prop :=
  ∃ (g : Nat) (v' : Value), iv = .int .u32 ((S * 256 ^ g : Nat) : Int) ∧ S * 256 ^ g < 4294967296 ∧ (∀ i, i < g → S * 256 ^ i < 16777216) ∧ g ≤ 2 ∧
    Blk wr A (F v' (lstV (M * 256 ^ g)) G) t ∧ wr.ownsRow 0 5 1 v' (j + g) ((be (j + g) (M * 256 ^ g / 4294967296)).map byteV) ∧ v'.ownBlock ≠ some A ∧ Chg (foot A v) W wr ∧ Moved W v v'
theorem be_grow (n M b : Nat) (hb : b = M % 4294967296 / 16777216) : be n (M / 4294967296) ++ [UInt8.ofNat b] = be (n + 1) (M * 256 / 4294967296) := by
  rw [be, show M * 256 / 4294967296 / 256 = M / 4294967296 from by omega]
  congr 2
  apply UInt8.toNat_inj.1
  rw [UInt8.toNat_ofNat', UInt8.toNat_ofNat']
  omega

set_option maxRecDepth 100000 in
set_option maxHeartbeats 2000000 in
theorem narrow_flat {F : Value → Value → Value → Array Value} {o : Nat} {t : TypeId} (hF : Fit F o) (A : Nat) (v : Value) (j L R f S : Nat) (W : World) (h : En F t W A v j L R) (hf : f < 4294967296) (hS : 256 ≤ S) (hS2 : S < 4294967296) (hj : j ≤ 100000)
    (hc : L % 4294967296 + f < 4294967296) :
    Calls Try.prog 31 #[ptrO A o, .int .u32 f, .int .u32 S] W (EnPost F t A v (j + gr S) ((L + f) * 256 ^ gr S) (S * 256 ^ gr S) W) := by
  obtain ⟨hb, hown, hne, _⟩ := h
  obtain ⟨i0, hi0, hz0, hz1, hz2⟩ := info_parts info5
  obtain ⟨M, hM⟩ : ∃ M, M = L + f := ⟨_, rfl⟩
  rw [← hM]
  obtain ⟨m, hm⟩ : ∃ m, m = M % 4294967296 := ⟨_, rfl⟩
  obtain ⟨l, hl⟩ : ∃ l, l = L % 4294967296 := ⟨_, rfl⟩
  have hb1 := blk_set hb (o + 1) (.int .u32 (m : Int))
  rw [(hF _ _ _).2.2.2.2.1] at hb1
  have c1 : W.cell? ⟨A, o + 1, none⟩ = some (.int .u32 (l : Int)) := by rw [blk_cell hb, hl]; exact (hF _ _ _).2.1
  have f1 := blk_free hb (o + 1)
  have d0 : (W.setCell ⟨A, o + 1, none⟩ (.int .u32 (m : Int))).cell? ⟨A, o, none⟩ = some v := by rw [blk_cell hb1]; exact (hF _ _ _).1
  have d1 : (W.setCell ⟨A, o + 1, none⟩ (.int .u32 (m : Int))).cell? ⟨A, o + 1, none⟩ = some (.int .u32 (m : Int)) := by rw [blk_cell hb1]; exact (hF _ _ _).2.1
  have o1 : (W.setCell ⟨A, o + 1, none⟩ (.int .u32 (m : Int))).ownsRow 0 5 1 v j ((be j (L / 4294967296)).map byteV) :=
    own_kept (S := (· = A)) hown (chg_set (chg_refl _ _) _ _ (fun _ => rfl)) (fun k hk e => hne (by rw [hk, e]))
  have k1 : Chg (foot A v) W (W.setCell ⟨A, o + 1, none⟩ (.int .u32 (m : Int))) := chg_set (chg_refl _ _) _ _ (fun _ => .inl rfl)
  have hm2 : m < 4294967296 := by omega
  have hlm : (l : Int) + f = m := by omega
  have hnc : ¬ (m : Int) < f := by omega
  have hX : L / 4294967296 = M / 4294967296 := by omega
  have START : Hid (Blk (W.setCell ⟨A, o + 1, none⟩ (.int .u32 (m : Int))) A (F v (lstV M) (gonV R)) t) := by unfold lstV; rw [← hm]; exact hb1
  have ROW : Hid ((W.setCell ⟨A, o + 1, none⟩ (.int .u32 (m : Int))).ownsRow 0 5 1 v j ((be j (M / 4294967296)).map byteV)) := by rw [← hX]; exact o1
  have NE : Hid (v.ownBlock ≠ some A) := hne
  have KK := Hid.intro k1
  have NRM : Hid (L = L) := rfl
  clear o1 k1 hb1 hX hm hl hM
  generalize hG : gonV R = G at *
  clear hG hown hb
  unfold ptrO
  go_enter Try.func31, Try.ntmps31
  go_wp2_with fail
  generalize W.setCell ⟨A, o + 1, none⟩ (.int .u32 (m : Int)) = w1 at *
  go_loopw [2] (fun iv wr => NaRel F t A v j M S G W iv wr) (fun iv _ => 4294967296 - (intOf iv).toNat)
  case atStart =>
    clear NRM
    exact ⟨0, v, by simp, by simpa using hS2, fun i hi => absurd hi (by omega), by omega, by simpa using START.out, by simpa using ROW.out, NE.out, KK.out, fun k hk => .inl hk⟩
  case round =>
    obtain ⟨g, v1, rfl, g1, g2, g3, b1, r1, n1, kk, mv⟩ := hrel
    have c0 : wr.cell? ⟨A, o, none⟩ = some v1 := by rw [blk_cell b1]; exact (hF _ _ _).1
    have f0 := blk_free b1 o
    have f1 := blk_free b1 (o + 1)
    have f2 := blk_free b1 (o + 2)
    have cl : wr.cell? ⟨A, o + 1, none⟩ = some (lstV (M * 256 ^ g)) := by rw [blk_cell b1]; exact (hF _ _ _).2.1
    have hAlt := blk_lt b1
    by_cases hlt : S * 256 ^ g < 16777216
    · have g3' : g < 2 := by
        rcases Nat.lt_or_ge g 2 with h | h
        · exact h
        · have e : g = 2 := by omega
          subst e; simp at hlt; omega
      have g2' : ∀ i, i < g + 1 → S * 256 ^ i < 16777216 := fun i hi => by
        rcases Nat.lt_or_ge i g with h | h
        · exact g2 i h
        · obtain rfl : i = g := by omega
          exact hlt
      have HG2 := Hid.intro g2'
      have HT : Hid (S * 256 ^ (g + 1) = S * 256 ^ g * 256) := by show _ = _; rw [Nat.pow_succ, Nat.mul_assoc]
      have HM : Hid (M * 256 ^ (g + 1) = M * 256 ^ g * 256) := by show _ = _; rw [Nat.pow_succ, Nat.mul_assoc]
      have HD := Hid.intro d0
      have HTP : Hid (256 ≤ S * 256 ^ g) := Nat.le_trans hS (Nat.le_mul_of_pos_right _ (Nat.pow_pos (by decide)))
      have HJ : Hid (j + (g + 1) = j + g + 1) := rfl
      have hn : j + g ≤ 1000000 := by omega
      clear g2 g2' d0 c1 hlm hnc NRM hm2
      generalize S * 256 ^ g = T at *
      generalize M * 256 ^ g = Q at *
      generalize j + g = n at *
      obtain ⟨b, hb⟩ : ∃ b, b = Q % 4294967296 / 16777216 := ⟨_, rfl⟩
      obtain ⟨l2, hl2⟩ : ∃ l2, l2 = Q * 256 % 4294967296 := ⟨_, rfl⟩
      have HB := Hid.intro (be_grow n Q b hb)
      have hb8 : b < 256 := by omega
      have HL2 : Hid (l2 = Q * 256 % 4294967296) := hl2
      unfold lstV at cl
      have hsh : ((Q % 4294967296 : Nat) : Int) / 16777216 = b := by omega
      have hsl : ((Q % 4294967296 : Nat) : Int) * 256 % 4294967296 = l2 := by omega
      have hp24 : (2 : Int) ^ 24 = 16777216 := rfl
      have hQ : Q % 4294967296 < 4294967296 := Nat.mod_lt _ (by decide)
      unfold lstV at b1
      generalize Q % 4294967296 = q at *
      clear hb hl2
      have hu8 : IntKind.u8.wrap (b : Int) = (b : Int) := by rw [IntKind.wrap_u8]; omega
      have hlti : (T : Int) < 16777216 := by omega
      have HLT := Hid.intro hlt
      have HQ := Hid.intro hQ
      have hqi : (q : Int) < 4294967296 := by omega
      clear hlt hQ g1 hS2 hf hc
      go_wp2_with fail
      go_region_law (refine step_push rfl (.tmp 33) (.tmp 40) 51 rfl i0 Try.underlying51 hi0 hz0 hz1 hz2 v1 n (be n (Q / 4294967296)) rfl (World.ownsRow.alloc r1 _) hn ⟨wr.heap.size, 0, none⟩ b (UInt8.ofNat b) (by rw [u8_of _ hb8]) rfl (by simp) ?_; intro v2 w2 g1 g2 g3; obtain ⟨g5, g6, g7⟩ := en_facts hF (blk_drew (blk_alloc b1 _)) n1 g2; have G1 := Hid.intro g1; have G2 := Hid.intro g2; have G3 := Hid.intro g3; obtain ⟨gg, cap, cur, rfl, _, _, _, _, _⟩ := own_at g1 (Nat.succ_pos _); clear g1 g2 g3)
      all_goals
        obtain ⟨k1, k2, k3, k4, k5⟩ := en_step hF b1 n1 kk mv (chg_drew (chg_alloc (chg_refl _ wr) _)) G1.out G2.out G3.out
        have e1 := blk_set k1 (o + 1) (.int .u32 (l2 : Int))
        rw [(hF _ _ _).2.2.2.2.1] at e1
        have p1 : (w2.setCell ⟨A, o, none⟩ (.slice (some ⟨gg, 0, none⟩) (n + 1) cap)).cell? ⟨A, o + 1, none⟩ = some (.int .u32 (q : Int)) := by rw [blk_cell k1]; exact (hF _ _ _).2.1
        have p2 := blk_free k1 (o + 1)
        have E1 := Hid.intro e1
        have E2 : Hid (((w2.setCell ⟨A, o, none⟩ (.slice (some ⟨gg, 0, none⟩) (n + 1) cap)).setCell ⟨A, o + 1, none⟩ (.int .u32 (l2 : Int))).ownsRow 0 5 1 (.slice (some ⟨gg, 0, none⟩) (n + 1) cap) (n + 1) ((be (n + 1) (Q * 256 / 4294967296)).map byteV)) := by
          rw [← HB.out]
          exact own_kept (S := (· = A)) k2 (chg_set (chg_refl _ _) _ _ (fun _ => rfl)) (fun k hk e => k3 (by rw [hk, e]))
        have E4 := Hid.intro (chg_set k4 ⟨A, o + 1, none⟩ (.int .u32 (l2 : Int)) (fun _ => .inl rfl))
        clear g5 g6 g7 e1 k1 k2 k4 b1 r1 c0 cl f0 f1 f2 G1 G2 G3
        generalize w2.setCell ⟨A, o, none⟩ (.slice (some ⟨gg, 0, none⟩) (n + 1) cap) = w3 at *
        go_wp2
        go_roundw
        case rel =>
          refine ⟨g + 1, _, ?_, ?_, HG2.out, by omega, ?_, ?_, k3, E4.out, k5⟩
          · rw [HT.out]; simp
          · rw [HT.out]; have := HLT.out; omega
          · rw [HM.out]; unfold lstV; rw [← HL2.out]; exact E1.out
          · rw [HM.out, HJ.out]; exact E2.out
        case measure => have := HLT.out; have := HTP.out; simp [intOf]; omega
    · have hge : ¬ ((S * 256 ^ g : Nat) : Int) < 16777216 := by omega
      have hgg := gr_at S g g2 hlt hS
      have HG : Hid (g = gr S) := hgg
      have HT2 : Hid (S * 256 ^ gr S = S * 256 ^ g) := by show _ = _; rw [← hgg]
      have cg2 : wr.cell? ⟨A, o + 2, none⟩ = some G := by rw [blk_cell b1]; exact (hF _ _ _).2.2.1
      have e1 := blk_set b1 (o + 2) (gonV (S * 256 ^ g))
      rw [(hF _ _ _).2.2.2.2.2] at e1
      have hle : S * 256 ^ g ≤ 4294967295 := by omega
      have hw : (4294967295 : Int) - ((S * 256 ^ g : Nat) : Int) = ((4294967295 - S * 256 ^ g : Nat) : Int) := by omega
      have PP : Hid (En F t (wr.setCell ⟨A, o + 2, none⟩ (gonV (S * 256 ^ g))) A v1 (j + g) (M * 256 ^ g) (S * 256 ^ g)) :=
        ⟨e1, own_kept (S := (· = A)) r1 (chg_set (chg_refl _ _) _ _ (fun _ => rfl)) (fun k hk e => n1 (by rw [hk, e])), n1, hle⟩
      have P2 : Hid (Chg (foot A v) W (wr.setCell ⟨A, o + 2, none⟩ (gonV (S * 256 ^ g)))) := chg_set kk _ _ (fun _ => .inl rfl)
      clear e1 hgg g2 hlt hS2 hf hc hm2
      unfold gonV at *
      generalize 4294967295 - S * 256 ^ g = z at *
      have hgi : ((S * 256 ^ g : Nat) : Int) ≤ 4294967295 := by omega
      clear g1 hle
      generalize S * 256 ^ g = T at *
      go_wp2
      go_end0
      refine ⟨rfl, v1, ?_, P2.out, mv⟩
      rw [HT2.out, ← HG.out]
      exact PP.out

set_option maxRecDepth 100000 in
set_option maxHeartbeats 2000000 in
theorem narrow_carry {F : Value → Value → Value → Array Value} {o : Nat} {t : TypeId} (hF : Fit F o) (A : Nat) (v : Value) (j L R f S : Nat) (W : World) (h : En F t W A v j L R) (hf : f < 4294967296) (hS : 256 ≤ S) (hS2 : S < 4294967296) (hj : j ≤ 100000)
    (hc : 4294967296 ≤ L % 4294967296 + f) :
    Calls Try.prog 31 #[ptrO A o, .int .u32 f, .int .u32 S] W (EnPost F t A v (j + gr S) ((L + f) * 256 ^ gr S) (S * 256 ^ gr S) W) := by
  obtain ⟨hb, hown, hne, _⟩ := h
  obtain ⟨i0, hi0, hz0, hz1, hz2⟩ := info_parts info5
  obtain ⟨M, hM⟩ : ∃ M, M = L + f := ⟨_, rfl⟩
  rw [← hM]
  obtain ⟨m, hm⟩ : ∃ m, m = M % 4294967296 := ⟨_, rfl⟩
  obtain ⟨l, hl⟩ : ∃ l, l = L % 4294967296 := ⟨_, rfl⟩
  have hb1 := blk_set hb (o + 1) (.int .u32 (m : Int))
  rw [(hF _ _ _).2.2.2.2.1] at hb1
  have c1 : W.cell? ⟨A, o + 1, none⟩ = some (.int .u32 (l : Int)) := by rw [blk_cell hb, hl]; exact (hF _ _ _).2.1
  have f1 := blk_free hb (o + 1)
  have d0 : (W.setCell ⟨A, o + 1, none⟩ (.int .u32 (m : Int))).cell? ⟨A, o, none⟩ = some v := by rw [blk_cell hb1]; exact (hF _ _ _).1
  have d1 : (W.setCell ⟨A, o + 1, none⟩ (.int .u32 (m : Int))).cell? ⟨A, o + 1, none⟩ = some (.int .u32 (m : Int)) := by rw [blk_cell hb1]; exact (hF _ _ _).2.1
  have o1 : (W.setCell ⟨A, o + 1, none⟩ (.int .u32 (m : Int))).ownsRow 0 5 1 v j ((be j (L / 4294967296)).map byteV) :=
    own_kept (S := (· = A)) hown (chg_set (chg_refl _ _) _ _ (fun _ => rfl)) (fun k hk e => hne (by rw [hk, e]))
  have k1 : Chg (foot A v) W (W.setCell ⟨A, o + 1, none⟩ (.int .u32 (m : Int))) := chg_set (chg_refl _ _) _ _ (fun _ => .inl rfl)
  have hm2 : m < 4294967296 := by omega
  have hlm : ((l : Int) + f) % 4294967296 = m := by omega
  have hnc : (m : Int) < f := by omega
  have hX : L / 4294967296 + 1 = M / 4294967296 := by omega
  have CA := carry_any v j (L / 4294967296) _ o1 (by omega)
  rw [hX] at CA
  have START : Hid (Blk (W.setCell ⟨A, o + 1, none⟩ (.int .u32 (m : Int))) A (F v (lstV M) (gonV R)) t) := by unfold lstV; rw [← hm]; exact hb1
  have NE : Hid (v.ownBlock ≠ some A) := hne
  have KK := Hid.intro k1
  have NRM : Hid (L = L) := rfl
  clear o1 k1 hb1 hX hm hl hM
  generalize hG : gonV R = G at *
  clear hG hown hb
  unfold ptrO
  go_enter Try.func31, Try.ntmps31
  go_wp2_with fail
  refine CA.mono ?_
  rintro e w1 ⟨rfl, q1, q2⟩
  have ROW := Hid.intro q1
  have START := Hid.intro (blk_kept START.out q2 (fun e => NE.out e))
  have KK := Hid.intro (chg_trans KK.out q2 (fun k _ e => .inr e))
  clear q1 q2
  go_wp2_with fail
  go_loopw [2] (fun iv wr => NaRel F t A v j M S G W iv wr) (fun iv _ => 4294967296 - (intOf iv).toNat)
  case atStart =>
    clear NRM
    exact ⟨0, v, by simp, by simpa using hS2, fun i hi => absurd hi (by omega), by omega, by simpa using START.out, by simpa using ROW.out, NE.out, KK.out, fun k hk => .inl hk⟩
  case round =>
    obtain ⟨g, v1, rfl, g1, g2, g3, b1, r1, n1, kk, mv⟩ := hrel
    have c0 : wr.cell? ⟨A, o, none⟩ = some v1 := by rw [blk_cell b1]; exact (hF _ _ _).1
    have f0 := blk_free b1 o
    have f1 := blk_free b1 (o + 1)
    have f2 := blk_free b1 (o + 2)
    have cl : wr.cell? ⟨A, o + 1, none⟩ = some (lstV (M * 256 ^ g)) := by rw [blk_cell b1]; exact (hF _ _ _).2.1
    have hAlt := blk_lt b1
    by_cases hlt : S * 256 ^ g < 16777216
    · have g3' : g < 2 := by
        rcases Nat.lt_or_ge g 2 with h | h
        · exact h
        · have e : g = 2 := by omega
          subst e; simp at hlt; omega
      have g2' : ∀ i, i < g + 1 → S * 256 ^ i < 16777216 := fun i hi => by
        rcases Nat.lt_or_ge i g with h | h
        · exact g2 i h
        · obtain rfl : i = g := by omega
          exact hlt
      have HG2 := Hid.intro g2'
      have HT : Hid (S * 256 ^ (g + 1) = S * 256 ^ g * 256) := by show _ = _; rw [Nat.pow_succ, Nat.mul_assoc]
      have HM : Hid (M * 256 ^ (g + 1) = M * 256 ^ g * 256) := by show _ = _; rw [Nat.pow_succ, Nat.mul_assoc]
      have HD := Hid.intro d0
      have HTP : Hid (256 ≤ S * 256 ^ g) := Nat.le_trans hS (Nat.le_mul_of_pos_right _ (Nat.pow_pos (by decide)))
      have HJ : Hid (j + (g + 1) = j + g + 1) := rfl
      have hn : j + g ≤ 1000000 := by omega
      clear g2 g2' d0 c1 hlm hnc NRM hm2
      generalize S * 256 ^ g = T at *
      generalize M * 256 ^ g = Q at *
      generalize j + g = n at *
      obtain ⟨b, hb⟩ : ∃ b, b = Q % 4294967296 / 16777216 := ⟨_, rfl⟩
      obtain ⟨l2, hl2⟩ : ∃ l2, l2 = Q * 256 % 4294967296 := ⟨_, rfl⟩
      have HB := Hid.intro (be_grow n Q b hb)
      have hb8 : b < 256 := by omega
      have HL2 : Hid (l2 = Q * 256 % 4294967296) := hl2
      unfold lstV at cl
      have hsh : ((Q % 4294967296 : Nat) : Int) / 16777216 = b := by omega
      have hsl : ((Q % 4294967296 : Nat) : Int) * 256 % 4294967296 = l2 := by omega
      have hp24 : (2 : Int) ^ 24 = 16777216 := rfl
      have hQ : Q % 4294967296 < 4294967296 := Nat.mod_lt _ (by decide)
      unfold lstV at b1
      generalize Q % 4294967296 = q at *
      clear hb hl2
      have hu8 : IntKind.u8.wrap (b : Int) = (b : Int) := by rw [IntKind.wrap_u8]; omega
      have hlti : (T : Int) < 16777216 := by omega
      have HLT := Hid.intro hlt
      have HQ := Hid.intro hQ
      have hqi : (q : Int) < 4294967296 := by omega
      clear hlt hQ g1 hS2 hf hc
      go_wp2_with fail
      go_region_law (refine step_push rfl (.tmp 33) (.tmp 40) 51 rfl i0 Try.underlying51 hi0 hz0 hz1 hz2 v1 n (be n (Q / 4294967296)) rfl (World.ownsRow.alloc r1 _) hn ⟨wr.heap.size, 0, none⟩ b (UInt8.ofNat b) (by rw [u8_of _ hb8]) rfl (by simp) ?_; intro v2 w2 g1 g2 g3; obtain ⟨g5, g6, g7⟩ := en_facts hF (blk_drew (blk_alloc b1 _)) n1 g2; have G1 := Hid.intro g1; have G2 := Hid.intro g2; have G3 := Hid.intro g3; obtain ⟨gg, cap, cur, rfl, _, _, _, _, _⟩ := own_at g1 (Nat.succ_pos _); clear g1 g2 g3)
      all_goals
        obtain ⟨k1, k2, k3, k4, k5⟩ := en_step hF b1 n1 kk mv (chg_drew (chg_alloc (chg_refl _ wr) _)) G1.out G2.out G3.out
        have e1 := blk_set k1 (o + 1) (.int .u32 (l2 : Int))
        rw [(hF _ _ _).2.2.2.2.1] at e1
        have p1 : (w2.setCell ⟨A, o, none⟩ (.slice (some ⟨gg, 0, none⟩) (n + 1) cap)).cell? ⟨A, o + 1, none⟩ = some (.int .u32 (q : Int)) := by rw [blk_cell k1]; exact (hF _ _ _).2.1
        have p2 := blk_free k1 (o + 1)
        have E1 := Hid.intro e1
        have E2 : Hid (((w2.setCell ⟨A, o, none⟩ (.slice (some ⟨gg, 0, none⟩) (n + 1) cap)).setCell ⟨A, o + 1, none⟩ (.int .u32 (l2 : Int))).ownsRow 0 5 1 (.slice (some ⟨gg, 0, none⟩) (n + 1) cap) (n + 1) ((be (n + 1) (Q * 256 / 4294967296)).map byteV)) := by
          rw [← HB.out]
          exact own_kept (S := (· = A)) k2 (chg_set (chg_refl _ _) _ _ (fun _ => rfl)) (fun k hk e => k3 (by rw [hk, e]))
        have E4 := Hid.intro (chg_set k4 ⟨A, o + 1, none⟩ (.int .u32 (l2 : Int)) (fun _ => .inl rfl))
        clear g5 g6 g7 e1 k1 k2 k4 b1 r1 c0 cl f0 f1 f2 G1 G2 G3
        generalize w2.setCell ⟨A, o, none⟩ (.slice (some ⟨gg, 0, none⟩) (n + 1) cap) = w3 at *
        go_wp2
        go_roundw
        case rel =>
          refine ⟨g + 1, _, ?_, ?_, HG2.out, by omega, ?_, ?_, k3, E4.out, k5⟩
          · rw [HT.out]; simp
          · rw [HT.out]; have := HLT.out; omega
          · rw [HM.out]; unfold lstV; rw [← HL2.out]; exact E1.out
          · rw [HM.out, HJ.out]; exact E2.out
        case measure => have := HLT.out; have := HTP.out; simp [intOf]; omega
    · have hge : ¬ ((S * 256 ^ g : Nat) : Int) < 16777216 := by omega
      have hgg := gr_at S g g2 hlt hS
      have HG : Hid (g = gr S) := hgg
      have HT2 : Hid (S * 256 ^ gr S = S * 256 ^ g) := by show _ = _; rw [← hgg]
      have cg2 : wr.cell? ⟨A, o + 2, none⟩ = some G := by rw [blk_cell b1]; exact (hF _ _ _).2.2.1
      have e1 := blk_set b1 (o + 2) (gonV (S * 256 ^ g))
      rw [(hF _ _ _).2.2.2.2.2] at e1
      have hle : S * 256 ^ g ≤ 4294967295 := by omega
      have hw : (4294967295 : Int) - ((S * 256 ^ g : Nat) : Int) = ((4294967295 - S * 256 ^ g : Nat) : Int) := by omega
      have PP : Hid (En F t (wr.setCell ⟨A, o + 2, none⟩ (gonV (S * 256 ^ g))) A v1 (j + g) (M * 256 ^ g) (S * 256 ^ g)) :=
        ⟨e1, own_kept (S := (· = A)) r1 (chg_set (chg_refl _ _) _ _ (fun _ => rfl)) (fun k hk e => n1 (by rw [hk, e])), n1, hle⟩
      have P2 : Hid (Chg (foot A v) W (wr.setCell ⟨A, o + 2, none⟩ (gonV (S * 256 ^ g)))) := chg_set kk _ _ (fun _ => .inl rfl)
      clear e1 hgg g2 hlt hS2 hf hc hm2
      unfold gonV at *
      generalize 4294967295 - S * 256 ^ g = z at *
      have hgi : ((S * 256 ^ g : Nat) : Int) ≤ 4294967295 := by omega
      clear g1 hle
      generalize S * 256 ^ g = T at *
      go_wp2
      go_end0
      refine ⟨rfl, v1, ?_, P2.out, mv⟩
      rw [HT2.out, ← HG.out]
      exact PP.out

theorem narrow_any {F : Value → Value → Value → Array Value} {o : Nat} {t : TypeId} (hF : Fit F o) (A : Nat) (v : Value) (j L R f S : Nat) (W : World) (h : En F t W A v j L R) (hf : f < 4294967296) (hS : 256 ≤ S) (hS2 : S < 4294967296) (hj : j ≤ 100000) :
    Calls Try.prog 31 #[ptrO A o, .int .u32 f, .int .u32 S] W (EnPost F t A v (j + gr S) ((L + f) * 256 ^ gr S) (S * 256 ^ gr S) W) := by
  rcases Nat.lt_or_ge (L % 4294967296 + f) 4294967296 with hc | hc
  · exact narrow_flat hF A v j L R f S W h hf hS hS2 hj hc
  · exact narrow_carry hF A v j L R f S W h hf hS hS2 hj hc
end Go.Proofs.Ytbmjehpkcelogaa
