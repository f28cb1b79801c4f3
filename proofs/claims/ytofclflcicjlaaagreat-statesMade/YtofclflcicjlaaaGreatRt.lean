/-
  The reference's Table, of whatever numbers.
-/
import Derived.Test.YtofclflcicjlaaaGreatTl
import Derived.Test.YtofclflcicjlaaaGreatSc
import Derived.Test.YtofclflcicjlaaaGreatRs
import Derived.BigRegion
import Derived.Deep.RegionLaw
import Derived.Deep.QuietTactic
import Derived.Deep.RegionWith
import Derived.OwnWalk
import Derived.BigQuiet
namespace Go.Proofs.YtofclflcicjlaaaGreat
open Go.ChangeShapes Go.WideShapes Go.ChangeAt Go.RowKit
open Go.ChangeMaps (open_string shut_string)

def RtPost (A : Nat × List Tri) (w : World) (e : Ending) (w' : World) : Prop :=
  ∃ v, e = .returned (.agg #[v, .int .i64 (A.1 : Nat)]) ∧ w'.ownsRow w.heap.size 77 3 v A.2.length (cvs A.2) ∧ Below w.heap.size w w'
/-- The reference's table, i cells of it told. -/
def Rq (S X b c1 s N cN k : Nat) (L cs : List Nat) (i : Nat) (v : Value) (w wr : World) : Prop :=
  Blk wr S #[.slice none 0 0, .int .i64 0] 67 ∧ Blk wr X #[.slice (some ⟨b, 0, none⟩) s c1, .int .i64 0] 45 ∧ wr.ownsRow 0 3 1 (.slice (some ⟨b, 0, none⟩) s c1) s (nis cs) ∧
    wr.ownsRow 0 3 1 (.slice (some ⟨N, 0, none⟩) 65 cN) 65 (nis (nxt L cs i)) ∧ wr.ownsRow 0 77 3 v i (cvs (tab k L cs i)) ∧ From (N + 1) v ∧ Below w.heap.size w wr
def RtRel (S X b c1 s N cN k : Nat) (L cs : List Nat) (w : World) (v sv : Value) (wr : World) : Prop :=
  ∃ i : Nat, i ≤ s ∧ sv = .int .i64 i ∧ Rq S X b c1 s N cN k L cs i v w wr
def RtBits (bt k : Nat) (w : World) (bv : Value) (wr : World) : Prop := ∃ b' : Nat, bt ≤ b' ∧ b' ≤ k ∧ bv = .int .i64 b' ∧ wr = w
set_option maxRecDepth 100000 in
set_option maxHeartbeats 4000000 in
theorem rtable_any (a : Option Addr) (n cap : Nat) (f : List Int) (z : Int) (w : World) (h : RI w a n f) (hn : n ≤ 1000) :
    Calls Tryz.prog 24 #[.slice a n cap, .int .i64 z] w fun e w' => RtPost (tabA f z) w e w' := by
  have bk := blk_new w #[.slice none 0 0, .int .i64 0] 67
  have b0 : Below w.heap.size w (w.alloc (.cells #[.slice none 0 0, .int .i64 0] 67)) := (Below.refl _ _).alloc (Nat.le_refl _) _
  have sz : (w.alloc (.cells #[.slice none 0 0, .int .i64 0] 67)).heap.size = w.heap.size + 1 := by simp
  have SP := rspread_any a n cap f z _ (ri_below h b0) hn
  by_cases hm : may z f = true
  · obtain ⟨k, L, rfl, rfl, e3, e4, sp⟩ := may_spd hm
    rw [tabA_yes hm, e3, e4]
    rw [sprA_yes hm, e3, e4] at SP
    have hn65 : n = 65 := by rw [← ri_len h, List.length_map, sp.len]
    subst hn65
    obtain ⟨x, hx, -⟩ := h.2 (by omega)
    subst hx
    obtain ⟨s, hs2, hs8, es, e2, e8, eS, sl, su, u2, u8⟩ := stp_eq k sp.k7 sp.k12
    have HN := Hid.intro h
    have HSP := Hid.intro sp
    have k12 := sp.k12
    rw [es]
    clear h hm e3 e4
    obtain ⟨i0, hi0, hz0, hs0, hb0⟩ := info_all info3
    go_enter Tryz.func24, Tryz.ntmps24
    go_wp2_with fail
    with_reducible refine SP.mono ?_
    rintro e w1 ⟨v1, rfl, o1, b1⟩
    clear SP
    simp only at o1
    rw [sp.all, es] at o1
    obtain ⟨b, c1, rfl⟩ := own_slice o1 (by omega)
    obtain ⟨hb1, hb2⟩ := o1.lt b rfl
    rw [sz] at b1 hb1
    have bk1 := blk_below bk b1 (by omega)
    have B1 : Below w.heap.size w w1 := b0.trans (b1.mono (by omega))
    clear bk b0 sz b1
    have bX := blk_new w1 #[.slice (some ⟨b, 0, none⟩) s c1, .int .i64 0] 45
    obtain ⟨S, hS⟩ : ∃ S, w.heap.size = S := ⟨_, rfl⟩
    obtain ⟨X, hX⟩ : ∃ X, w1.heap.size = X := ⟨_, rfl⟩
    have HS := Hid.intro hS
    have HX := Hid.intro hX
    have szX : Hid ((w1.alloc (.cells #[.slice (some ⟨b, 0, none⟩) s c1, .int .i64 0] 45)).heap.size = X + 1) := by show _ = _; rw [← hX]; simp
    have bS2 := Hid.intro (blk_alloc bk1 (.cells #[.slice (some ⟨b, 0, none⟩) s c1, .int .i64 0] 45))
    have o2 := Hid.intro (World.ownsRow.alloc o1 (.cells #[.slice (some ⟨b, 0, none⟩) s c1, .int .i64 0] 45))
    have B2 : Hid (Below w.heap.size w (w1.alloc (.cells #[.slice (some ⟨b, 0, none⟩) s c1, .int .i64 0] 45))) := B1.alloc B1.size _
    have bX2 := Hid.intro bX
    obtain ⟨w2, hw2⟩ : ∃ w2, w1.alloc (.cells #[.slice (some ⟨b, 0, none⟩) s c1, .int .i64 0] 45) = w2 := ⟨_, rfl⟩
    have c1' : w2.cell? ⟨X, 1, none⟩ = some (.int .i64 0) := by rw [← hw2, ← hX, blk_cell bX]; rfl
    rw [hw2] at szX bS2 o2 B2 bX2
    rw [hS] at bS2
    rw [hX] at bX2 hb2
    have c3 : (w2.alloc (.cells #[] 3)).ownsRow w2.heap.size 3 1 (.slice (some ⟨w2.heap.size, 0, none⟩) 0 0) 0 [] :=
      ⟨by simp, .inr ⟨w2.heap.size, 0, #[], rfl, Nat.le_refl _, blk_new w2 #[] 3, Nat.le_refl _, by decide, by simp, by simp⟩⟩
    have oE := Hid.intro (own_low c3 (Nat.zero_le _))
    have b3 : Below w2.heap.size w2 (w2.alloc (.cells #[] 3)) := (Below.refl _ _).alloc (Nat.le_refl _) _
    have B3 : Hid (Below w.heap.size w (w2.alloc (.cells #[] 3))) := B2.out.trans (b3.mono B2.out.size)
    have NL : Hid ((nis L).length = 65 * 1) := by show _ = _; rw [nis_len, sp.len]
    have LC : Hid (∀ j u, (nis L)[j]? = some u → (w2.alloc (.cells #[] 3)).cell? (x.add j) = some u) := fun j u hu => by
      have hj : j < 65 := by have := (List.getElem?_eq_some_iff.1 hu).1; rw [nis_len, sp.len] at this; exact this
      obtain ⟨x', hx', cx⟩ := ri_fr (ri_below HN.out B3.out) j hj
      injection hx' with hx'
      subst hx'
      rw [fr_map] at cx
      rw [cx, ← hu, nis_get L j (by rw [sp.len]; exact hj)]; rfl
    have W0 : Hid (w2.heap.size = X + 1) := szX
    have oE : Hid ((w2.alloc (.cells #[] 3)).ownsRow 0 3 1 (.slice (some ⟨X + 1, 0, none⟩) 0 0) 0 []) := by rw [W0.out] at oE; exact oE
    have szE : Hid ((w2.alloc (.cells #[] 3)).heap.size = X + 2) := by show _ = _; simp; have := W0.out; omega
    clear bX bk1 o1 B1 b3 c3 sp
    subst hw2
    go_wp2_with (at_builtin; refine wpList_push _ rfl (.tmp 20) (.tmp 21) 23 rfl 3 i0 (.int .i64 0) 1 8 Tryz.underlying23 hi0 hz0 hs0 hb0 rfl (by decide) (by decide) (.slice (some ⟨X + 1, 0, none⟩) 0 0) 0 [] rfl oE.out x 65 cap (nis L) rfl NL.out LC.out (ivs_one _) (by omega) ?_)
    intro v' w4 g1 g2 g3
    have hSX : S < b := by omega
    obtain ⟨N, cN, rfl⟩ := own_slice g1 (by omega)
    have hXN : X < N := by
      rcases g3 N rfl with e | e
      · simp [Value.ownBlock] at e; omega
      · have := szE.out; omega
    have ST : Hid (Rq S X b c1 s N cN k L (spr k L) 0 (.slice none 0 0) w w4) := by
      refine ⟨blk_grown (blk_alloc bS2.out _) g2 (by simp [Value.ownBlock]; omega), blk_grown (blk_alloc bX2.out _) g2 (by simp [Value.ownBlock]), ?_, ?_, ?_, fun j hj => by simp [Value.ownBlock] at hj, below_grown B3.out g2 B3.out.size (fun j hj => by simp [Value.ownBlock] at hj; have := HS.out; omega)⟩
      · exact own_low (own_kept (S := (· = X + 1)) (World.ownsRow.alloc o2.out _) (chg_grown (chg_refl _ _) g2 (fun j hj _ => by simp [Value.ownBlock] at hj; exact hj.symm)) (fun j hj e => by simp [Value.ownBlock] at hj; omega)) (Nat.zero_le _)
      · simpa [nxt] using g1
      · show World.ownsRow _ _ _ _ _ _ _
        rw [show cvs (tab k L (spr k L) 0) = [] from by simp [tab, cvs]]
        exact World.ownsRow_nil _ _ _ _
    have hbN : b < N := by omega
    have hSN : S < N := by omega
    obtain ⟨cs, hcs⟩ : ∃ cs, spr k L = cs := ⟨_, rfl⟩
    rw [hcs] at ST HSP
    have HCS := Hid.intro hcs
    have ES := Hid.intro es
    clear g1 g2 g3 bX2 bS2 o2 B2 B3 oE NL LC W0 szE szX c1' hcs hb1 hS hX HX es
    go_wp2_with fail
    go_loopw [7, 8] (fun v sv wr => RtRel S X b c1 s N cN k L cs w v sv wr) (fun _ sv _ => s - (intOf sv).toNat)
    case atStart => exact ⟨0, by omega, rfl, ST.out⟩
    case round =>
      clear ST
      obtain ⟨i, hi, rfl, d1, d2, d3, d4, d5, d6, d7⟩ := hrel
      by_cases hlt : i < s
      · have him : i < cs.length := by rw [HSP.out.all, ES.out]; exact hlt
        obtain ⟨xl, xu, x0, xk⟩ := xat_bd HSP.out i him
        obtain ⟨y, hy⟩ : ∃ y, xat L cs i = y := ⟨_, rfl⟩
        rw [hy] at xl xu x0 xk
        obtain ⟨bt, nn, s', eb, bk', kb, xn, ks, kn, nb, sn, sb, ex, lk⟩ := bts_num x0 xk k12
        obtain rfl : s' = s := by rw [← kn]; exact ES.out
        obtain ⟨c, hc⟩ : ∃ c, g cs i = c := ⟨_, rfl⟩
        have hc65 := (spd_lt HSP.out (g_mem cs i him)).1
        rw [hc] at hc65
        have C2 : Hid (tab k L cs (i + 1) = tab k L cs i ++ [(c, bt, nn - s')]) := by
          show _ = _
          rw [tab_succ]; unfold cel; rw [hy, ex, eb, hc]
        have xg : g (nxt L cs i) c = y := by rw [← hy]; unfold xat; rw [hc]
        have N2 : Hid (nxt L cs (i + 1) = (nxt L cs i).set c (y + 1)) := by
          show _ = _
          simp only [nxt]
          rw [hc, xg]
        have cc := nis_at d3 i hlt
        rw [hc] at cc
        have cn := nis_at d4 c hc65
        rw [xg] at cn
        have fn := (own_there d4 c (by omega)).2.2
        have cX : wr.cell? ⟨X, 0, none⟩ = some (.slice (some ⟨b, 0, none⟩) s' c1) := by rw [blk_cell d2]; rfl
        have E1 := blk_set_other d1 ⟨N, c, none⟩ (.int .i64 ((y : Int) + 1)) (by show S ≠ N; omega)
        have E2 := blk_set_other d2 ⟨N, c, none⟩ (.int .i64 ((y : Int) + 1)) (by show X ≠ N; omega)
        have Z := chg_set (S := (· = N)) (chg_refl _ wr) ⟨N, c, none⟩ (.int .i64 ((y : Int) + 1)) (fun _ => rfl)
        have E3 := Hid.intro (own_kept d3 Z (fun j hj e => by simp [Value.ownBlock] at hj; omega))
        have E4 : Hid ((wr.setCell ⟨N, c, none⟩ (.int .i64 ((y : Int) + 1))).ownsRow 0 3 1 (.slice (some ⟨N, 0, none⟩) 65 cN) 65 (nis (nxt L cs (i + 1)))) := by
          have := own_set d4 c (.int .i64 ((y + 1 : Nat) : Int))
          rw [nis_set] at this
          show World.ownsRow _ _ _ _ _ _ _
          rw [N2.out]
          exact this
        have E5 := Hid.intro (own_kept d5 Z (fun j hj e => by have := d6 j hj; omega))
        have E7 := Hid.intro (d7.setCell (p := ⟨N, c, none⟩) (by have := HS.out; show w.heap.size ≤ N; omega) (.int .i64 ((y : Int) + 1)))
        have D6 := Hid.intro d6
        have EB := Hid.intro eb
        have y8 : y < 8192 := by have : 2 ^ (k + 1) ≤ 8192 := by rw [Nat.pow_succ]; have := pow_bd k k12; omega
                                 omega
        have i0 : (0 : Int) ≤ (i : Int) := by omega
        have iS : (i : Int) < (s' : Int) := by omega
        have c0 : (0 : Int) ≤ (c : Int) := by omega
        have c65 : (c : Int) < 65 := by omega
        have CC := Hid.intro hc
        clear d1 d2 d3 d4 d5 d6 d7 Z xl xu xk hy him eb ex hc xg
        go_wp2_with fail
        generalize wr.setCell ⟨N, c, none⟩ (.int .i64 ((y : Int) + 1)) = w5 at *
        have LG := Hid.intro lk
        have KB := Hid.intro kb
        have LB : Hid (2 ^ Nat.log2 y ≤ y ∧ y < 2 ^ (Nat.log2 y + 1)) := ⟨(Nat.le_log2 (by omega)).1 (Nat.le_refl _), (Nat.log2_lt (by omega)).1 (Nat.lt_succ_self _)⟩
        clear cc cn fn cX lk kb
        go_loopw [10] (fun bv wr => RtBits bt k w5 bv wr) (fun bv _ => (intOf bv).toNat)
        case atStart => exact ⟨k, bk', Nat.le_refl _, rfl, rfl⟩
        case round =>
          obtain ⟨b', hb1, hb2, rfl, rfl⟩ := hrel
          obtain ⟨d, hd⟩ : ∃ d : Nat, (k : Int) - (b' : Int) = (d : Int) := ⟨k - b', by omega⟩
          obtain ⟨e, he⟩ : ∃ e : Nat, (d : Int) + 1 = (e : Int) := ⟨d + 1, by omega⟩
          obtain ⟨q, hq⟩ : ∃ q : Nat, (y : Int) / 2 ^ e = (q : Int) := ⟨y / 2 ^ e, by rw [Int.natCast_ediv, Int.natCast_pow]; rfl⟩
          have hq2 : y / 2 ^ e = q := by
            have : ((y / 2 ^ e : Nat) : Int) = (q : Int) := by rw [Int.natCast_ediv, Int.natCast_pow]; exact hq
            omega
          have e0 : (0 : Int) ≤ (e : Int) := by omega
          have e64 : e < 64 := by omega
          by_cases hlt2 : bt < b'
          · have q0 : 0 < q := by
              rw [← hq2]
              refine Nat.div_pos ?_ (Nat.two_pow_pos _)
              have : 2 ^ e ≤ 2 ^ Nat.log2 y := Nat.pow_le_pow_right (by omega) (by have := KB.out; omega)
              have := LB.out.1
              omega
            clear hq2
            go_wp2_with fail
            exact ⟨⟨b' - 1, by omega, by omega, by rw [show ((b' : Int) - 1) = ((b' - 1 : Nat) : Int) from by omega], rfl⟩, by simp [intOf]; omega⟩
          · obtain rfl : b' = bt := by omega
            have q0 : q = 0 := by
              rw [← hq2]
              refine Nat.div_eq_of_lt ?_
              have : 2 ^ (Nat.log2 y + 1) ≤ 2 ^ e := Nat.pow_le_pow_right (by omega) (by have := KB.out; omega)
              have := LB.out.2
              omega
            subst q0
            have cX : wr.cell? ⟨X, 0, none⟩ = some (.slice (some ⟨b, 0, none⟩) s' c1) := by rw [blk_cell E2]; rfl
            have cc := nis_at E3.out i hlt
            rw [show g cs i = c from CC.out] at cc
            obtain ⟨dd, hdd⟩ : ∃ dd : Nat, (nn : Int) - (s' : Int) = (dd : Int) := ⟨nn - s', by omega⟩
            have DN : Hid (nn - s' = dd) := by show _ = _; omega
            have wd : IntKind.i64.wrap (dd : Int) = (dd : Int) := by rw [IntKind.wrap_i64]; omega
            have wn : IntKind.i64.wrap (nn : Int) = (nn : Int) := by rw [IntKind.wrap_i64]; omega
            have ws : IntKind.i64.wrap (s' : Int) = (s' : Int) := by rw [IntKind.wrap_i64]; omega
            have b0 : (0 : Int) ≤ (b' : Int) := by omega
            have k0 : (0 : Int) ≤ (k : Int) := by omega
            obtain ⟨j0, hj, hz, hs, hb⟩ := info_all info77
            have E1' := Hid.intro E1
            have E2' := Hid.intro E2
            clear hq2 kn sn E1 E2
            go_wp2_with fail
            clear hd he hq e0 e64 hlt2
            go_region_law (refine step_pushT rfl (.tmp 58) (.tmp 72) 51 rfl 77 j0 (.agg #[.int .i64 0, .int .i64 0, .int .i64 0]) 3 24 Tryz.underlying51 hj hz hs hb rfl (by decide) (by decide) u7 i (cvs (tab k L cs i)) rfl (World.ownsRow.alloc (own_drew E5.out) _) ⟨wr.heap.size, 0, none⟩ 1 1 [.int .i64 (c : Int), .int .i64 (b' : Int), .int .i64 (dd : Int)] rfl rfl (three_new _ _ _ _ _) (by intro u hu; simp at hu; rcases hu with rfl | rfl | rfl <;> rfl) (by omega) ?_; intro v2 w6 g1 g2 g3; have G1 := Hid.intro g1; have G2 := Hid.intro g2; have G3 := Hid.intro g3; clear g1 g2 g3)
            all_goals
              have hSs : w.heap.size = S := HS.out
              have K1 : Below w.heap.size w (wr.alloc (.cells #[.int .i64 (c : Int), .int .i64 (b' : Int), .int .i64 (dd : Int)] 77)).drew := (E7.out.alloc E7.out.size _).drew
              have vS : ∀ j, u7.ownBlock = some j → N + 1 ≤ j := D6.out
              have FV : From (N + 1) v2 := from_moved D6.out G3.out (by have := (E4.out.lt N rfl).2; simp; omega)
              have R : Hid (Rq S X b c1 s' N cN k L cs (i + 1) v2 w w6) := by
                refine ⟨blk_grown (blk_drew (blk_alloc E1'.out _)) G2.out (fun e => by have := vS S e.symm; omega), blk_grown (blk_drew (blk_alloc E2'.out _)) G2.out (fun e => by have := vS X e.symm; omega), ?_, ?_, ?_, FV, below_grown K1 G2.out K1.size (fun j hj => by have := vS j hj; omega)⟩
                · exact own_kept (S := fun j => some j = u7.ownBlock) (own_drew (World.ownsRow.alloc E3.out _)) (chg_grown (chg_refl _ _) G2.out (fun j hj _ => hj.symm)) (fun j hj e => by simp [Value.ownBlock] at hj; subst hj; have := vS b e.symm; omega)
                · exact own_kept (S := fun j => some j = u7.ownBlock) (own_drew (World.ownsRow.alloc E4.out _)) (chg_grown (chg_refl _ _) G2.out (fun j hj _ => hj.symm)) (fun j hj e => by simp [Value.ownBlock] at hj; subst hj; have := vS N e.symm; omega)
                · show World.ownsRow _ _ _ _ _ _ _
                  rw [C2.out, cvs_snoc, DN.out]
                  exact G1.out
              clear K1 vS FV G1 G2 G3 hSs
              go_wp2_with fail
              go_roundw
              case rel => exact ⟨i + 1, by omega, by go_num, R.out⟩
              case measure => simp [intOf]; omega
      · obtain rfl : i = s := by omega
        have cX : wr.cell? ⟨X, 0, none⟩ = some (.slice (some ⟨b, 0, none⟩) i c1) := by rw [blk_cell d2]; rfl
        obtain ⟨bv, cv, rfl⟩ := own_slice d5 (by omega)
        have hbv := d6 bv rfl
        have r0 : wr.cell? ⟨S, 0, none⟩ = some (.slice none 0 0) := by rw [blk_cell d1]; rfl
        have r1 : wr.cell? ⟨S, 1, none⟩ = some (.int .i64 0) := by rw [blk_cell d1]; rfl
        have f0 := blk_free d1 0
        have f1 := blk_free d1 1
        have Z : Hid (RtPost (0, tab k L (spr k L) i) w (.returned (.agg #[.slice (some ⟨bv, 0, none⟩) i cv, .int .i64 0])) ((wr.setCell ⟨S, 0, none⟩ (.slice (some ⟨bv, 0, none⟩) i cv)).setCell ⟨S, 1, none⟩ (.int .i64 0))) := by
          refine ⟨_, rfl, ?_, (d7.setCell (p := ⟨S, 0, none⟩) (by rw [← HS.out]; exact Nat.le_refl _) _).setCell (p := ⟨S, 1, none⟩) (by rw [← HS.out]; exact Nat.le_refl _) _⟩
          show World.ownsRow _ _ _ _ _ _ _
          rw [tab_len, HCS.out]
          exact own_up (B := w.heap.size) (own_kept (S := (· = S)) d5 (chg_set (chg_set (chg_refl (· = S) wr) ⟨S, 0, none⟩ (.slice (some ⟨bv, 0, none⟩) i cv) (fun _ => rfl)) ⟨S, 1, none⟩ (.int .i64 0) (fun _ => rfl)) (fun j hj e => by simp [Value.ownBlock] at hj; omega)) (fun j hj => by simp [Value.ownBlock] at hj; have := HS.out; omega)
        clear d1 d2 d3 d4 d5 d6 d7
        go_wp2_with fail
        exact bodyPost_ret (v := .agg #[.slice (some ⟨bv, 0, none⟩) i cv, .int .i64 0]) (by simp [results, Tryz.results24, go_sem, r0, r1]) rfl Z.out
  · have hm' : may z f = false := by simpa using hm
    rw [tabA_no hm']
    rw [sprA_no hm'] at SP
    clear h hm
    go_enter Tryz.func24, Tryz.ntmps24
    go_wp2_with fail
    with_reducible refine SP.mono ?_
    rintro e w1 ⟨v1, rfl, o1, b1⟩
    clear SP
    simp only [List.length_nil] at o1
    rw [sz] at b1
    obtain ⟨av, cv, rfl, -⟩ := own_ri (zs := []) (by simpa [nis, ivs] using o1)
    have bk1 := blk_below bk b1 (by omega)
    have B1 : Below w.heap.size w w1 := b0.trans (b1.mono (by omega))
    have bX := blk_new w1 #[.slice av 0 cv, .int .i64 3] 45
    have bS2 := blk_alloc bk1 (.cells #[.slice av 0 cv, .int .i64 3] 45)
    have B2 : Below w.heap.size w (w1.alloc (.cells #[.slice av 0 cv, .int .i64 3] 45)) := B1.alloc B1.size _
    have y1 : (w1.alloc (.cells #[.slice av 0 cv, .int .i64 3] 45)).cell? ⟨w1.heap.size, 1, none⟩ = some (.int .i64 3) := by rw [blk_cell bX]; rfl
    have y2 : (w1.alloc (.cells #[.slice av 0 cv, .int .i64 3] 45)).cell? ⟨w.heap.size, 0, none⟩ = some (.slice none 0 0) := by rw [blk_cell bS2]; rfl
    have y3 : (w1.alloc (.cells #[.slice av 0 cv, .int .i64 3] 45)).cell? ⟨w.heap.size, 1, none⟩ = some (.int .i64 0) := by rw [blk_cell bS2]; rfl
    have f2 := blk_free bS2 0
    have f3 := blk_free bS2 1
    have B3 := Hid.intro ((B2.setCell (p := ⟨w.heap.size, 0, none⟩) (Nat.le_refl _) (.slice none 0 0)).setCell (p := ⟨w.heap.size, 1, none⟩) (Nat.le_refl _) (.int .i64 3))
    clear o1 b1 bX bS2 B2
    go_wp2_with fail
    exact bodyPost_ret (v := .agg #[.slice none 0 0, .int .i64 3]) (by simp [results, Tryz.results24, go_sem, y2, y3]) rfl ⟨_, rfl, World.ownsRow_nil _ _ _ _, B3.out⟩
end Go.Proofs.YtofclflcicjlaaaGreat
