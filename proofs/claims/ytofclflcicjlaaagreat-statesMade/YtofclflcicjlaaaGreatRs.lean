/-
  The reference's Spread, of whatever numbers.
-/
import Derived.Test.YtofclflcicjlaaaGreatLy
import Derived.Test.YtofclflcicjlaaaGreatSc
import Derived.Deep.QuietTactic
import Derived.Deep.RegionWith
import Derived.OwnWalk
import Derived.BigQuiet
namespace Go.Proofs.YtofclflcicjlaaaGreat
open Go.ChangeShapes Go.WideShapes Go.ChangeAt Go.RowKit
open Go.ChangeMaps (open_string shut_string)

/-- The reference's row of classes, m of them laid, and the block of its result. -/
def Rp (S O k : Nat) (cl : List Nat) (m : Nat) (w wr : World) : Prop :=
  Blk wr S #[.slice none 0 0, .int .i64 0] 45 ∧ wr.ownsRow 0 3 1 (.slice (some ⟨O, 0, none⟩) (2 ^ k) (2 ^ k)) (2 ^ k) (nis (fill k 0 cl m)) ∧ S < O ∧ Below w.heap.size w wr
theorem rp_set {S O k c p : Nat} {cl : List Nat} {m : Nat} {w wr : World} (h : Rp S O k cl m w wr) (hS : w.heap.size = S) (hp : plc k m = p) (hc : g cl m = c) : Rp S O k cl (m + 1) w (wr.setCell ⟨O, p, none⟩ (.int .i64 (c : Int))) := by
  obtain ⟨h1, h2, h3, h4⟩ := h
  refine ⟨blk_set_other h1 _ _ (by show S ≠ O; omega), ?_, h3, h4.setCell (p := ⟨O, p, none⟩) (by show w.heap.size ≤ O; omega) _⟩
  have := own_set h2 p (.int .i64 (c : Int))
  rw [nis_set] at this
  show World.ownsRow _ _ _ _ _ _ _
  simp only [fill]
  rw [hp, show cl.getD m 0 = c from hc]
  exact this
def RsRel (L : List Nat) (S O k : Nat) (w : World) (av sv : Value) (wr : World) : Prop :=
  ∃ i : Nat, i ≤ 65 ∧ sv = .int .i64 i ∧ av = .int .i64 (plc k (L.take i).sum : Nat) ∧ Rp S O k (cls 0 L) (L.take i).sum w wr
def RsRel2 (L : List Nat) (i x S O k : Nat) (w : World) (av jv : Value) (wr : World) : Prop :=
  ∃ j : Nat, j ≤ x ∧ jv = .int .i64 j ∧ av = .int .i64 (plc k ((L.take i).sum + j) : Nat) ∧ Rp S O k (cls 0 L) ((L.take i).sum + j) w wr
def RsPost (A : Nat × List Nat) (w : World) (e : Ending) (w' : World) : Prop :=
  ∃ v, e = .returned (.agg #[v, .int .i64 (A.1 : Nat)]) ∧ w'.ownsRow w.heap.size 3 1 v A.2.length (nis A.2) ∧ Below w.heap.size w w'
set_option maxRecDepth 100000 in
set_option maxHeartbeats 4000000 in
theorem rspread_any (a : Option Addr) (n cap : Nat) (f : List Int) (z : Int) (w : World) (h : RI w a n f) (hn : n ≤ 1000) :
    Calls Tryz.prog 56 #[.slice a n cap, .int .i64 z] w fun e w' => RsPost (sprA f z) w e w' := by
  have bk := blk_new w #[.slice none 0 0, .int .i64 0] 45
  have b0 : Below w.heap.size w (w.alloc (.cells #[.slice none 0 0, .int .i64 0] 45)) := (Below.refl _ _).alloc (Nat.le_refl _) _
  have sz : (w.alloc (.cells #[.slice none 0 0, .int .i64 0] 45)).heap.size = w.heap.size + 1 := by simp
  have MA := rmay_any a n cap f z _ (ri_below h b0) hn
  by_cases hm : may z f = true
  · obtain ⟨k, L, rfl, rfl, e3, e4, sp⟩ := may_spd hm
    rw [sprA_yes hm, e3, e4]
    rw [hm] at MA
    have hn65 : n = 65 := by rw [← ri_len h, List.length_map, sp.len]
    subst hn65
    obtain ⟨s, hs2, hs8, es, e2, e8, eS, sl, su, u2, u8⟩ := stp_eq k sp.k7 sp.k12
    have HN := Hid.intro h
    have HSP := Hid.intro sp
    have sk : (2 : Int) ^ k = (s : Int) := by rw [← es, Int.natCast_pow]; rfl
    have wk : IntKind.i64.wrap (s : Int) = (s : Int) := by rw [IntKind.wrap_i64]; omega
    have k12 := sp.k12
    clear h hm e3 e4
    go_enter Tryz.func56, Tryz.ntmps56
    go_wp2_with fail
    with_reducible refine MA.mono ?_
    rintro e w1 ⟨rfl, b1⟩
    clear MA
    rw [sz] at b1
    have mk := make_ints 23 3 Tryz.underlying23 info3 s (by omega) w1
    have om := own_made_ints w1 3 s (by omega)
    have bk1 := blk_below bk b1 (by omega)
    have B1 : Below w.heap.size w w1 := b0.trans (b1.mono (by omega))
    obtain ⟨S, hS⟩ : ∃ S, w.heap.size = S := ⟨_, rfl⟩
    have HS := Hid.intro hS
    obtain ⟨O, hO⟩ : ∃ O, w1.heap.size = O := ⟨_, rfl⟩
    have hSO : S < O := by rw [← hO, ← hS]; have := b1.size; omega
    have lk : k < 64 := by omega
    go_wp2_with fail
    obtain ⟨w2, hw2⟩ : ∃ w2, w1.alloc (.cells (madeCells #[.int .i64 0] s) 3) = w2 := ⟨_, rfl⟩
    have R0 : Hid (Rp S O k (cls 0 L) 0 w w2) := by
      refine ⟨?_, ?_, hSO, ?_⟩
      · rw [← hw2, ← hS]; exact blk_alloc bk1 _
      · show World.ownsRow _ _ _ _ _ _ _
        simp only [fill]
        rw [es, ← nis_zero, ← hw2, ← hO]
        exact own_low om (Nat.zero_le _)
      · rw [← hw2]; exact B1.alloc B1.size _
    have ST : Hid (RsRel L S O k w (.int .i64 0) (.int .i64 0) w2) := ⟨0, by omega, rfl, by simp [plc], by simpa using R0.out⟩
    have HR : Hid (∀ wr, Below w.heap.size w wr → ∀ i, i < 65 → ∃ x, a = some x ∧ wr.cell? (x.add i) = some (.int .i64 (g L i : Nat))) := fun wr hw i hi => by
      obtain ⟨x, hx, cx⟩ := ri_fr (ri_below HN.out hw) i hi
      rw [fr_map] at cx
      exact ⟨x, hx, cx⟩
    have HW := Hid.intro hw2
    simp only [hw2]
    have ES := Hid.intro es
    have ESt := Hid.intro eS
    clear bk b0 sz sp b1 mk om bk1 B1 hw2 hO hS R0 es eS
    go_loopw [7, 8] (fun av sv wr => RsRel L S O k w av sv wr) (fun _ sv _ => 65 - (intOf sv).toNat)
    case atStart => exact ST.out
    case round =>
      clear ST
      obtain ⟨i, hi, rfl, rfl, d1⟩ := hrel
      by_cases hlt : i < 65
      · have D1 := Hid.intro d1
        obtain ⟨x, rfl, -⟩ := HR.out wr d1.2.2.2 i hlt
        have hL : i < L.length := by rw [HSP.out.len]; exact hlt
        have T3 : Hid ((L.take (i + 1)).sum = (L.take i).sum + g L i) := sum_take L i hL
        have T4 : Hid ((L.take (i + 1)).sum ≤ s) := by show _ ≤ _; rw [← ES.out, ← HSP.out.sum]; exact sum_take_le L (i + 1)
        have CA : Hid (∀ j, j < g L i → g (cls 0 L) ((L.take i).sum + j) = i) := fun j hj => cls_at L i j hL hj
        have ST2 : Hid (RsRel2 L i (g L i) S O k w (.int .i64 (plc k (L.take i).sum : Nat)) (.int .i64 0) wr) := ⟨0, by omega, rfl, rfl, d1⟩
        generalize hx : g L i = n at *
        have HX := Hid.intro hx
        have GB : n ≤ 4096 := by have := T4.out; have := T3.out; omega
        clear d1 hx hL
        go_wp2_with fail
        have hd : decide ((i : Int) < 65) = true := by simp; omega
        simp only [hd]
        clear hd
        go_loopw [7, 9] (fun av jv wr => RsRel2 L i n S O k w av jv wr) (fun _ jv _ => n - (intOf jv).toNat)
        case atStart => exact ST2.out
        case round =>
          clear ST2 D1
          obtain ⟨j, hj, rfl, rfl, d1⟩ := hrel
          obtain ⟨x', hx', cx⟩ := HR.out wr d1.2.2.2 i hlt
          injection hx' with hx'
          subst hx'
          rw [HX.out] at cx
          have i65 : (i : Int) < 65 := by omega
          have i0 : (0 : Int) ≤ (i : Int) := by omega
          by_cases hjl : j < n
          · obtain ⟨m, hm⟩ : ∃ m, (L.take i).sum + j = m := ⟨_, rfl⟩
            rw [hm] at d1
            obtain ⟨p, hp⟩ : ∃ p, plc k m = p := ⟨_, rfl⟩
            obtain ⟨q, hq, eq, hqs⟩ := plc_step ES.out ESt.out hp (by omega)
            have hps : p < s := by rw [← hp, ← ES.out]; exact plc_lt k m
            have hc : g (cls 0 L) m = i := by rw [← hm]; exact CA.out j hjl
            have D2 : Hid (Rp S O k (cls 0 L) (m + 1) w (wr.setCell ⟨O, p, none⟩ (.int .i64 (i : Int)))) := rp_set d1 HS.out hp hc
            have d12 := d1.2.1
            rw [ES.out] at d12
            obtain ⟨-, cO, fO⟩ := own_there d12 p (by omega)
            obtain ⟨uO, cO⟩ := Option.isSome_iff_exists.1 cO
            have HM := Hid.intro hm
            have HQ := Hid.intro hq
            rw [hm, hp]
            have p0 : (0 : Int) ≤ (p : Int) := by omega
            have ps : (p : Int) < (s : Int) := by omega
            have s0 : ((s : Int) == 0) = false := by simp; omega
            clear d1 d12 hm hp hq hc
            go_wp2_with fail
            go_roundw
            case rel => exact ⟨j + 1, by omega, by go_num, by rw [show (L.take i).sum + (j + 1) = m + 1 from by have := HM.out; omega, HQ.out], by rw [show (L.take i).sum + (j + 1) = m + 1 from by have := HM.out; omega]; exact D2.out⟩
            case measure => simp [intOf]; omega
          · obtain rfl : j = n := by omega
            have D1 := Hid.intro d1
            clear d1
            go_wp2_with fail
            go_roundw
            case rel => exact ⟨i + 1, by omega, by go_num, by rw [T3.out], by rw [T3.out]; exact D1.out⟩
            case measure => simp [intOf]; omega
      · obtain rfl : i = 65 := by omega
        have hLs : (L.take 65).sum = 2 ^ k := by rw [List.take_of_length_le (by rw [HSP.out.len]; omega), HSP.out.sum]
        rw [hLs] at d1
        obtain ⟨d2, d3, d4, d5⟩ := d1
        have c0 : wr.cell? ⟨S, 0, none⟩ = some (.slice none 0 0) := by rw [blk_cell d2]; rfl
        have c1 : wr.cell? ⟨S, 1, none⟩ = some (.int .i64 0) := by rw [blk_cell d2]; rfl
        have f0 := blk_free d2 0
        have f1 := blk_free d2 1
        have Z : Hid (RsPost (0, spr k L) w (.returned (.agg #[.slice (some ⟨O, 0, none⟩) s s, .int .i64 0])) ((wr.setCell ⟨S, 0, none⟩ (.slice (some ⟨O, 0, none⟩) s s)).setCell ⟨S, 1, none⟩ (.int .i64 0))) := by
          refine ⟨_, rfl, ?_, (d5.setCell (p := ⟨S, 0, none⟩) (by rw [← HS.out]; exact Nat.le_refl _) _).setCell (p := ⟨S, 1, none⟩) (by rw [← HS.out]; exact Nat.le_refl _) _⟩
          show World.ownsRow _ _ _ _ _ _ _
          rw [HSP.out.all, ES.out]
          rw [ES.out] at d3
          have := own_up (B := w.heap.size) (own_kept (S := (· = S)) d3 (chg_set (chg_set (chg_refl (· = S) wr) ⟨S, 0, none⟩ (.slice (some ⟨O, 0, none⟩) s s) (fun _ => rfl)) ⟨S, 1, none⟩ (.int .i64 0) (fun _ => rfl)) (fun j hj e => by simp [Value.ownBlock] at hj; omega)) (fun j hj => by simp [Value.ownBlock] at hj; have := HS.out; omega)
          unfold spr
          rw [ES.out]
          exact this
        clear d2 d3 d4 d5 hLs
        go_wp2_with fail
        exact bodyPost_ret (v := .agg #[.slice (some ⟨O, 0, none⟩) s s, .int .i64 0]) (by simp [results, Tryz.results56, go_sem, c0, c1]) rfl Z.out
  · have hm' : may z f = false := by simpa using hm
    rw [sprA_no hm']
    rw [hm'] at MA
    clear h hm
    go_enter Tryz.func56, Tryz.ntmps56
    go_wp2_with fail
    with_reducible refine MA.mono ?_
    rintro e w1 ⟨rfl, b1⟩
    clear MA
    have bk1 := blk_below bk b1 (by omega)
    have B1 : Below w.heap.size w w1 := b0.trans (b1.mono (by omega))
    have c0 : w1.cell? ⟨w.heap.size, 0, none⟩ = some (.slice none 0 0) := by rw [blk_cell bk1]; rfl
    have c1 : w1.cell? ⟨w.heap.size, 1, none⟩ = some (.int .i64 0) := by rw [blk_cell bk1]; rfl
    have f0 := blk_free bk1 0
    have f1 := blk_free bk1 1
    go_wp2_with fail
    have B2 : Below w.heap.size w ((w1.setCell ⟨w.heap.size, 0, none⟩ (.slice none 0 0)).setCell ⟨w.heap.size, 1, none⟩ (.int .i64 3)) := (B1.setCell (p := ⟨w.heap.size, 0, none⟩) (Nat.le_refl _) _).setCell (p := ⟨w.heap.size, 1, none⟩) (Nat.le_refl _) _
    exact bodyPost_ret (v := .agg #[.slice none 0 0, .int .i64 3]) (by simp [results, Tryz.results56, go_sem, c0, c1]) rfl ⟨_, rfl, World.ownsRow_nil _ _ _ _, B2⟩
end Go.Proofs.YtofclflcicjlaaaGreat
