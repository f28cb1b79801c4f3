/-
  The reference's Lengths are those of the splits.
-/
import Derived.Test.YtlkebkchbgpnpaaRs
import Derived.Deep.CutRange
import Derived.BigRegion
import Derived.Deep.RegionLaw
import Derived.Deep.RegionWith
namespace Go.Proofs.Ytlkebkchbgpnpaa
open Go.ChangeShapes Go.WideShapes Go.ChangeAt Go.RowKit
open Go.ChangeMaps (open_string shut_string)

/-- What is known ahead of the reference's work: the result's block, the row of lengths, the order. -/
def Pre (w : World) (f : List Int) (limit : Nat) (o : List Nat) (ov : Value) (w3 : World) : Prop :=
  Ordered f 65 o ∧ Blk w3 w.heap.size #[.slice none 0 0, .int .i64 0] 45 ∧ w3.ownsRow 0 3 1 (.slice (some ⟨w.heap.size + 1, 0, none⟩) 65 65) 65 (ni (List.replicate 65 0)) ∧ w3.ownsRow (w.heap.size + 2) 3 1 ov o.length (nis o) ∧ Below w.heap.size w w3 ∧ w.heap.size + 2 ≤ w3.heap.size ∧ 7 ≤ limit ∧ limit ≤ 15 ∧ (∀ z ∈ f, 0 ≤ z ∧ z ≤ 16777216)
def RPost (w : World) (f : List Int) (limit : Nat) (e : Ending) (w' : World) : Prop := ∃ v o r, e = .returned (.agg #[v, .int .i64 0]) ∧ Ordered f 65 o ∧ Ranks f limit o r ∧ w'.ownsRow w.heap.size 3 1 v 65 (ni (put o r)) ∧ Below w.heap.size w w'
def L2Rel (w3 : World) (A KB SB limit N N1 : Nat) (c : List Nat) (sv : Value) (wr : World) : Prop :=
  ∃ (i : Nat) (fv : Value), i ≤ N ∧ sv = .int .i64 i ∧ B2 w3 A KB SB limit N1 fv (c.take i) (KZ N1) wr
def L3Rel (w3 : World) (A KB SB limit N N1 : Nat) (fv : Value) (c : List Nat) (sv : Value) (wr : World) : Prop :=
  ∃ j : Nat, j ≤ N ∧ sv = .int .i64 ((j : Int) - 1) ∧ B2 w3 A KB SB limit N1 fv c (SM c.reverse N j) wr
theorem cs_sum {f : List Int} {o : List Nat} (h : Ordered f 65 o) (hb : ∀ z ∈ f, 0 ≤ z ∧ z ≤ 16777216) (hl : f.length = 65) : (cs f o).reverse.sum ≤ 1090519040 := by
  have hle : ∀ (l : List Nat), (∀ x ∈ l, x ≤ 16777216) → l.sum ≤ l.length * 16777216 := fun l => by
    induction l with
    | nil => intro _; simp
    | cons x l ih =>
      intro hx
      have := ih (fun y hy => hx y (List.mem_cons_of_mem _ hy))
      have := hx x List.mem_cons_self
      rw [List.sum_cons, List.length_cons, Nat.add_mul]; omega
  have h1 := hle (cs f o).reverse (fun x hx => by
    obtain ⟨p, hp, rfl⟩ := List.mem_map.1 (List.mem_reverse.1 hx)
    have h2 := ((ordered_mem h p).1 hp).1
    rw [fr_at f p (by omega)]
    have := hb _ (List.getElem_mem (by omega : p < f.length))
    omega)
  rw [List.length_reverse, cs_len] at h1
  have := ordered_len h
  omega
def L4Rel (w w5 : World) (s full o : List Nat) (A : Nat) (af : Option Addr) (cf limit N KB SB : Nat) (fv ov lv : Value) (wr : World) : Prop :=
  ∃ l f op : Nat, fv = .int .i64 f ∧ ov = .int .i64 op ∧ lv = .int .i64 l ∧ f ≤ N ∧ Lvl s full limit N l f op ∧ Bst wr A af cf limit N KB SB s (SM s N 0) ∧
    wr.ownsRow 0 3 1 (.slice (some ⟨w.heap.size + 1, 0, none⟩) 65 65) 65 (ni (put (o.take f) ((vec N full).take f))) ∧ Chg (fun k => k = KB ∨ k = w.heap.size + 1) w5 wr
def L5Rel (s : List Nat) (A : Nat) (af : Option Addr) (cf limit N KB SB t0 op : Nat) (w6 : World) (sv : Value) (wr : World) : Prop :=
  ∃ t : Nat, t0 ≤ t ∧ t ≤ op ∧ sv = .int .i64 t ∧ Bst wr A af cf limit N KB SB s (SM s N 0) ∧ Chg (· = KB) w6 wr
def L6Rel (w wX : World) (o full : List Nat) (N f0 t0 : Nat) (sv : Value) (wr : World) : Prop :=
  ∃ i : Nat, i ≤ t0 ∧ sv = .int .i64 i ∧ wr.ownsRow 0 3 1 (.slice (some ⟨w.heap.size + 1, 0, none⟩) 65 65) 65 (ni (put (o.take (f0 + i)) ((vec N full).take (f0 + i)))) ∧ Chg (· = w.heap.size + 1) wX wr
theorem bst_other {W W' : World} {A B : Nat} {af : Option Addr} {cf limit N KB SB : Nat} {s : List Nat} {sm : List Int} (h : Bst W A af cf limit N KB SB s sm) (c : Chg (· = B) W W') (hA : B ≠ A) (hK : B ≠ KB) (hS : B ≠ SB) : Bst W' A af cf limit N KB SB s sm := by
  obtain ⟨h1, ⟨kl, h2, h3⟩, h4, h5, h6⟩ := h
  exact ⟨blk_kept h1 c (fun e => hA e.symm), ⟨kl, own_kept h2 c (fun k hk e => by simp [Value.ownBlock] at hk; omega), h3⟩, own_kept h4 c (fun k hk e => by simp [Value.ownBlock] at hk; omega), h5, h6⟩
theorem ranks_few {f : List Int} {limit : Nat} {o : List Nat} (h : o.length < 2) : Ranks f limit o (List.replicate o.length 1) :=
  ⟨by simp, fun e => by rw [e]; rfl, fun h2 => by omega⟩
set_option maxRecDepth 100000 in
set_option maxHeartbeats 4000000 in
theorem rlengths_yes (a : Option Addr) (cap : Nat) (f : List Int) (limit : Nat) (w : World) (h : RI w a 65 f) (hm : mayB f 65 (limit : Int) = true) :
    Calls Try.prog 18 #[.slice a 65 cap, .int .i64 (limit : Int)] w fun e w' => RPost w f limit e w' := by
  obtain ⟨_, hfb, h7, h15⟩ := mayB_facts hm
  have hl := h.1
  have b1 : Below w.heap.size w (w.alloc (.cells #[.slice none 0 0, .int .i64 0] 45)) := (Below.refl _ _).alloc (Nat.le_refl _) _
  have bk := blk_new w #[.slice none 0 0, .int .i64 0] 45
  have sz1 : (w.alloc (.cells #[.slice none 0 0, .int .i64 0] 45)).heap.size = w.heap.size + 1 := by simp
  have ri1 := ri_below h b1
  obtain ⟨w1, hw1⟩ : ∃ w1, w.alloc (.cells #[.slice none 0 0, .int .i64 0] 45) = w1 := ⟨_, rfl⟩
  rw [hw1] at b1 bk sz1 ri1
  have mk := make_ints 23 3 Try.underlying23 info3 65 (by omega) w1
  rw [show ((65 : Nat) : Int) = 65 from rfl] at mk
  have om := own_made_ints w1 3 65 (by omega)
  have b2 : Below w1.heap.size w1 (w1.alloc (.cells (madeCells #[.int .i64 0] 65) 3)) := (Below.refl _ _).alloc (Nat.le_refl _) _
  have sz2 : (w1.alloc (.cells (madeCells #[.int .i64 0] 65) 3)).heap.size = w1.heap.size + 1 := by simp
  obtain ⟨w2, hw2⟩ : ∃ w2, w1.alloc (.cells (madeCells #[.int .i64 0] 65) 3) = w2 := ⟨_, rfl⟩
  rw [hw2] at mk om b2 sz2
  have RO := rorder_any a 65 cap f w2 (ri_below ri1 b2) (fun z hz => by have := hfb z hz; omega) (by omega)
  have HP : Hid (∀ ov o w3, Ordered f 65 o → w3.ownsRow w2.heap.size 3 1 ov o.length (nis o) → Below w2.heap.size w2 w3 → Pre w f limit o ov w3) := fun ov o w3 k1 k2 k3 => by
    have z0 : ivs (List.replicate 65 0) = ni (List.replicate 65 0) := by simp [ni]
    rw [z0, sz1] at om
    rw [sz1] at sz2 b2
    have e2 : w2.heap.size = w.heap.size + 2 := by omega
    rw [e2] at k2 k3
    refine ⟨k1, blk_below (blk_below bk b2 (by omega)) k3 (by omega), own_low (own_below om k3 (fun k hk => by simp [Value.ownBlock] at hk; omega)) (Nat.zero_le _), k2, (b1.trans (b2.mono (by omega))).trans (k3.mono (by omega)), by have := k3.size; omega, by omega, by omega, hfb⟩
  have RI1 := Hid.intro ri1
  have HRI0 := Hid.intro h
  have HFB := Hid.intro hfb
  have HL := Hid.intro hl
  have HW1 := Hid.intro hw1
  clear hm b1 bk ri1 om b2 sz2 hw2 hfb hl h
  go_enter Try.func18, Try.ntmps18
  go_wp2_with fail
  clear HW1 hw1
  go_loopw [5] (fun sv wr => RdRel 65 w1 sv wr) (fun sv _ => 65 - (intOf sv).toNat)
  case atStart => exact ⟨0, by omega, rfl, rfl⟩
  case round =>
    obtain ⟨i, hi, rfl, rfl⟩ := hrel
    by_cases hlt : i < 65
    · have hif : i < f.length := by rw [HL.out]; exact hlt
      obtain ⟨x, rfl, hxc⟩ := RI1.out.2 (by omega)
      have cx := hxc i hif
      have fb := HFB.out f[i] (List.getElem_mem hif)
      generalize f[i] = z at *
      clear hxc mk RO sz1
      go_wp2_with fail
      go_roundw
      case rel => exact ⟨i + 1, by omega, by go_num, rfl⟩
      case measure => simp [intOf]; omega
    · go_wp2_with fail
      with_reducible refine RO.mono ?_
      rintro e w3 ⟨ov, o, rfl, k1, k2, k3⟩
      have PR := Hid.intro (HP.out ov o w3 k1 k2 k3)
      obtain ⟨ao, co, hov⟩ : ∃ ao co, ov = .slice ao o.length co := by
        rcases k2.2 with ⟨hv, h0⟩ | ⟨g9, c9, cur, hv, _⟩
        · exact ⟨none, 0, by rw [hv, h0]⟩
        · exact ⟨_, c9, hv⟩
      subst hov
      have hol := ordered_len k1
      clear RO HP mk k1 k2 k3 RI1
      have HRI := HRI0
      clear HRI0
      clear sz1
      by_cases hN : o.length < 2
      · rcases (by omega : o.length = 0 ∨ o.length = 1) with h0 | h0
        · have ho : o = [] := List.eq_nil_of_length_eq_zero h0
          subst ho
          obtain ⟨p1, p2, p3, p4, p5, p6, _⟩ := PR.out
          have c0 : w3.cell? ⟨w.heap.size, 0, none⟩ = some (.slice none 0 0) := by rw [blk_cell p2]; rfl
          have c1 : w3.cell? ⟨w.heap.size, 1, none⟩ = some (.int .i64 0) := by rw [blk_cell p2]; rfl
          have f0 := blk_free p2 0
          have f1 := blk_free p2 1
          obtain ⟨q1, q2, q3⟩ := res_bad w w3 p5 p2 (.slice (some ⟨w.heap.size + 1, 0, none⟩) 65 65) (.int .i64 0)
          have R : Hid (((w3.setCell ⟨w.heap.size, 0, none⟩ (.slice (some ⟨w.heap.size + 1, 0, none⟩) 65 65)).setCell ⟨w.heap.size, 1, none⟩ (.int .i64 0)).ownsRow w.heap.size 3 1 (.slice (some ⟨w.heap.size + 1, 0, none⟩) 65 65) 65 (ni (put [] []))) :=
            own_up (own_kept (S := (· = w.heap.size)) p3 (chg_in (chg_in (chg_refl _ _) _ _) _ _) (fun k hk e => by simp [Value.ownBlock] at hk; omega)) (fun k hk => by simp [Value.ownBlock] at hk; omega)
          have HO := Hid.intro p1
          have Q1 := Hid.intro q1
          clear p1 p2 p3 p4 p5 p6 q1
          simp only [List.length_nil]
          go_wp2_with fail
          refine bodyPost_ret (v := .agg #[.slice (some ⟨w.heap.size + 1, 0, none⟩) 65 65, .int .i64 0]) (by simp [results, Try.results18, go_sem, q2, q3]) rfl ⟨_, [], [], rfl, HO.out, ranks_few (by simp), R.out, Q1.out⟩
        · obtain ⟨p, rfl⟩ : ∃ p, o = [p] := List.length_eq_one_iff.1 h0
          obtain ⟨p1, p2, p3, p4, p5, p6, _⟩ := PR.out
          have hp65 : p < 65 := ((ordered_mem p1 p).1 (by simp)).1
          obtain ⟨bo, co', hvo⟩ := own_slice p4 (by simp)
          injection hvo with hvo _ _
          subst hvo
          have hbo := p4.lt bo rfl
          have co0 : w3.cell? ⟨bo, 0, none⟩ = some (.int .i64 (p : Int)) := (own_there p4 0 (by simp)).1
          obtain ⟨u, hu, fu⟩ := own_one p3 p hp65
          have cc : Chg (· = w.heap.size + 1) w3 (w3.setCell ⟨w.heap.size + 1, p, none⟩ (.int .i64 1)) := chg_in (chg_refl _ _) _ _
          have o3 := own_set p3 p (.int .i64 ((1 : Nat) : Int))
          rw [ni_set] at o3
          have p2' := blk_kept p2 cc (by omega)
          have p5' := p5.trans (chg_below cc p5.size (fun k hk => by omega))
          obtain ⟨w4, hw4⟩ : ∃ w4, w3.setCell ⟨w.heap.size + 1, p, none⟩ (.int .i64 1) = w4 := ⟨_, rfl⟩
          have o3' : w4.ownsRow 0 3 1 (.slice (some ⟨w.heap.size + 1, 0, none⟩) 65 65) 65 (ni (put [p] [1])) := by rw [← hw4]; exact o3
          rw [hw4] at p2' p5'
          have c0 : w4.cell? ⟨w.heap.size, 0, none⟩ = some (.slice none 0 0) := by rw [blk_cell p2']; rfl
          have c1 : w4.cell? ⟨w.heap.size, 1, none⟩ = some (.int .i64 0) := by rw [blk_cell p2']; rfl
          have f0 := blk_free p2' 0
          have f1 := blk_free p2' 1
          obtain ⟨q1, q2, q3⟩ := res_bad w w4 p5' p2' (.slice (some ⟨w.heap.size + 1, 0, none⟩) 65 65) (.int .i64 0)
          have R : Hid (((w4.setCell ⟨w.heap.size, 0, none⟩ (.slice (some ⟨w.heap.size + 1, 0, none⟩) 65 65)).setCell ⟨w.heap.size, 1, none⟩ (.int .i64 0)).ownsRow w.heap.size 3 1 (.slice (some ⟨w.heap.size + 1, 0, none⟩) 65 65) 65 (ni (put [p] [1]))) :=
            own_up (own_kept (S := (· = w.heap.size)) o3' (chg_in (chg_in (chg_refl _ _) _ _) _ _) (fun k hk e => by simp [Value.ownBlock] at hk; omega)) (fun k hk => by simp [Value.ownBlock] at hk; omega)
          have HO := Hid.intro p1
          have Q1 := Hid.intro q1
          clear p1 p2 p3 p4 p5 p6 q1 cc o3 o3' p2' p5' PR
          simp only [List.length_cons, List.length_nil, Nat.zero_add]
          go_wp2_with fail
          refine bodyPost_ret (v := .agg #[.slice (some ⟨w.heap.size + 1, 0, none⟩) 65 65, .int .i64 0]) (by simp [results, Try.results18, go_sem, q2, q3]) rfl ⟨_, [p], [1], rfl, HO.out, ranks_few (by simp), R.out, Q1.out⟩
      · obtain ⟨N, hNo⟩ : ∃ N, o.length = N := ⟨_, rfl⟩
        have h2 : 2 ≤ N := by omega
        have hN65 : N ≤ 65 := by omega
        rw [hNo]
        have HNO := Hid.intro hNo
        have hN1 : (N : Int) + 1 = ((N + 1 : Nat) : Int) := by omega
        obtain ⟨N1, hN1'⟩ : ∃ N1 : Nat, N + 1 = N1 := ⟨_, rfl⟩
        rw [hN1'] at hN1
        have t1 : ((N : Int) == 1) = false := by simp; omega
        obtain ⟨bo, hao⟩ : ∃ bo, ao = some ⟨bo, 0, none⟩ := by
          obtain ⟨b9, c9, hv9⟩ := own_slice PR.out.2.2.2.1 (by omega)
          injection hv9 with hv9 _ _
          exact ⟨b9, hv9⟩
        subst hao
        clear hN hNo hol
        have hN1k : N1 ≤ 1000 := by omega
        have HN1 := Hid.intro hN1'
        have HSB : Hid ((cs f o).reverse.sum ≤ 1090519040) := cs_sum PR.out.1 PR.out.2.2.2.2.2.2.2.2 (by rw [HL.out])
        clear hN1'
        go_upto_region 14 with fail
        go_cut [8] from 65 to 72 (fun s8 wx => CutB w3 limit N1 s8 wx)
        case first =>
          have mkb := make_big
          have mks := make_ints 23 3 Try.underlying23 info3 N1 (by omega)
          have K1 := Hid.intro (cutB_1 w3 limit N1 hN1k)
          have K2 := Hid.intro (cutB_2 w3 limit N1 hN1k)
          go_region
          all_goals
            go_wp2_with fail
            go_meet
            first | (with_reducible exact K1.out) | (with_reducible exact K2.out)
        case rest =>
          obtain ⟨A, KB, SB, rfl, hb2⟩ := hcut
          have HB2 := Hid.intro hb2
          clear hb2 t1 hN1
          go_wp2_with fail
          go_loopw [9] (fun sv wr => L2Rel w3 A KB SB limit N N1 (cs f o) sv wr) (fun sv _ => N - (intOf sv).toNat)
          case atStart => exact ⟨0, _, by omega, rfl, HB2.out⟩
          case round =>
            clear HB2
            obtain ⟨i2, fv, hi2, rfl, d1⟩ := hrel
            obtain ⟨p1, p2, p3, p4, p5, p6, _, _, pfb⟩ := PR.out
            have hNO := HNO.out
            rw [hNO] at p4
            by_cases hlt2 : i2 < N
            · obtain ⟨i0, hi0, hz0, hs0, hb0⟩ := info_all info3
              have hio : i2 < o.length := by omega
              have omm := (ordered_mem p1 (g o i2)).1 (g_mem o i2 hio)
              have bw3 := d1.2.2.2.2.2.2.2.2.2.2.2
              have p4' := own_later p4 bw3
              have co1 : wr.cell? ⟨bo, i2, none⟩ = some (.int .i64 (g o i2 : Int)) := by
                rw [(own_there p4' i2 (by omega)).1, g_eq o i2 hio]; simp [nis, ivs, iv, hio]
              have hfl := HL.out
              obtain ⟨x, hx, hxc⟩ := HRI.out.2 (by omega)
              subst hx
              have cx0 := hxc (g o i2) (by omega)
              have bww : Below w.heap.size w wr := p5.trans (bw3.mono (by omega))
              have fb := pfb _ (List.getElem_mem (by omega : g o i2 < f.length))
              obtain ⟨z, hz⟩ : ∃ z : Nat, f[g o i2]'(by omega) = (z : Int) := ⟨(f[g o i2]'(by omega)).toNat, by omega⟩
              have cx : wr.cell? (x.add (g o i2)) = some (.int .i64 (z : Int)) := by rw [bww.cell (World.block_lt_of_cell? _ _ cx0), cx0, hz]
              have hzc : (cs f o).take (i2 + 1) = (cs f o).take i2 ++ [z] := by
                rw [List.take_succ_eq_append_getElem (by rw [cs_len]; exact hio)]
                congr 2
                have e1 := cs_at f o i2 hio
                unfold at0 at e1
                rw [List.getD_eq_getElem?_getD, List.getElem?_eq_getElem (by rw [cs_len]; exact hio), fr_at f _ (by omega), hz] at e1
                exact e1
              have hlen : ((cs f o).take i2).length = i2 := by rw [List.length_take, cs_len]; omega
              have z16 : z ≤ 16777216 := by omega
              have ac0 : wr.cell? ⟨A, 0, none⟩ = some fv := by rw [blk_cell d1.1]; rfl
              have o4 : (wr.drew.alloc (.cells #[.int .i64 (z : Int)] 3)).ownsRow 0 3 1 fv ((cs f o).take i2).length (ni ((cs f o).take i2)) := World.ownsRow.alloc (own_drew d1.2.2.2.1) _
              have bA : Blk (wr.drew.alloc (.cells #[.int .i64 (z : Int)] 3)) A _ 98 := blk_alloc (blk_drew d1.1) _
              have nA : fv.ownBlock ≠ some A := fun e => (d1.2.2.2.2.1 A e).2.1 rfl
              have D1 := Hid.intro d1
              have ltA := blk_lt d1.1
              have HZC := Hid.intro hzc
              have g65 : g o i2 < 65 := omm.1
              have gfl : g o i2 < f.length := by omega
              clear p1 p2 p3 p4 p4' p5 p6 bw3 bww cx0 hxc hz hzc fb d1 omm pfb hfl hio
              generalize g o i2 = y at *
              generalize (cs f o).take i2 = fl at *
              have hyi : (y : Int) < 65 := by omega
              have hyi0 : (0 : Int) ≤ (y : Int) := by omega
              have hii : (i2 : Int) < (N : Int) := by omega
              have hii0 : (0 : Int) ≤ (i2 : Int) := by omega
              go_wp2_with fail
              go_region_law (refine step_push rfl (.tmp 83) (.tmp 91) 23 rfl 3 i0 (.int .i64 0) 1 8 Try.underlying23 hi0 hz0 hs0 hb0 rfl (by decide) (by decide) fv fl.length (ni fl) rfl o4 ⟨wr.heap.size, 0, none⟩ 1 1 [.int .i64 (z : Int)] rfl rfl (cell_one_new _ _ _) (by intro u hu; simp at hu; subst hu; rfl) (by omega) ?_; intro v5 w5 g1 g2 g3; have bA5 := blk_grown bA g2 (fun e => nA e.symm); have a50 : w5.cell? ⟨A, 0, none⟩ = some fv := (by rw [blk_cell bA5]; rfl); have a5f := blk_free bA5 0; have R := Hid.intro (b2_push D1.out g1 g2 g3); obtain ⟨b5, cap5, rfl⟩ := own_slice g1 (Nat.succ_pos _); clear g1 g2 g3 bA5)
              all_goals
                go_wp2_with fail
                go_roundw
                case rel => exact ⟨i2 + 1, _, by omega, by go_num, by rw [HZC.out]; have r := R.out; rw [hlen] at r; exact r⟩
                case measure => simp [intOf]; omega
            · obtain rfl : i2 = N := by omega
              rw [List.take_of_length_le (by rw [cs_len]; omega)] at d1
              have hcl : (cs f o).length = i2 := by rw [cs_len]; exact hNO
              have hN1 := HN1.out
              have e4 := d1.2.2.2.1
              obtain ⟨bf, cf, hfv⟩ := own_slice e4 (by omega)
              subst hfv
              rw [hcl] at d1
              have ST : Hid (L3Rel w3 A KB SB limit i2 N1 (.slice (some ⟨bf, 0, none⟩) i2 cf) (cs f o) (.int .i64 ((i2 : Int) - 1)) wr) := ⟨i2, by omega, rfl, by rw [sm_top, hN1]; exact d1⟩
              clear d1 e4 p1 p2 p3 p4 p5 p6 pfb
              go_wp2_with fail
              go_loopw [10] (fun sv wr => L3Rel w3 A KB SB limit i2 N1 (.slice (some ⟨bf, 0, none⟩) i2 cf) (cs f o) sv wr) (fun sv _ => (intOf sv + 1).toNat)
              case atStart => exact ST.out
              case round =>
                clear ST
                obtain ⟨j, hj, rfl, d1⟩ := hrel
                by_cases hj0 : j = 0
                · subst hj0
                  have e0 : ((0 : Nat) : Int) - 1 = -1 := rfl
                  simp only [e0]
                  clear e0
                  obtain ⟨p1, p2, p3, p4, p5, p6, l7, l15, pfb⟩ := PR.out
                  have hrs := cs_rising p1
                  have hps := cs_pos' p1
                  have lrs : (cs f o).reverse.length = i2 := by rw [List.length_reverse]; exact hcl
                  obtain ⟨full, hch⟩ := chain_there (s := (cs f o).reverse) hrs (d := limit) (by omega) l7 l15
                  rw [lrs] at hch
                  have hfl := chain_falls hrs hps _ _ _ hch
                  have ST4 : Hid (L4Rel w wr (cs f o).reverse full o A (some ⟨bf, 0, none⟩) cf limit i2 KB SB (.int .i64 0) (.int .i64 2) (.int .i64 1) wr) := by
                    obtain ⟨c1, c2, c3, c4, c5, c6, c7, c8, c9, c10, c11, c12⟩ := d1
                    rw [← hN1] at c1 c3
                    refine ⟨1, 0, 2, rfl, rfl, rfl, by omega, lvl_start hrs hps lrs h2 (by omega) hch, ⟨c1, ⟨_, c2, kn_kz _ _ _⟩, c3, c9, c11⟩, ?_, chg_refl _ _⟩
                    rw [List.take_zero, List.take_zero]
                    exact own_below p3 c12 (fun k hk => by simp [Value.ownBlock] at hk; omega)
                  have CC := Hid.intro (rcost_all (cs f o).reverse A (some ⟨bf, 0, none⟩) cf limit i2 KB SB (SM (cs f o).reverse i2 0) hN65 l15 HSB.out (fun i hi => by rw [sm_fr _ _ _ _ hi, if_pos (Nat.zero_le _)]))
                  have NE : Hid (w.heap.size + 1 ≠ KB ∧ w.heap.size + 1 ≠ A ∧ w.heap.size + 1 ≠ SB) := by
                    obtain ⟨c1, c2, c3, c4, c5, c6, c7, c8, c9, c10, c11, c12⟩ := d1
                    exact ⟨by omega, by omega, by omega⟩
                  have W5 : Hid (wr.ownsRow (w.heap.size + 2) 3 1 (.slice (some ⟨bo, 0, none⟩) i2 co) i2 (nis o) ∧ Blk wr w.heap.size #[.slice none 0 0, .int .i64 0] 45 ∧ Below w.heap.size w wr ∧ w.heap.size + 2 ≤ KB) := by
                    obtain ⟨c1, c2, c3, c4, c5, c6, c7, c8, c9, c10, c11, c12⟩ := d1
                    rw [hNO] at p4
                    exact ⟨own_later p4 c12, blk_below p2 c12 (by omega), p5.trans (c12.mono (by omega)), by omega⟩
                  have NKO : Hid (∀ k, (Value.slice (some ⟨bo, 0, none⟩) i2 co).ownBlock = some k → k ≠ KB) := fun k hk e => by
                    have h8 := d1.2.2.2.2.2.2.1
                    rw [hNO] at p4
                    have h9 := (p4.lt k hk).2
                    omega
                  have FULL := Hid.intro (And.intro hch (And.intro hfl (And.intro hrs (And.intro hps (And.intro lrs p1)))))
                  have hl15 : limit ≤ 15 := l15
                  clear d1 p1 p2 p3 p4 p5 p6 l7 l15 pfb hch hfl hrs hps lrs
                  obtain ⟨s, hse⟩ : ∃ s, (cs f o).reverse = s := ⟨_, rfl⟩
                  have HSE := Hid.intro hse
                  rw [hse] at ST4 CC FULL HSB
                  clear hse
                  go_wp2_with fail
                  obtain ⟨w5, hw5⟩ : ∃ w5, w5 = wr := ⟨_, rfl⟩
                  rw [← hw5] at W5 ST4 ⊢
                  clear hw5
                  go_loopw [11, 12, 13] (fun fv ov lv wr => L4Rel w w5 s full o A (some ⟨bf, 0, none⟩) cf limit i2 KB SB fv ov lv wr) (fun _ _ lv _ => limit + 2 - (intOf lv).toNat)
                  case atStart => exact ST4.out
                  case round =>
                    clear ST4
                    obtain ⟨l, f0, op, rfl, rfl, rfl, hf0, hlv, hbst, hrow, hch4⟩ := hrel
                    by_cases hlt4 : f0 < i2
                    · obtain ⟨n1, n2, Wv, t0, q1, q2, q3, q4, q5, q6⟩ := lvl_next FULL.out.2.2.1 FULL.out.2.2.2.1 FULL.out.2.1 hlv hlt4
                      have hl1 : 1 ≤ l := by obtain ⟨p9, _, _, _, e9, _⟩ := hlv; omega
                      have C1 := CC.out (limit + 1 - l) l f0 op wr hl1 (by omega) (by omega) (by omega) hbst
                      rw [q1] at C1
                      have C1' : Calls Try.prog 43 #[.pointer (some ⟨A, 0, none⟩), .int .i64 (l : Int), .int .i64 (f0 : Int), .int .i64 (op : Int)] wr fun e W' => e = .returned (.int .i64 (Wv : Int)) ∧ Bst W' A (some ⟨bf, 0, none⟩) cf limit i2 KB SB s (SM s i2 0) ∧ Chg (· = KB) wr W' := C1
                      have WB := cst_bd s _ _ _ Wv q1
                      have WB2 : (limit + 1 - l) * s.sum ≤ 15 * 1090519040 := Nat.mul_le_mul (by omega) HSB.out
                      have hWv : Wv ≤ 16357785600 := by omega
                      have Q3 := Hid.intro q3
                      have Q4 := Hid.intro q4
                      have Q5 := Hid.intro q5
                      have LN6 := Hid.intro q6
                      have ROW4 := Hid.intro hrow
                      have CH4 := Hid.intro hch4
                      have hop : op ≤ 65 := by omega
                      have hopl : op ≤ i2 - f0 := n2
                      clear C1 WB WB2 q1 q3 q4 q5 q6 hrow hch4 hbst hlv
                      go_wp2_with fail
                      with_reducible refine C1'.mono ?_
                      rintro e w6 ⟨rfl, k1, k2⟩
                      have ST5 : Hid (L5Rel s A (some ⟨bf, 0, none⟩) cf limit i2 KB SB t0 op w6 (.int .i64 (op : Int)) w6) := ⟨op, q2, Nat.le_refl _, rfl, k1, chg_refl _ _⟩
                      have CH6 : Hid (Chg (fun k => k = KB ∨ k = w.heap.size + 1) w5 w6) := chg_trans CH4.out k2 (fun k _ e => .inl e)
                      have ROW6 : Hid (w6.ownsRow 0 3 1 (.slice (some ⟨w.heap.size + 1, 0, none⟩) 65 65) 65 (ni (put (o.take f0) ((vec i2 full).take f0)))) := own_kept ROW4.out k2 (fun k hk e => by simp [Value.ownBlock] at hk; exact NE.out.1 (by omega))
                      clear C1' k1 k2 ROW4 CH4
                      go_wp2_with fail
                      go_loopw [15] (fun sv wr => L5Rel s A (some ⟨bf, 0, none⟩) cf limit i2 KB SB t0 op w6 sv wr) (fun sv _ => (intOf sv).toNat)
                      case atStart => exact ST5.out
                      case round =>
                        clear ST5
                        obtain ⟨t, ht0, hto, rfl, k1, k2⟩ := hrel
                        have FIN : Hid (∀ wX, Bst wX A (some ⟨bf, 0, none⟩) cf limit i2 KB SB s (SM s i2 0) → Chg (· = KB) w6 wX → (Bst wX A (some ⟨bf, 0, none⟩) cf limit i2 KB SB s (SM s i2 0) ∧ Chg (fun k => k = KB ∨ k = w.heap.size + 1) w5 wX ∧ wX.ownsRow 0 3 1 (.slice (some ⟨w.heap.size + 1, 0, none⟩) 65 65) 65 (ni (put (o.take f0) ((vec i2 full).take f0))) ∧ wX.ownsRow (w.heap.size + 2) 3 1 (.slice (some ⟨bo, 0, none⟩) i2 co) i2 (nis o))) := fun wX hb hc => by
                          have c7 : Chg (fun k => k = KB ∨ k = w.heap.size + 1) w5 wX := chg_trans CH6.out hc (fun k _ e => .inl e)
                          refine ⟨hb, c7, own_kept ROW6.out hc (fun k hk e => by simp [Value.ownBlock] at hk; exact NE.out.1 (by omega)), own_kept W5.out.1 c7 (fun k hk e => ?_)⟩
                          have hk2 := (W5.out.1.lt k hk).1
                          rcases e with e | e
                          · exact NKO.out k hk e
                          · omega
                        by_cases hz : t = 0
                        · obtain rfl : t0 = t := by omega
                          have ht1 : t0 < 1 := by omega
                          clear hz ht0
                          obtain ⟨bsx, chx, ROWX, ordx⟩ := FIN.out wr k1 k2
                          obtain ⟨wX, hwX⟩ : ∃ wX, wX = wr := ⟨_, rfl⟩
                          have BSX := Hid.intro bsx
                          have CHX := Hid.intro chx
                          have ORDX := Hid.intro ordx
                          rw [← hwX] at BSX CHX ROWX ORDX ⊢
                          clear bsx chx ordx k1 k2 FIN hwX
                          have ST6 : Hid (L6Rel w wX o full i2 f0 t0 (.int .i64 0) wX) := ⟨0, Nat.zero_le _, rfl, ROWX, chg_refl _ _⟩
                          clear ROWX
                          go_wp2_with fail
                          go_loopw [17] (fun sv wr => L6Rel w wX o full i2 f0 t0 sv wr) (fun sv _ => t0 - (intOf sv).toNat)
                          case atStart => exact ST6.out
                          case round =>
                            clear ST6
                            obtain ⟨i6, hi6, rfl, r1, r2⟩ := hrel
                            by_cases hlt6 : i6 < t0
                            · exfalso; omega
                            · obtain rfl : i6 = t0 := by omega
                              have bs6 := bst_other BSX.out r2 NE.out.2.1 NE.out.1 NE.out.2.2
                              have ch6 : Chg (fun k => k = KB ∨ k = w.heap.size + 1) w5 wr := chg_trans CHX.out r2 (fun k _ e => .inr e)
                              have R4 := Hid.intro (And.intro bs6 (And.intro r1 ch6))
                              clear bs6 ch6 r1 r2
                              obtain ⟨y, hy⟩ : ∃ y : Nat, (f0 : Int) + (i6 : Int) = (y : Int) := ⟨f0 + i6, by omega⟩
                              obtain ⟨o1, ho1⟩ : ∃ o1 : Nat, (op : Int) - (i6 : Int) = (o1 : Int) := ⟨op - i6, by omega⟩
                              obtain ⟨o2, ho2⟩ : ∃ o2 : Nat, (2 : Int) * (o1 : Int) = (o2 : Int) := ⟨2 * o1, by omega⟩
                              have e1 : Hid (f0 + i6 = y) := by show f0 + i6 = y; omega
                              have e2 : Hid (2 * (op - i6) = o2) := by show 2 * (op - i6) = o2; omega
                              have o2b : o2 ≤ 1000 := by omega
                              go_wp2_with fail
                              go_roundw
                              case rel => exact ⟨l + 1, y, o2, by first | rfl | go_num, by first | rfl | go_num, by go_num, by have := e1.out; omega, by rw [← e1.out, ← e2.out]; exact Q5.out, R4.out.1, by rw [← e1.out]; exact R4.out.2.1, R4.out.2.2⟩
                              case measure => simp [intOf]; omega
                        · obtain ⟨l1, e1⟩ : ∃ l1 : Nat, (l : Int) + 1 = (l1 : Int) := ⟨l + 1, by omega⟩
                          obtain ⟨f1, e2⟩ : ∃ f1 : Nat, (f0 : Int) + (t : Int) = (f1 : Int) := ⟨f0 + t, by omega⟩
                          obtain ⟨o1, e3⟩ : ∃ o1 : Nat, (op : Int) - (t : Int) = (o1 : Int) := ⟨op - t, by omega⟩
                          obtain ⟨o2, e4⟩ : ∃ o2 : Nat, (2 : Int) * (o1 : Int) = (o2 : Int) := ⟨2 * o1, by omega⟩
                          have C2 := CC.out (limit - l) l1 f1 o2 wr (by omega) (by omega) (by omega) (by omega) k1
                          have hF : Ft s (limit - l) (i2 - f0) op t = (cst s (limit - l) (i2 - f1) o2).map (· + pre s (i2 - f1)) := by
                            unfold Ft
                            rw [show i2 - f0 - t = i2 - f1 by omega, show 2 * (op - t) = o2 by omega]
                          have pb := pre_le s (i2 - f1)
                          have hsb := HSB.out
                          have hf1 : f1 ≤ i2 := by omega
                          have sg := sm_fr s i2 0 f1 hf1
                          rw [if_pos (Nat.zero_le _)] at sg
                          have hltN : (f1 : Int) < ((i2 + 1 : Nat) : Int) := by omega
                          by_cases htt : t = t0
                          · subst htt
                            have q3 := Q3.out
                            rw [hF] at q3
                            obtain ⟨c, hc, hcw⟩ := Option.map_eq_some_iff.1 q3
                            rw [hc] at C2
                            have C2' : Calls Try.prog 43 #[.pointer (some ⟨A, 0, none⟩), .int .i64 (l1 : Int), .int .i64 (f1 : Int), .int .i64 (o2 : Int)] wr fun e W' => e = .returned (.int .i64 (c : Int)) ∧ Bst W' A (some ⟨bf, 0, none⟩) cf limit i2 KB SB s (SM s i2 0) ∧ Chg (· = KB) wr W' := C2
                            generalize pre s (i2 - f1) = p at *
                            have hcw' : (c : Int) + (p : Int) = (Wv : Int) := by omega
                            have tt : ((Wv : Int) == (Wv : Int)) = true := by simp
                            clear C2 hc q3 hF
                            go_wp2_with fail
                            with_reducible refine C2'.mono ?_
                            rintro e w7 ⟨rfl, m1, m2⟩
                            have c3 : w7.cell? ⟨A, 3, none⟩ = some (.slice (some ⟨SB, 0, none⟩) (i2 + 1) (i2 + 1)) := by rw [blk_cell m1.1]; rfl
                            have csm := iv_at m1.2.2.1 f1 (by omega)
                            rw [sg] at csm
                            obtain ⟨bsx, chx, ROWX, ordx⟩ := FIN.out w7 m1 (chg_same k2 m2)
                            have BSX := Hid.intro bsx
                            have CHX := Hid.intro chx
                            have ORDX := Hid.intro ordx
                            clear C2' k1 k2 m1 m2 bsx chx ordx FIN e1 e3 e4 sg hcw
                            have c3x := c3
                            have ST6 : Hid (L6Rel w w7 o full i2 f0 t (.int .i64 0) w7) := ⟨0, Nat.zero_le _, rfl, ROWX, chg_refl _ _⟩
                            clear ROWX
                            go_wp2_with fail
                            go_loopw [17] (fun sv wr => L6Rel w w7 o full i2 f0 t sv wr) (fun sv _ => t - (intOf sv).toNat)
                            case atStart => exact ST6.out
                            case round =>
                              clear ST6
                              obtain ⟨i6, hi6, rfl, r1, r2⟩ := hrel
                              by_cases hlt6 : i6 < t
                              · obtain ⟨y, hy⟩ : ∃ y : Nat, (f0 : Int) + (i6 : Int) = (y : Int) := ⟨f0 + i6, by omega⟩
                                have hyN : y < o.length := by have := HNO.out; omega
                                have hvl : y < (vec i2 full).length := by rw [vec_len]; have := HNO.out; omega
                                have oy65 : o[y] < 65 := ((ordered_mem FULL.out.2.2.2.2.2 o[y]).1 (List.getElem_mem hyN)).1
                                have lvy : (vec i2 full)[y] = l := by
                                  have e := vec_at i2 full y (by rw [vec_len] at hvl; exact hvl)
                                  unfold at0 at e
                                  rw [List.getD_eq_getElem?_getD, List.getElem?_eq_getElem hvl] at e
                                  exact e.trans (LN6.out y (by omega) (by omega))
                                have o6 := own_set r1 o[y] (.int .i64 (l : Int))
                                rw [ni_set, show f0 + i6 = y by omega] at o6
                                have ps := put_step o (vec i2 full) y hyN hvl
                                rw [lvy] at ps
                                rw [← ps] at o6
                                have c6 : Chg (· = w.heap.size + 1) w7 (wr.setCell ⟨w.heap.size + 1, o[y], none⟩ (.int .i64 (l : Int))) := chg_in r2 _ _
                                have R6 := Hid.intro (And.intro o6 c6)
                                obtain ⟨u6, hu6, fu6⟩ := own_one r1 o[y] oy65
                                have oc : wr.cell? ⟨bo, y, none⟩ = some (.int .i64 (o[y] : Int)) := by
                                  have ow := ORDX.out
                                  have hb := ow.lt bo rfl
                                  rw [chg_cell r2 (p := ⟨bo, y, none⟩) (by show ¬ bo = w.heap.size + 1; omega) hb.2, (own_there ow y (by have := HNO.out; omega)).1]
                                  simp [nis, ivs, iv, hyN]
                                have hyi : (y : Int) < (i2 : Int) := by have := HNO.out; omega
                                generalize o[y] = z at *
                                clear r1 r2 o6 c6 ps lvy
                                go_wp2_with fail
                                go_roundw
                                case rel => exact ⟨i6 + 1, by omega, by go_num, by rw [show f0 + (i6 + 1) = y + 1 by omega]; exact R6.out.1, R6.out.2⟩
                                case measure => simp [intOf]; omega
                              · obtain rfl : i6 = t := by omega
                                have bs6 := bst_other BSX.out r2 NE.out.2.1 NE.out.1 NE.out.2.2
                                have ch6 : Chg (fun k => k = KB ∨ k = w.heap.size + 1) w5 wr := chg_trans CHX.out r2 (fun k _ e => .inr e)
                                have R4 := Hid.intro (And.intro bs6 (And.intro r1 ch6))
                                clear bs6 ch6 r1 r2
                                obtain ⟨y, hy⟩ : ∃ y : Nat, (f0 : Int) + (i6 : Int) = (y : Int) := ⟨f0 + i6, by omega⟩
                                obtain ⟨o1, ho1⟩ : ∃ o1 : Nat, (op : Int) - (i6 : Int) = (o1 : Int) := ⟨op - i6, by omega⟩
                                obtain ⟨o2, ho2⟩ : ∃ o2 : Nat, (2 : Int) * (o1 : Int) = (o2 : Int) := ⟨2 * o1, by omega⟩
                                have e1 : Hid (f0 + i6 = y) := by show f0 + i6 = y; omega
                                have e2 : Hid (2 * (op - i6) = o2) := by show 2 * (op - i6) = o2; omega
                                have o2b : o2 ≤ 1000 := by omega
                                go_wp2_with fail
                                go_roundw
                                case rel => exact ⟨l + 1, y, o2, by first | rfl | go_num, by first | rfl | go_num, by go_num, by have := e1.out; omega, by rw [← e1.out, ← e2.out]; exact Q5.out, R4.out.1, by rw [← e1.out]; exact R4.out.2.1, R4.out.2.2⟩
                                case measure => simp [intOf]; omega
                          · have hgt : t0 < t := by omega
                            have q4 := Q4.out t hgt hto
                            rw [hF] at q4
                            cases hc : cst s (limit - l) (i2 - f1) o2 with
                            | none =>
                              rw [hc] at C2
                              have C2' : Calls Try.prog 43 #[.pointer (some ⟨A, 0, none⟩), .int .i64 (l1 : Int), .int .i64 (f1 : Int), .int .i64 (o2 : Int)] wr fun e W' => e = .returned (.int .i64 (-1)) ∧ Bst W' A (some ⟨bf, 0, none⟩) cf limit i2 KB SB s (SM s i2 0) ∧ Chg (· = KB) wr W' := C2
                              clear C2 hc q4 hF sg pb
                              obtain ⟨t9, h9⟩ : ∃ t9 : Nat, (t : Int) - 1 = (t9 : Int) := ⟨t - 1, by omega⟩
                              have h9' : t9 < t := by omega
                              have h9'' : t0 ≤ t9 := by omega
                              go_wp2_with fail
                              with_reducible refine C2'.mono ?_
                              rintro e w7 ⟨rfl, m1, m2⟩
                              clear C2' e1 e2 e3 e4 FIN
                              go_wp2_with fail
                              go_roundw
                              case rel => exact ⟨t9, h9'', by omega, by first | rfl | go_num, m1, chg_same k2 m2⟩
                              case measure => simp [intOf]; omega
                            | some c =>
                              rw [hc] at C2 q4
                              have cb := cst_bd s _ _ _ c hc
                              have cb2 : (limit - l) * s.sum ≤ 15 * 1090519040 := Nat.mul_le_mul (by omega) hsb
                              have C2' : Calls Try.prog 43 #[.pointer (some ⟨A, 0, none⟩), .int .i64 (l1 : Int), .int .i64 (f1 : Int), .int .i64 (o2 : Int)] wr fun e W' => e = .returned (.int .i64 (c : Int)) ∧ Bst W' A (some ⟨bf, 0, none⟩) cf limit i2 KB SB s (SM s i2 0) ∧ Chg (· = KB) wr W' := C2
                              have hne : ¬ c + pre s (i2 - f1) = Wv := fun e => q4 (by rw [← e]; rfl)
                              generalize pre s (i2 - f1) = p at *
                              obtain ⟨y, hy⟩ : ∃ y : Nat, (c : Int) + (p : Int) = (y : Int) := ⟨c + p, by omega⟩
                              have tt : ((y : Int) == (Wv : Int)) = false := by simp; omega
                              have hcb : c ≤ 16357785600 := by omega
                              have hpb : p ≤ 1090519040 := by omega
                              clear C2 hc q4 hF cb cb2
                              obtain ⟨t9, h9⟩ : ∃ t9 : Nat, (t : Int) - 1 = (t9 : Int) := ⟨t - 1, by omega⟩
                              have h9' : t9 < t := by omega
                              have h9'' : t0 ≤ t9 := by omega
                              go_wp2_with fail
                              with_reducible refine C2'.mono ?_
                              rintro e w7 ⟨rfl, m1, m2⟩
                              have c3 : w7.cell? ⟨A, 3, none⟩ = some (.slice (some ⟨SB, 0, none⟩) (i2 + 1) (i2 + 1)) := by rw [blk_cell m1.1]; rfl
                              have csm := iv_at m1.2.2.1 f1 (by omega)
                              rw [sg] at csm
                              clear C2' e1 e3 e4 FIN sg
                              go_wp2_with fail
                              go_roundw
                              case rel => exact ⟨t9, h9'', by omega, by first | rfl | go_num, m1, chg_same k2 m2⟩
                              case measure => simp [intOf]; omega
                    · obtain rfl : f0 = i2 := by omega
                      rw [List.take_of_length_le (by rw [HNO.out]; exact Nat.le_refl _), List.take_of_length_le (by rw [vec_len]; exact Nat.le_refl _)] at hrow
                      obtain ⟨x1, x2, x3, x4⟩ := W5.out
                      have x2' := blk_kept x2 hch4 (fun e => by rcases e with e | e <;> omega)
                      have x3' : Below w.heap.size w wr := x3.trans (chg_below hch4 x3.size (fun k hk => by rcases hk with e | e <;> omega))
                      have c0 : wr.cell? ⟨w.heap.size, 0, none⟩ = some (.slice none 0 0) := by rw [blk_cell x2']; rfl
                      have c1 : wr.cell? ⟨w.heap.size, 1, none⟩ = some (.int .i64 0) := by rw [blk_cell x2']; rfl
                      have fz0 := blk_free x2' 0
                      have fz1 := blk_free x2' 1
                      obtain ⟨q1, q2, q3⟩ := res_bad w wr x3' x2' (.slice (some ⟨w.heap.size + 1, 0, none⟩) 65 65) (.int .i64 0)
                      have R : Hid (((wr.setCell ⟨w.heap.size, 0, none⟩ (.slice (some ⟨w.heap.size + 1, 0, none⟩) 65 65)).setCell ⟨w.heap.size, 1, none⟩ (.int .i64 0)).ownsRow w.heap.size 3 1 (.slice (some ⟨w.heap.size + 1, 0, none⟩) 65 65) 65 (ni (put o (vec f0 full)))) :=
                        own_up (own_kept (S := (· = w.heap.size)) hrow (chg_in (chg_in (chg_refl _ _) _ _) _ _) (fun k hk e => by simp [Value.ownBlock] at hk; omega)) (fun k hk => by simp [Value.ownBlock] at hk; omega)
                      have Q1 := Hid.intro q1
                      have RK : Hid (Ranks f limit o (vec f0 full)) := by
                        have hno := HNO.out
                        refine ⟨by rw [vec_len, hno], fun e => by omega, fun _ => ⟨full, ?_, by rw [hno]⟩⟩
                        rw [hno, HSE.out]
                        exact FULL.out.1
                      clear hrow hch4 hlv hbst x1 x2 x3 x4 x2' x3' q1
                      go_wp2_with fail
                      refine bodyPost_ret (v := .agg #[.slice (some ⟨w.heap.size + 1, 0, none⟩) 65 65, .int .i64 0]) (by simp [results, Try.results18, go_sem, q2, q3]) rfl ⟨_, o, vec f0 full, rfl, FULL.out.2.2.2.2.2, RK.out, R.out, Q1.out⟩
                · obtain ⟨q, hq⟩ : ∃ q, j = q + 1 := ⟨j - 1, by omega⟩
                  subst hq
                  have e1 : ((q + 1 : Nat) : Int) - 1 = (q : Int) := by omega
                  simp only [e1]
                  clear e1 hj0
                  have ac0 : wr.cell? ⟨A, 0, none⟩ = some (.slice (some ⟨bf, 0, none⟩) i2 cf) := by rw [blk_cell d1.1]; rfl
                  have ac3 : wr.cell? ⟨A, 3, none⟩ = some (.slice (some ⟨SB, 0, none⟩) N1 N1) := by rw [blk_cell d1.1]; rfl
                  have sc1 := iv_at d1.2.2.1 (q + 1) (by omega)
                  rw [sm_fr _ _ _ _ (by omega), if_pos (by omega)] at sc1
                  have e4 := d1.2.2.2.1
                  rw [hcl] at e4
                  have fc := ni_cell e4 q (by omega)
                  obtain ⟨u, hu, fu⟩ := own_one d1.2.2.1 q (by omega)
                  have ss := sm_sum (cs f o) i2 q hcl (by omega)
                  have st := sm_step (cs f o).reverse i2 q (by omega)
                  have R := b2_sum d1 q ((pre (cs f o).reverse (i2 - q) : Nat) : Int)
                  rw [st] at R
                  have pb1 := pre_le (cs f o).reverse (i2 - q)
                  have HR := Hid.intro R
                  obtain ⟨y, hy⟩ : ∃ y : Nat, (q : Int) + 1 = (y : Int) := ⟨q + 1, by omega⟩
                  have hy' : q + 1 = y := by omega
                  have hsb := HSB.out
                  generalize pre (cs f o).reverse (i2 - (q + 1)) = p1 at *
                  rw [hy'] at sc1
                  generalize at0 (cs f o) q = p2 at *
                  generalize hp3 : pre (cs f o).reverse (i2 - q) = p3 at *
                  have e5 : (p1 : Int) + (p2 : Int) = (p3 : Int) := by omega
                  have w5 : IntKind.i64.wrap (p3 : Int) = (p3 : Int) := by rw [IntKind.wrap_i64]; omega
                  have w6 : IntKind.i64.wrap (y : Int) = (y : Int) := by rw [IntKind.wrap_i64]; omega
                  have hq0 : (0 : Int) ≤ (q : Int) := by omega
                  have hqi : (q : Int) < (i2 : Int) := by omega
                  have hqn : (q : Int) < (N1 : Int) := by omega
                  have hyn : (y : Int) < (N1 : Int) := by omega
                  have hy0 : (0 : Int) ≤ (y : Int) := by omega
                  clear d1 R st ss e4 hy' pb1 hp3
                  go_wp2_with fail
                  go_region
                  all_goals
                    go_wp2_with fail
                    go_roundw
                    case rel => exact ⟨q, by omega, rfl, HR.out⟩
                    case measure => simp [intOf]
end Go.Proofs.Ytlkebkchbgpnpaa
