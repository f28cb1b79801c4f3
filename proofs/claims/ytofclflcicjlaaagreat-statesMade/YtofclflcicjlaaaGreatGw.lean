/-
  The reference's Get of parts by states.
-/
import Derived.Test.YtofclflcicjlaaaGreatGv
import Derived.WalkKit
import Derived.ProofKit
import Derived.OpenShut
import Derived.Deep.QuietTactic
import Derived.Deep.RegionWith
import Derived.Deep.RegionHeld3
import Derived.OwnWalk
import Derived.ChangeOld
import Derived.Below
import Derived.BigQuiet
namespace Go.Proofs.YtofclflcicjlaaaGreat
open Go.ChangeShapes Go.WideShapes Go.ChangeAt Go.RowKit
open Go.ChangeMaps (open_string shut_string)
set_option linter.unusedVariables false
set_option maxRecDepth 100000 in
set_option maxHeartbeats 8000000 in
theorem rgets_any (s : ByteArray) (n : Int) (a : Option Addr) (n0 cap : Nat) (f : List Int) (z : Int) (w : World) (hs : s.size ≤ 10000) (h : RI w a n0 f) (hn0 : n0 ≤ 1000) :
    Calls Tryz.prog 9 #[.string s, .int .i64 n, .slice a n0 cap, .int .i64 z] w (RgPost (getS f z s.data.toList n) w) := by
  have b1 : Below w.heap.size w (w.alloc (.cells #[.slice none 0 0, .int .i64 0] 34)) := (Below.refl _ _).alloc (Nat.le_refl _) _
  have bk := blk_new w #[.slice none 0 0, .int .i64 0] 34
  have sz1 : (w.alloc (.cells #[.slice none 0 0, .int .i64 0] 34)).heap.size = w.heap.size + 1 := by simp
  have RT := rtable_any a n0 cap f z _ (ri_below h b1) hn0
  by_cases hm : may z f = true
  · obtain ⟨k, L, rfl, rfl, e3, e4, sp⟩ := may_spd hm
    rw [tabA_yes hm, e3, e4] at RT
    obtain ⟨S, hs2, hs8, es, -, -, -, sl, su, -, -⟩ := stp_eq k sp.k7 sp.k12
    have GG : getS (L.map Int.ofNat) k s.data.toList n = if n < 0 ∨ 4096 < n then (1, []) else getB k L (spr k L) s.data.toList n.toNat := by unfold getS; rw [if_pos hm, e3, e4]
    have HSP := Hid.intro sp
    have K12 := sp.k12
    generalize getS (L.map Int.ofNat) k s.data.toList n = gg at *
    obtain ⟨cs, hcs⟩ : ∃ cs, spr k L = cs := ⟨_, rfl⟩
    rw [hcs] at HSP RT GG
    have B1 := Hid.intro b1
    have BK := Hid.intro bk
    have SZ1 := Hid.intro sz1
    clear h hm e3 e4 sp hcs b1 bk sz1
    by_cases hr : n < 0 ∨ 4096 < n
    · rw [if_pos hr] at GG
      have HG := Hid.intro GG
      clear GG
      by_cases h0 : n < 0
      · go_enter Tryz.func9, Tryz.ntmps9
        go_wp2_with fail
        with_reducible refine RT.mono ?_
        rintro e w2 ⟨v, rfl, k1, k2⟩
        simp only at k1
        rw [tab_len, es] at k1
        obtain ⟨b, cp, rfl⟩ := own_slice k1 (by omega)
        have rb := blk_alloc (blk_below BK.out k2 (by rw [SZ1.out]; omega)) (.cells #[.slice (some ⟨b, 0, none⟩) S cp, .int .i64 0] 67)
        have c7 := blk_new w2 #[.slice (some ⟨b, 0, none⟩) S cp, .int .i64 0] 67
        have hb2 := B1.out.trans (k2.mono B1.out.size)
        have hb3 := hb2.alloc hb2.size (.cells #[.slice (some ⟨b, 0, none⟩) S cp, .int .i64 0] 67)
        have x1 : (w2.alloc (.cells #[.slice (some ⟨b, 0, none⟩) S cp, .int .i64 0] 67)).cell? ⟨w2.heap.size, 1, none⟩ = some (.int .i64 0) := by rw [blk_cell c7]; rfl
        obtain ⟨r0, r1, f0, f1⟩ := rb_cells rb
        obtain ⟨q0, q1, q2⟩ := rb_end rb hb3 (.slice none 0 0) (.int .i64 1)
        have Q2 := Hid.intro q2
        clear RT k1 k2 rb c7 hb2 hb3 q2
        go_wp2_with fail
        refine bodyPost_ret (v := .agg #[.slice none 0 0, .int .i64 1]) (by simp [results, Tryz.results9, go_sem, q0, q1]) rfl ?_
        exact rg_none HG.out Q2.out
      · have h1 : 4096 < n := by omega
        go_enter Tryz.func9, Tryz.ntmps9
        go_wp2_with fail
        with_reducible refine RT.mono ?_
        rintro e w2 ⟨v, rfl, k1, k2⟩
        simp only at k1
        rw [tab_len, es] at k1
        obtain ⟨b, cp, rfl⟩ := own_slice k1 (by omega)
        have rb := blk_alloc (blk_below BK.out k2 (by rw [SZ1.out]; omega)) (.cells #[.slice (some ⟨b, 0, none⟩) S cp, .int .i64 0] 67)
        have c7 := blk_new w2 #[.slice (some ⟨b, 0, none⟩) S cp, .int .i64 0] 67
        have hb2 := B1.out.trans (k2.mono B1.out.size)
        have hb3 := hb2.alloc hb2.size (.cells #[.slice (some ⟨b, 0, none⟩) S cp, .int .i64 0] 67)
        have x1 : (w2.alloc (.cells #[.slice (some ⟨b, 0, none⟩) S cp, .int .i64 0] 67)).cell? ⟨w2.heap.size, 1, none⟩ = some (.int .i64 0) := by rw [blk_cell c7]; rfl
        obtain ⟨r0, r1, f0, f1⟩ := rb_cells rb
        obtain ⟨q0, q1, q2⟩ := rb_end rb hb3 (.slice none 0 0) (.int .i64 1)
        have Q2 := Hid.intro q2
        clear RT k1 k2 rb c7 hb2 hb3 q2
        go_wp2_with fail
        refine bodyPost_ret (v := .agg #[.slice none 0 0, .int .i64 1]) (by simp [results, Tryz.results9, go_sem, q0, q1]) rfl ?_
        exact rg_none HG.out Q2.out
    · rw [if_neg hr] at GG
      obtain ⟨m, rfl⟩ : ∃ m : Nat, n = (m : Int) := ⟨n.toNat, by omega⟩
      have hm4 : m ≤ 4096 := by omega
      rw [Int.toNat_natCast] at GG
      have h0 : ¬ ((m : Int) < 0) := by omega
      have h1 : ¬ (4096 < (m : Int)) := by omega
      clear hr
      go_enter Tryz.func9, Tryz.ntmps9
      go_wp2_with fail
      with_reducible refine RT.mono ?_
      rintro e w2 ⟨v, rfl, k1, k2⟩
      simp only at k1
      rw [tab_len, es] at k1
      obtain ⟨b, cp, rfl⟩ := own_slice k1 (by omega)
      have blt := k1.lt b rfl
      have rb := blk_alloc (blk_below BK.out k2 (by rw [SZ1.out]; omega)) (.cells #[.slice (some ⟨b, 0, none⟩) S cp, .int .i64 0] 67)
      have c7 := blk_new w2 #[.slice (some ⟨b, 0, none⟩) S cp, .int .i64 0] 67
      have o3 := World.ownsRow.alloc (own_low k1 (Nat.zero_le _)) (.cells #[.slice (some ⟨b, 0, none⟩) S cp, .int .i64 0] 67)
      have hb2 := B1.out.trans (k2.mono B1.out.size)
      have hb3 := hb2.alloc hb2.size (.cells #[.slice (some ⟨b, 0, none⟩) S cp, .int .i64 0] 67)
      have hlt2 : w.heap.size < w2.heap.size := by have := k2.size; have := SZ1.out; omega
      have x1 : (w2.alloc (.cells #[.slice (some ⟨b, 0, none⟩) S cp, .int .i64 0] 67)).cell? ⟨w2.heap.size, 1, none⟩ = some (.int .i64 0) := by rw [blk_cell c7]; rfl
      have sz3 : (w2.alloc (.cells #[.slice (some ⟨b, 0, none⟩) S cp, .int .i64 0] 67)).heap.size = w2.heap.size + 1 := by simp
      have k3 := blk_new (w2.alloc (.cells #[.slice (some ⟨b, 0, none⟩) S cp, .int .i64 0] 67)) #[.slice none 0 0, .int .i64 3] 34
      rw [sz3] at k3
      have G3 : Hid (G0 w ((w2.alloc (.cells #[.slice (some ⟨b, 0, none⟩) S cp, .int .i64 0] 67)).alloc (.cells #[.slice none 0 0, .int .i64 3] 34)) w2.heap.size (w2.heap.size + 1) b S cp k L cs) := ⟨⟨blk_alloc rb _, blk_alloc c7 _, k3⟩, World.ownsRow.alloc o3 _, hb3.alloc hb3.size _⟩
      have O1 : Hid (w.heap.size < w2.heap.size ∧ w.heap.size ≤ b ∧ b < w2.heap.size ∧ w2.heap.size + 2 ≤ ((w2.alloc (.cells #[.slice (some ⟨b, 0, none⟩) S cp, .int .i64 0] 67)).alloc (.cells #[.slice none 0 0, .int .i64 3] 34)).heap.size) := ⟨hlt2, by have := SZ1.out; omega, blt.2, by simp⟩
      clear RT k1 k2 k3 hb2 hlt2 blt rb c7 o3 hb3 sz3 B1 BK SZ1
      go_wp2_with fail
      generalize (w2.alloc (.cells #[.slice (some ⟨b, 0, none⟩) S cp, .int .i64 0] 67)).alloc (.cells #[.slice none 0 0, .int .i64 3] 34) = w3 at *
      clear x1
      obtain ⟨D, hD⟩ : ∃ D, w2.heap.size + 1 = D := ⟨_, rfl⟩
      generalize w2.heap.size = C7 at *
      have OD : Hid (C7 < D ∧ D < w3.heap.size) := ⟨by omega, by have := O1.out; omega⟩
      rw [hD] at G3 ⊢
      clear hD
      have hle := numb_in s.data.toList
      have hlen : s.data.toList.length = s.size := len_data s
      have RG := refGetv_any s 0 w3 (by omega)
      obtain ⟨⟨x, y, ze⟩, hn⟩ : ∃ t, numb s.data.toList = t := ⟨_, rfl⟩
      rw [hn] at hle
      simp only at hle
      by_cases hz : ze = 0
      · subst hz
        rw [getAt_ok numb s 0 (by omega) (by omega) x y (by simpa using hn)] at RG
        simp only [agg3v, Int.toNat_zero, Nat.zero_add] at RG
        have wr : ((s.size : Int) - (y : Int)) = ((s.size - y : Nat) : Int) := by omega
        obtain ⟨d, hd⟩ : ∃ d, s.size - y = d := ⟨_, rfl⟩
        rw [hd] at wr
        have wd : (d : Int) % 18446744073709551616 = (d : Int) := by omega
        have wd2 : IntKind.u64.wrap (d : Int) = (d : Int) := by simp [IntKind.wrap, IntKind.bits, IntKind.signed]; omega
        have wd3 : IntKind.i64.wrap (d : Int) = (d : Int) := by rw [IntKind.wrap_i64]; omega
        go_wp2_with fail
        with_reducible refine RG.mono ?_
        rintro e w4 ⟨rfl, h4⟩
        have k4 := blk_new w4 #[.int .u64 (x : Int), .int .i64 (y : Int), .int .i64 0] 87
        have v0 : (w4.alloc (.cells #[.int .u64 (x : Int), .int .i64 (y : Int), .int .i64 0] 87)).cell? ⟨w4.heap.size, 0, none⟩ = some (.int .u64 (x : Int)) := by rw [blk_cell k4]; rfl
        have v1 : (w4.alloc (.cells #[.int .u64 (x : Int), .int .i64 (y : Int), .int .i64 0] 87)).cell? ⟨w4.heap.size, 1, none⟩ = some (.int .i64 (y : Int)) := by rw [blk_cell k4]; rfl
        have v2 : (w4.alloc (.cells #[.int .u64 (x : Int), .int .i64 (y : Int), .int .i64 0] 87)).cell? ⟨w4.heap.size, 2, none⟩ = some (.int .i64 0) := by rw [blk_cell k4]; rfl
        have h5 : Below w3.heap.size w3 (w4.alloc (.cells #[.int .u64 (x : Int), .int .i64 (y : Int), .int .i64 0] 87)) := h4.alloc h4.size _
        have G5 := Hid.intro (g0_later G3.out h5)
        have OV : Hid (D < w4.heap.size ∧ w4.heap.size < (w4.alloc (.cells #[.int .u64 (x : Int), .int .i64 (y : Int), .int .i64 0] 87)).heap.size) := ⟨by have := h4.size; have := OD.out; omega, by simp⟩
        clear RG h4 k4 h5 G3
        by_cases hx : d < x
        · have HG : Hid (gg = (3, [])) := by
            show _ = _
            rw [GG]; unfold getB; rw [hn, if_pos (.inr (by show s.data.toList.length - y < x; omega))]
          have hx' : (d : Int) < (x : Int) := by omega
          clear GG hn
          obtain ⟨⟨r0, r1, f0, f1⟩, ⟨d0, d1⟩, hq⟩ := g0_bad G5.out
          obtain ⟨q0, q1, q2⟩ := hq (.slice none 0 0) (.int .i64 3)
          have Q2 := Hid.intro q2
          clear q2 hq
          go_wp2_with fail
          exact bodyPost_ret (v := .agg #[.slice none 0 0, .int .i64 3]) (by simp [results, Tryz.results9, go_sem, q0, q1]) rfl (rg_none HG.out Q2.out)
        · have hx' : ¬ (d : Int) < (x : Int) := by omega
          obtain ⟨m', hm'⟩ : ∃ m', y + x = m' := ⟨_, rfl⟩
          have TQ : (s.extract y m').data.toList = (s.data.toList.drop y).take x ∧ (s.extract m' s.size).data.toList = (s.data.toList.drop y).drop x := by
            refine ⟨by rw [slice_list]; congr 1; omega, ?_⟩
            rw [extract_list, List.drop_drop, hm']
          have i1 : IntKind.i64.wrap (x : Int) = (x : Int) := by rw [IntKind.wrap_i64]; omega
          have i3 : (y : Int) + (x : Int) = (m' : Int) := by omega
          have i2 : IntKind.i64.wrap (m' : Int) = (m' : Int) := by rw [IntKind.wrap_i64]; omega
          have hyx : m' ≤ s.size := by omega
          have hym : y ≤ m' := by omega
          have hmz : (m' : Int) ≤ (s.size : Int) := by omega
          have hyz : (y : Int) ≤ (m' : Int) := by omega
          have hy0 : (0 : Int) ≤ (y : Int) := by omega
          have hts : (s.extract y m').size ≤ 10000 := by rw [ByteArray.size_extract]; omega
          have hqs : (s.extract m' s.size).size ≤ 10000 := by rw [ByteArray.size_extract]; omega
          have GM : gg = midB k L cs (s.extract y m').data.toList (s.extract m' s.size).data.toList m := by
            rw [GG]
            unfold getB
            rw [hn, if_neg (by rw [not_or]; exact ⟨fun h => h rfl, by show ¬ (s.data.toList.length - y < x); omega⟩), TQ.1, TQ.2]
          clear GG hn hm' TQ
          obtain ⟨t, ht⟩ : ∃ t, s.extract y m' = t := ⟨_, rfl⟩
          obtain ⟨q, hq⟩ : ∃ q, s.extract m' s.size = q := ⟨_, rfl⟩
          rw [ht] at hts GM
          rw [hq] at hqs GM
          have LQ : q.data.toList.length = q.size := len_data q
          have LT : lastB t.data.toList = last t := by unfold lastB last; rw [len_data]
          go_wp2_with fail
          generalize w4.alloc (.cells #[.int .u64 (x : Int), .int .i64 (y : Int), .int .i64 0] 87) = w5 at *
          generalize w4.heap.size = V at *
          by_cases hl : last t = 0
          · have HG : Hid (gg = (3, [])) := by
              show _ = _
              rw [GM]; unfold midB; rw [if_pos (.inl (by rw [LT]; exact hl))]
            have FB := fromEnd_bad t w5 hl hts
            have RF := rfrom_any q w5 hqs
            clear GM LT LQ hl
            with_reducible refine FB.mono ?_
            rintro e w6 ⟨rfl, rfl⟩
            clear FB
            go_wp2_with fail
            with_reducible refine RF.mono ?_
            rintro e w7 ⟨R, rv, rfl, -, -, -, hc⟩
            have G7 := Hid.intro (g0_later G5.out (chg_no hc))
            unfold ptr
            clear RF hc G5
            obtain ⟨⟨r0, r1, f0, f1⟩, ⟨d0, d1⟩, hq'⟩ := g0_bad G7.out
            obtain ⟨q0, q1, q2⟩ := hq' (.slice none 0 0) (.int .i64 3)
            have Q2 := Hid.intro q2
            clear q2 hq'
            go_wp2_with fail
            exact bodyPost_ret (v := .agg #[.slice none 0 0, .int .i64 3]) (by simp [results, Tryz.results9, go_sem, q0, q1]) rfl (rg_none HG.out Q2.out)
          · obtain ⟨M, hM⟩ : ∃ M, Nat.log2 (le t.data.toList) = M := ⟨_, rfl⟩
            have FO := fromEnd_ok t w5 hl hts
            have hM8 : M ≤ 8 * t.size := by rw [← hM]; exact Nat.le_of_lt (log_lt t hl).2
            rw [hM] at FO
            with_reducible refine FO.mono ?_
            rintro e w6 ⟨A, g, cg, rfl, a1, a2, tl6, hc6⟩
            clear FO
            have b6 := chg_no hc6
            have v06 := (b6.cell (p := ⟨V, 0, none⟩) (World.block_lt_of_cell? _ _ v0)).trans v0
            have v16 := (b6.cell (p := ⟨V, 1, none⟩) (World.block_lt_of_cell? _ _ v1)).trans v1
            have G6 := Hid.intro (g0_later G5.out b6)
            have RF := rfrom_any q w6 hqs
            have TL6 := Hid.intro tl6
            have OA : Hid (D < A ∧ D < g ∧ A < w6.heap.size ∧ g < w6.heap.size) := by
              have h1 := OV.out
              refine ⟨by omega, by omega, blk_lt tl6.1, (tl6.2.1.lt g rfl).2⟩
            unfold ptr
            clear v0 v1 v2 hc6 b6 a1 a2 tl6 G5
            go_wp2_with fail
            with_reducible refine RF.mono ?_
            rintro e w7 ⟨R, rv, rfl, wk7, c1, c2, hc⟩
            clear RF
            have b7 := chg_no hc
            have G7 := Hid.intro (g0_later G6.out b7)
            have tl7 : Tl w7 A g cg (le t.data.toList) M := tl_kept TL6.out hc id id
            have OR : Hid (A < R ∧ g < R ∧ R < w7.heap.size ∧ ∀ j, rv.ownBlock = some j → A < j ∧ g < j ∧ j ≠ R ∧ j < w7.heap.size) := by
              have h1 := OA.out
              exact ⟨by omega, by omega, blk_lt wk7.1, fun j hj => by
                have h2 := c2 j hj
                have h3 := (wk7.2.1.lt j hj).2
                exact ⟨by omega, by omega, fun e => wk7.2.2 (by rw [hj, e]), h3⟩⟩
            have WK7 := Hid.intro wk7
            have TG := tget_any A g cg (le t.data.toList) M (k : Int) w7 tl7 (by omega)
            obtain ⟨E1, y1, a', t1, t2, t3, t4, t5, t6⟩ := tg_cases (le t.data.toList) M k K12
            rw [t1, t2, t3] at TG
            unfold ptr at TG ⊢
            simp only [agg3] at TG
            clear v06 v16 hc b7 tl7 wk7 c1 c2 G6
            go_wp2_with fail
            with_reducible refine TG.mono ?_
            rintro e w8 ⟨rfl, tl8, hc8⟩
            clear TG
            have hA8 := OA.out
            have hR8 := OR.out
            have h78 := hc8.2.2.2.1
            have G8 : G0 w w8 C7 D b S cp k L cs := by
              obtain ⟨⟨k1, k2, k3⟩, k9, k12⟩ := G7.out
              have o1 := O1.out
              have o2 := OD.out
              exact ⟨⟨blk_kept k1 hc8 (by omega), blk_kept k2 hc8 (by omega), blk_kept k3 hc8 (by omega)⟩, own_kept k9 hc8 (fun j hj e => by simp [Value.ownBlock] at hj; omega), k12.trans (chg_below hc8 k12.size (fun j hj => by omega))⟩
            have wk8 := wkh_kept WK7.out hc8 (by omega) (fun j hj e => by have := (hR8.2.2.2 j hj).1; omega)
            have k8 := blk_new w8 #[.int .u64 (y1 : Int), .int .i64 0, .int .i64 (E1 : Int)] 87
            have bb : Below w8.heap.size w8 (w8.alloc (.cells #[.int .u64 (y1 : Int), .int .i64 0, .int .i64 (E1 : Int)] 87)) := (Below.refl _ _).alloc (Nat.le_refl _) _
            have cf : Chg (fun _ => False) w8 (w8.alloc (.cells #[.int .u64 (y1 : Int), .int .i64 0, .int .i64 (E1 : Int)] 87)) := chg_of bb
            have GV9 : Hid (Gv w (w8.alloc (.cells #[.int .u64 (y1 : Int), .int .i64 0, .int .i64 (E1 : Int)] 87)) C7 D A g cg R w8.heap.size (w8.heap.size + 1) rv b S cp k L cs t q (y1 : Int) 0 (E1 : Int) a' 0 (.slice none 0 0) []) := gv_start (g0_later G8 bb) k8 (tl_kept tl8 cf id id) (wkh_kept wk8 cf id (fun _ _ => id))
            have GO9 : Hid (GO w C7 D A g R w8.heap.size (w8.heap.size + 1) b rv) := by
              have o1 := O1.out
              have o2 := OD.out
              exact ⟨o1.1, o1.2.1, o1.2.2.1, o2.1, hA8.1, hA8.2.1, hR8.1, hR8.2.1, by omega, by omega, fun j hj => by
                obtain ⟨z1, z2, z3, z4⟩ := hR8.2.2.2 j hj
                exact ⟨z1, z2, z3, by omega⟩⟩
            have SZ9 : Hid (w8.heap.size + 1 ≤ (w8.alloc (.cells #[.int .u64 (y1 : Int), .int .i64 0, .int .i64 (E1 : Int)] 87)).heap.size) := by show _ ≤ _; simp
            have u0 : (w8.alloc (.cells #[.int .u64 (y1 : Int), .int .i64 0, .int .i64 (E1 : Int)] 87)).cell? ⟨w8.heap.size, 0, none⟩ = some (.int .u64 (y1 : Int)) := by rw [blk_cell k8]; rfl
            have u2 : (w8.alloc (.cells #[.int .u64 (y1 : Int), .int .i64 0, .int .i64 (E1 : Int)] 87)).cell? ⟨w8.heap.size, 2, none⟩ = some (.int .i64 (E1 : Int)) := by rw [blk_cell k8]; rfl
            clear tl8 hc8 hA8 hR8 h78 G8 wk8 k8 bb cf G7 WK7 TL6 OA OR OV O1 OD
            rcases t6 with ⟨hE, hMk⟩ | ⟨rfl, hMk, rfl, rfl⟩
            · have HG : Hid (gg = (3, [])) := by
                show _ = _
                rw [GM]; unfold midB; rw [if_pos (.inr (by rw [hM]; exact hMk))]
              have hE' : ¬ (E1 : Int) = 0 := by omega
              clear GM LT LQ
              obtain ⟨⟨r0, r1, f0, f1⟩, ⟨d0, d1⟩, hq'⟩ := g0_bad (gv_g0 GV9.out)
              obtain ⟨q0, q1, q2⟩ := hq' (.slice none 0 0) (.int .i64 3)
              have Q2 := Hid.intro q2
              clear q2 hq'
              go_wp2_with fail
              exact bodyPost_ret (v := .agg #[.slice none 0 0, .int .i64 3]) (by simp [results, Tryz.results9, go_sem, q0, q1]) rfl (rg_none HG.out Q2.out)
            · obtain ⟨st, hst⟩ : ∃ st, got (le t.data.toList) (M - k) k = st := ⟨_, rfl⟩
              have stl : st < 2 ^ k := by rw [← hst]; exact got_lt _ _ _
              obtain ⟨G, hG⟩ : ∃ G, gS k L cs (le t.data.toList) (le q.data.toList) (8 * q.size) m st (M - k) 0 [] = G := ⟨_, rfl⟩
              have GE : Hid (gg = endB k L cs (le q.data.toList) (8 * q.size) G) := by
                show _ = _
                rw [GM]; unfold midB; rw [if_neg (by rw [not_or, LT, hM]; exact ⟨hl, by omega⟩), hM, hst, LQ, hG]
              rw [hst] at GV9 u0 SZ9 ⊢
              have i4 : IntKind.i64.wrap (st : Int) = (st : Int) := by rw [IntKind.wrap_i64]; omega
              have ST : Hid (RgRel w C7 D A g cg R w8.heap.size (w8.heap.size + 1) rv b S cp k L cs t q m G (.int .i64 (st : Int)) (.slice none 0 0) (w8.alloc (.cells #[.int .u64 (st : Int), .int .i64 0, .int .i64 ((0 : Nat) : Int)] 87))) :=
                ⟨st, M - k, 0, [], _, _, _, rfl, Nat.zero_le _, GV9.out, SZ9.out, stl, by omega, Nat.zero_le _, by rw [List.length_nil, Nat.sub_zero]; exact hG⟩
              clear GM LT LQ GV9 SZ9 hG hst hM t1 t2 t3 t4 t5
              go_wp2_with fail
              generalize w8.alloc (.cells #[.int .u64 (st : Int), .int .i64 0, .int .i64 ((0 : Nat) : Int)] 87) = w9 at *
              obtain ⟨X, hX⟩ : ∃ X, w8.heap.size = X := ⟨_, rfl⟩
              rw [hX] at GO9 ST ⊢
              clear u0 u2 hX
              obtain ⟨i0, hi0, hz0, hs0, hb0⟩ := info_all info74
              go_loopw [15, 16] (fun sv pv wr => RgRel w C7 D A g cg R X (X + 1) rv b S cp k L cs t q m G sv pv wr) (fun _ pv _ => m - lenV pv)
              case atStart => exact ST.out
              case round =>
                clear ST
                obtain ⟨st, a, r, acc, x0, x1, x2, rfl, hacc, gv, hP, hst, ha, hr, hgs⟩ := hrel
                obtain ⟨pa, pc, hpv, -, -, -⟩ := own_rp gv.2.2.2.2.2.1
                by_cases hlt : acc.length < m
                · obtain ⟨c, bb, ee, hcel, -, hc65, hbk, hee, -⟩ := cel_bd HSP.out st hst
                  obtain ⟨o0, o1, o2⟩ := cv_cells gv.2.2.2.2.1 st (by omega)
                  rw [tab_get k L cs S st (by omega), hcel] at o0 o1 o2
                  simp only at o0 o1 o2
                  have e0 : wr.cell? ⟨C7, 0, none⟩ = some (.slice (some ⟨b, 0, none⟩) S cp) := by rw [blk_cell gv.1.2.1]; rfl
                  have kY := blk_new wr #[.int .i64 (c : Int), .int .i64 (bb : Int), .int .i64 (ee : Int)] 77
                  have bY : Below wr.heap.size wr (wr.alloc (.cells #[.int .i64 (c : Int), .int .i64 (bb : Int), .int .i64 (ee : Int)] 77)) := (Below.refl _ _).alloc (Nat.le_refl _) _
                  have y1' : (wr.alloc (.cells #[.int .i64 (c : Int), .int .i64 (bb : Int), .int .i64 (ee : Int)] 77)).cell? ⟨wr.heap.size, 1, none⟩ = some (.int .i64 (bb : Int)) := by rw [blk_cell kY]; rfl
                  have gv1 := gv_later gv bY
                  have go := GO9.out
                  have oX : R < X ∧ A < R ∧ g < R := ⟨go.2.2.2.2.2.2.2.2.1, go.2.2.2.2.2.2.1, go.2.2.2.2.2.2.2.1⟩
                  obtain ⟨E1, y1, a', t1, t2, t3, t4, t5, t6⟩ := tg_cases (le t.data.toList) a bb (by omega)
                  have TG := tget_any A g cg (le t.data.toList) a (bb : Int) _ gv1.2.2.1 (by omega)
                  rw [t1, t2, t3] at TG
                  unfold ptr at TG
                  simp only [agg3] at TG
                  obtain ⟨Y, hY⟩ : ∃ Y, wr.heap.size = Y := ⟨_, rfl⟩
                  rw [hY] at kY y1'
                  have hPY : Hid (X < Y) := by show _ < _; omega
                  have GV1 := Hid.intro gv1
                  have KY := Hid.intro kY
                  have p12 := pow_bd k K12
                  have hltz : (acc.length : Int) < (m : Int) := by omega
                  have hstz : (st : Int) < (S : Int) := by omega
                  have hst0 : (0 : Int) ≤ (st : Int) := by omega
                  have SZY : Hid (X + 1 ≤ (wr.alloc (.cells #[.int .i64 (c : Int), .int .i64 (bb : Int), .int .i64 (ee : Int)] 77)).heap.size) := by show _ ≤ _; simp; omega
                  subst hpv
                  clear gv kY bY gv1
                  go_wp2_with fail
                  with_reducible refine TG.mono ?_
                  rintro e wA ⟨rfl, g1, g2⟩
                  clear TG
                  have hxy := hPY.out
                  have gv2 := gv_tget GO9.out GV1.out g1 g2
                  have kY2 := blk_kept KY.out g2 (by omega : ¬ Y = A)
                  have hYX : Y ≠ X := by omega
                  have kY3 := blk_set_other (blk_set_other (blk_set_other kY2 ⟨X, 0, none⟩ (.int .u64 (y1 : Int)) hYX) ⟨X, 1, none⟩ (.int .i64 0) hYX) ⟨X, 2, none⟩ (.int .i64 (E1 : Int)) hYX
                  have gv3 := gv_store GO9.out gv2 (y1 : Int) 0 (E1 : Int)
                  have s0 : wA.cell? ⟨X, 0, none⟩ = some (.int .u64 x0) := by rw [blk_cell gv2.2.1]; rfl
                  have s1 : wA.cell? ⟨X, 1, none⟩ = some (.int .i64 x1) := by rw [blk_cell gv2.2.1]; rfl
                  have s2 : wA.cell? ⟨X, 2, none⟩ = some (.int .i64 x2) := by rw [blk_cell gv2.2.1]; rfl
                  have sf0 := blk_free gv2.2.1 0
                  have sf1 := blk_free gv2.2.1 1
                  have sf2 := blk_free gv2.2.1 2
                  have sz2 : X + 1 ≤ (((wA.setCell ⟨X, 0, none⟩ (.int .u64 (y1 : Int))).setCell ⟨X, 1, none⟩ (.int .i64 0)).setCell ⟨X, 2, none⟩ (.int .i64 (E1 : Int))).heap.size := by
                    have h1 := SZY.out
                    have h2 := g2.2.2.2.1
                    rw [Go.Deep.nblk_setCell, Go.Deep.nblk_setCell, Go.Deep.nblk_setCell]; omega
                  have m0 : (((wA.setCell ⟨X, 0, none⟩ (.int .u64 (y1 : Int))).setCell ⟨X, 1, none⟩ (.int .i64 0)).setCell ⟨X, 2, none⟩ (.int .i64 (E1 : Int))).cell? ⟨Y, 0, none⟩ = some (.int .i64 (c : Int)) := by rw [blk_cell kY3]; rfl
                  obtain ⟨dd, hdd⟩ : ∃ dd : Int, (c : Int) - 1 = dd := ⟨_, rfl⟩
                  have wdd : IntKind.i64.wrap dd = dd := by rw [IntKind.wrap_i64]; omega
                  obtain ⟨e', he'⟩ : ∃ e', c - 1 = e' := ⟨_, rfl⟩
                  have hmx : max 0 dd = (e' : Int) := by omega
                  obtain ⟨E2, y2, r', v1', v2', v3', v4', v5', v6'⟩ := rg_cases (le q.data.toList) (8 * q.size) r e' (by omega) hr
                  have RG := rget_any R rv (le q.data.toList) (8 * q.size) r (e' : Int) _ gv3.2.2.2.1 hr (by omega)
                  rw [v1', v2', v3'] at RG
                  unfold ptr at RG
                  simp only [agg3] at RG
                  have GV3 := Hid.intro gv3
                  have KY3 := Hid.intro kY3
                  have SZ2 := Hid.intro sz2
                  clear GV1 KY SZY g1 g2 gv2 kY2 kY3 gv3 sz2 y1' o0 o1 o2 e0 t1 t2 t3 v1' v2' v3'
                  go_wp2_with fail
                  with_reducible refine RG.mono ?_
                  rintro e wB ⟨rfl, g3, g4⟩
                  clear RG
                  have gv4 := gv_rget GO9.out GV3.out g3 g4
                  have kY4 := blk_kept KY3.out g4 (by omega : ¬ Y = R)
                  have bZ : Below wB.heap.size wB (wB.alloc (.cells #[.int .u64 (y2 : Int), .int .i64 0, .int .i64 (E2 : Int)] 87)) := (Below.refl _ _).alloc (Nat.le_refl _) _
                  have kZ := blk_new wB #[.int .u64 (y2 : Int), .int .i64 0, .int .i64 (E2 : Int)] 87
                  have gv5 := gv_later gv4 bZ
                  have kY5 := blk_alloc kY4 (.cells #[.int .u64 (y2 : Int), .int .i64 0, .int .i64 (E2 : Int)] 87)
                  have n2 : (wB.alloc (.cells #[.int .u64 (y2 : Int), .int .i64 0, .int .i64 (E2 : Int)] 87)).cell? ⟨X, 2, none⟩ = some (.int .i64 (E1 : Int)) := by rw [blk_cell gv5.2.1]; rfl
                  have n0 : (wB.alloc (.cells #[.int .u64 (y2 : Int), .int .i64 0, .int .i64 (E2 : Int)] 87)).cell? ⟨X, 0, none⟩ = some (.int .u64 (y1 : Int)) := by rw [blk_cell gv5.2.1]; rfl
                  have z2 : (wB.alloc (.cells #[.int .u64 (y2 : Int), .int .i64 0, .int .i64 (E2 : Int)] 87)).cell? ⟨wB.heap.size, 2, none⟩ = some (.int .i64 (E2 : Int)) := by rw [blk_cell kZ]; rfl
                  have z0 : (wB.alloc (.cells #[.int .u64 (y2 : Int), .int .i64 0, .int .i64 (E2 : Int)] 87)).cell? ⟨wB.heap.size, 0, none⟩ = some (.int .u64 (y2 : Int)) := by rw [blk_cell kZ]; rfl
                  have p0 : (wB.alloc (.cells #[.int .u64 (y2 : Int), .int .i64 0, .int .i64 (E2 : Int)] 87)).cell? ⟨Y, 0, none⟩ = some (.int .i64 (c : Int)) := by rw [blk_cell kY5]; rfl
                  have p2 : (wB.alloc (.cells #[.int .u64 (y2 : Int), .int .i64 0, .int .i64 (E2 : Int)] 87)).cell? ⟨Y, 2, none⟩ = some (.int .i64 (ee : Int)) := by rw [blk_cell kY5]; rfl
                  have sz5 : X + 1 ≤ (wB.alloc (.cells #[.int .u64 (y2 : Int), .int .i64 0, .int .i64 (E2 : Int)] 87)).heap.size := by have h1 := SZ2.out; have h2 := g4.2.2.2.1; have h3 := bZ.size; omega
                  have GV5 := Hid.intro gv5
                  have SZ5 := Hid.intro sz5
                  have HGS := Hid.intro hgs
                  have HCEL := Hid.intro hcel
                  clear GV3 KY3 SZ2 gv4 gv5 kY4 kY5 kZ bZ g3 g4 m0 sz5 s0 s1 s2 sf0 sf1 sf2 hgs hcel
                  obtain ⟨mm, hmm⟩ : ∃ mm, m - acc.length = mm + 1 := ⟨m - acc.length - 1, by omega⟩
                  rcases t6 with ⟨hE, hab⟩ | ⟨hE1, hab, rfl, hy1⟩
                  · have HG : Hid (gg = (3, [])) := by
                      show _ = _
                      have h1 := HGS.out
                      rw [hmm, gS_no HCEL.out (.inl hab)] at h1
                      rw [GE.out, ← h1]; rfl
                    have hE' : ¬ (E1 : Int) = 0 := by omega
                    obtain ⟨⟨r0, r1, f0, f1⟩, ⟨d0, d1⟩, hq'⟩ := g0_bad (gv_g0 GV5.out)
                    obtain ⟨q0, q1, q2⟩ := hq' (.slice none 0 0) (.int .i64 3)
                    have Q2 := Hid.intro q2
                    clear q2 hq'
                    go_wp2_with fail
                    exact bodyPost_ret (v := .agg #[.slice none 0 0, .int .i64 3]) (by simp [results, Tryz.results9, go_sem, q0, q1]) rfl (rg_none HG.out Q2.out)
                  · have HE1 := Hid.intro hE1
                    have b1 : ((E1 : Int) != 0) = false := by simp; omega
                    clear hE1
                    rcases v6' with ⟨hE, hrb⟩ | ⟨hE2, hrb, rfl, hy2⟩
                    · have HG : Hid (gg = (3, [])) := by
                        show _ = _
                        have h1 := HGS.out
                        rw [hmm, gS_no HCEL.out (.inr (by omega))] at h1
                        rw [GE.out, ← h1]; rfl
                      have hE' : ¬ (E2 : Int) = 0 := by omega
                      clear hy1
                      obtain ⟨⟨r0, r1, f0, f1⟩, ⟨d0, d1⟩, hq'⟩ := g0_bad (gv_g0 GV5.out)
                      obtain ⟨q0, q1, q2⟩ := hq' (.slice none 0 0) (.int .i64 3)
                      have Q2 := Hid.intro q2
                      clear q2 hq'
                      go_wp2_with fail
                      exact bodyPost_ret (v := .agg #[.slice none 0 0, .int .i64 3]) (by simp [results, Tryz.results9, go_sem, q0, q1]) rfl (rg_none HG.out Q2.out)
                    · have b2 : ((E2 : Int) != 0) = false := by simp; omega
                      have yl : y1 < 2 ^ bb := by rw [hy1]; exact got_lt _ _ _
                      have HG6 : Hid (gS k L cs (le t.data.toList) (le q.data.toList) (8 * q.size) mm (ee + y1) (a - bb) (r + e') (acc ++ [(c, y2)]) = G) := by
                        show _ = _
                        have h1 := HGS.out
                        rw [hmm, gS_yes HCEL.out hab (by omega), he', ← hy1, ← hy2] at h1
                        exact h1
                      obtain ⟨st', hst'⟩ : ∃ st' : Nat, (ee : Int) + (y1 : Int) = (st' : Int) := ⟨ee + y1, by omega⟩
                      have wyy : IntKind.i64.wrap (y1 : Int) = (y1 : Int) := by rw [IntKind.wrap_i64]; omega
                      have wst : IntKind.i64.wrap (st' : Int) = (st' : Int) := by rw [IntKind.wrap_i64]; omega
                      have ow5 := GV5.out.2.2.2.2.2.1
                      have szB : (wB.alloc (.cells #[.int .u64 (y2 : Int), .int .i64 0, .int .i64 (E2 : Int)] 87)).heap.size = wB.heap.size + 1 := by simp
                      have tn := two_new (wB.alloc (.cells #[.int .u64 (y2 : Int), .int .i64 0, .int .i64 (E2 : Int)] 87)) (.int .i64 (c : Int)) (.int .u64 (y2 : Int)) 74
                      rw [szB] at tn
                      clear hy1 hy2 hE2 HE1 HGS HCEL szB
                      go_wp2_with (at_builtin; refine wpList_pushh _ rfl (.tmp 118) (.tmp 124) 22 rfl 74 i0 (.agg #[.int .i64 0, .int .u64 0]) 2 16 Tryz.underlying22 hi0 hz0 hs0 hb0 rfl (by decide) (by decide) _ acc.length (pvs (acc.map toIP)) rfl (World.ownsRow.alloc ow5 _) ⟨wB.heap.size + 1, 0, none⟩ 1 1 [.int .i64 (c : Int), .int .u64 (y2 : Int)] rfl rfl tn (pv_one (c : Int) (y2 : Int)) (by omega) ?_)
                      intro v8 w8' o8 g8 m8
                      have ba : Below (wB.alloc (.cells #[.int .u64 (y2 : Int), .int .i64 0, .int .i64 (E2 : Int)] 87)).heap.size (wB.alloc (.cells #[.int .u64 (y2 : Int), .int .i64 0, .int .i64 (E2 : Int)] 87)) ((wB.alloc (.cells #[.int .u64 (y2 : Int), .int .i64 0, .int .i64 (E2 : Int)] 87)).alloc (.cells #[.int .i64 (c : Int), .int .u64 (y2 : Int)] 74)) := (Below.refl _ _).alloc (Nat.le_refl _) _
                      have gv6 := gv_push GO9.out (gv_later GV5.out ba) (by have h1 := SZ5.out; have h2 := ba.size; omega) o8 g8 m8
                      have JJ : Hid (RgRel w C7 D A g cg R X (X + 1) rv b S cp k L cs t q m G (.int .i64 (st' : Int)) v8 w8') :=
                        ⟨st', a - bb, r + e', acc ++ [(c, y2)], _, _, _, rfl, by rw [List.length_append]; simp; omega, gv6, by have h1 := SZ5.out; have h2 := ba.size; have h3 := g8.size; omega, by omega, by omega, by omega, by
                          rw [List.length_append, show m - (acc.length + [(c, y2)].length) = mm from by simp; omega, show st' = ee + y1 from by omega]; exact HG6.out⟩
                      obtain ⟨b8, cap8, rfl⟩ := own_slice o8 (by omega)
                      clear o8 g8 m8 gv6 ba ow5 GV5 SZ5 HG6 n2 n0 z2 z0 p0 p2
                      go_wp2_with fail
                      go_roundw
                      case rel => exact JJ.out
                      case measure => simp [lenV]; omega
                · obtain rfl : m = acc.length := by omega
                  subst hpv
                  rw [Nat.sub_self] at hgs
                  have HG : Hid (gg = if st = 0 ∧ a = 0 ∧ 8 * q.size - r < 8 ∧ got (le q.data.toList) r (8 * q.size - r) = 0 then (0, acc) else (3, [])) := by
                    show _ = _
                    rw [GE.out, ← hgs]; rfl
                  have GV := Hid.intro gv
                  have RS := rrest_any R rv q r wr gv.2.2.2.1 hqs hr
                  have E : Hid (rs q r = decide (8 * q.size - r < 8 ∧ got (le q.data.toList) r (8 * q.size - r) = 0)) := by
                    show _ = _
                    unfold rs
                    rw [← Bool.decide_and]
                    by_cases hx : 8 * q.size < r + 8
                    · rw [decide_eq_decide]; constructor
                      · rintro ⟨-, h2⟩; exact ⟨by omega, h2⟩
                      · rintro ⟨-, h2⟩; exact ⟨hx, h2⟩
                    · rw [decide_eq_decide]; constructor
                      · rintro ⟨h1, -⟩; exact absurd h1 hx
                      · rintro ⟨h1, -⟩; exact absurd h1 (by omega)
                  generalize rs q r = rb at *
                  have l0 : wr.cell? ⟨A, 0, none⟩ = some (.slice (some ⟨g, 0, none⟩) a cg) := by rw [blk_cell gv.2.2.1.1]; rfl
                  unfold ptr at RS
                  have HPP := Hid.intro hP
                  clear gv hgs GE hP
                  by_cases z0 : st = 0
                  · by_cases z1 : a = 0
                    · subst z0 z1
                      cases rb with
                      | true =>
                        have HG' : Hid (gg = (0, acc)) := by
                          show _ = _
                          rw [HG.out, if_pos ⟨rfl, rfl, of_decide_eq_true E.out.symm⟩]
                        clear HG E
                        go_wp2_with fail
                        with_reducible refine RS.mono ?_
                        rintro e wB ⟨rfl, hc⟩
                        have gvB := gv_later GV.out (chg_no hc)
                        obtain ⟨⟨r0, r1, f0, f1⟩, -, hq'⟩ := g0_bad (gv_g0 gvB)
                        obtain ⟨q0, q1, q2⟩ := hq' (.slice pa acc.length pc) (.int .i64 0)
                        have OW : Hid (((wB.setCell ⟨w.heap.size, 0, none⟩ (.slice pa acc.length pc)).setCell ⟨w.heap.size, 1, none⟩ (.int .i64 0)).ownsRow w.heap.size 74 2 (.slice pa acc.length pc) acc.length (pvs (acc.map toIP))) := by
                          have go := GO9.out
                          have hX' : w.heap.size < X := by have h1 := go.1; have h2 := go.2.2.2.1; have h3 := go.2.2.2.2.1; have h4 := go.2.2.2.2.2.2.1; have h5 := go.2.2.2.2.2.2.2.2.1; omega
                          have fr := gvB.2.2.2.2.2.2.1
                          have c0 : Chg (· = w.heap.size) wB wB := chg_refl _ _
                          have c1 := chg_set c0 ⟨w.heap.size, 0, none⟩ (.slice pa acc.length pc) (fun _ => rfl)
                          have c2 := chg_set c1 ⟨w.heap.size, 1, none⟩ (.int .i64 0) (fun _ => rfl)
                          exact own_up (own_kept gvB.2.2.2.2.2.1 c2 (fun j hj e => by have h1 := fr j hj; have h2 : j = w.heap.size := e; omega)) (fun j hj => by have h1 := fr j hj; omega)
                        have Q2 := Hid.intro q2
                        clear RS hc gvB GV q2 hq'
                        go_wp2_with fail
                        refine bodyPost_ret (v := .agg #[.slice pa acc.length pc, .int .i64 0]) (by simp [results, Tryz.results9, go_sem, q0, q1]) rfl ?_
                        rw [HG'.out]
                        exact ⟨_, rfl, OW.out, Q2.out⟩
                      | false =>
                        have HG' : Hid (gg = (3, [])) := by
                          show _ = _
                          rw [HG.out, if_neg (fun h => of_decide_eq_false E.out.symm h.2.2)]
                        clear HG E
                        go_wp2_with fail
                        with_reducible refine RS.mono ?_
                        rintro e wB ⟨rfl, hc⟩
                        have gvB := Hid.intro (gv_g0 (gv_later GV.out (chg_no hc)))
                        clear RS hc GV
                        obtain ⟨⟨r0, r1, f0, f1⟩, ⟨d0, d1⟩, hq'⟩ := g0_bad gvB.out
                        obtain ⟨q0, q1, q2⟩ := hq' (.slice none 0 0) (.int .i64 3)
                        have Q2 := Hid.intro q2
                        clear q2 hq'
                        go_wp2_with fail
                        exact bodyPost_ret (v := .agg #[.slice none 0 0, .int .i64 3]) (by simp [results, Tryz.results9, go_sem, q0, q1]) rfl (rg_none HG'.out Q2.out)
                    · have z1' : (0 : Int) < (a : Int) := by omega
                      subst z0
                      have HG' : Hid (gg = (3, [])) := by
                        show _ = _
                        rw [HG.out, if_neg (fun h => z1 h.2.1)]
                      clear HG E RS
                      obtain ⟨⟨r0, r1, f0, f1⟩, ⟨d0, d1⟩, hq'⟩ := g0_bad (gv_g0 GV.out)
                      obtain ⟨q0, q1, q2⟩ := hq' (.slice none 0 0) (.int .i64 3)
                      have Q2 := Hid.intro q2
                      clear q2 hq'
                      go_wp2_with fail
                      exact bodyPost_ret (v := .agg #[.slice none 0 0, .int .i64 3]) (by simp [results, Tryz.results9, go_sem, q0, q1]) rfl (rg_none HG'.out Q2.out)
                  · have z0' : ¬ (st : Int) = 0 := by omega
                    have HG' : Hid (gg = (3, [])) := by
                      show _ = _
                      rw [HG.out, if_neg (fun h => z0 h.1)]
                    clear HG E RS
                    obtain ⟨⟨r0, r1, f0, f1⟩, ⟨d0, d1⟩, hq'⟩ := g0_bad (gv_g0 GV.out)
                    obtain ⟨q0, q1, q2⟩ := hq' (.slice none 0 0) (.int .i64 3)
                    have Q2 := Hid.intro q2
                    clear q2 hq'
                    go_wp2_with fail
                    exact bodyPost_ret (v := .agg #[.slice none 0 0, .int .i64 3]) (by simp [results, Tryz.results9, go_sem, q0, q1]) rfl (rg_none HG'.out Q2.out)
      · have hz' : ¬ (ze : Int) = 0 := by omega
        rw [getAt_no numb s 0 (by omega) (by omega) x y ze (by simpa using hn) hz] at RG
        simp only [agg3v] at RG
        have HG : Hid (gg = (3, [])) := by
          show _ = _
          rw [GG]; unfold getB; rw [hn, if_pos (.inl hz)]
        clear GG hn
        go_wp2_with fail
        with_reducible refine RG.mono ?_
        rintro e w4 ⟨rfl, h4⟩
        have k4 := blk_new w4 #[.int .u64 0, .int .i64 0, .int .i64 (ze : Int)] 87
        have v2 : (w4.alloc (.cells #[.int .u64 0, .int .i64 0, .int .i64 (ze : Int)] 87)).cell? ⟨w4.heap.size, 2, none⟩ = some (.int .i64 (ze : Int)) := by rw [blk_cell k4]; rfl
        have h5 : Below w3.heap.size w3 (w4.alloc (.cells #[.int .u64 0, .int .i64 0, .int .i64 (ze : Int)] 87)) := h4.alloc h4.size _
        have G5 := Hid.intro (g0_later G3.out h5)
        clear RG h4 k4 h5 G3
        obtain ⟨⟨r0, r1, f0, f1⟩, ⟨d0, d1⟩, hq⟩ := g0_bad G5.out
        obtain ⟨q0, q1, q2⟩ := hq (.slice none 0 0) (.int .i64 3)
        have Q2 := Hid.intro q2
        clear q2 hq
        go_wp2_with fail
        exact bodyPost_ret (v := .agg #[.slice none 0 0, .int .i64 3]) (by simp [results, Tryz.results9, go_sem, q0, q1]) rfl (rg_none HG.out Q2.out)
  · have hm' : may z f = false := by simpa using hm
    have GN : getS f z s.data.toList n = (3, []) := by unfold getS; rw [if_neg hm]
    rw [GN]
    rw [tabA_no hm'] at RT
    clear h hm
    go_enter Tryz.func9, Tryz.ntmps9
    go_wp2_with fail
    with_reducible refine RT.mono ?_
    rintro e w2 ⟨v, rfl, k1, k2⟩
    obtain ⟨av, cv, rfl, -⟩ := own_rc (l := []) k1
    have rb := blk_alloc (blk_below bk k2 (by omega)) (.cells #[.slice av 0 cv, .int .i64 3] 67)
    have c7 := blk_new w2 #[.slice av 0 cv, .int .i64 3] 67
    have hb2 := b1.trans (k2.mono b1.size)
    have hb3 := hb2.alloc hb2.size (.cells #[.slice av 0 cv, .int .i64 3] 67)
    have x1 : (w2.alloc (.cells #[.slice av 0 cv, .int .i64 3] 67)).cell? ⟨w2.heap.size, 1, none⟩ = some (.int .i64 3) := by rw [blk_cell c7]; rfl
    obtain ⟨r0, r1, f0, f1⟩ := rb_cells rb
    obtain ⟨q0, q1, q2⟩ := rb_end rb hb3 (.slice none 0 0) (.int .i64 3)
    have Q2 := Hid.intro q2
    clear k1 k2 rb c7 hb2 hb3 q2 bk b1
    go_wp2_with fail
    exact bodyPost_ret (v := .agg #[.slice none 0 0, .int .i64 3]) (by simp [results, Tryz.results9, go_sem, q0, q1]) rfl (rg_none rfl Q2.out)
end Go.Proofs.YtofclflcicjlaaaGreat
