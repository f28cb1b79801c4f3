/-
  The reference's Get: what any text says at any place.
-/
import Derived.Test.YtplalkhjjndffaaRx
import Derived.Test.YtplalkhjjndffaaPr
import Derived.Test.YtplalkhjjndffaaRf
import Derived.Lib.MinMax
import Derived.Deep.QuietTactic
import Derived.Deep.RegionWith
import Derived.Deep.RegionHeld3
import Derived.OwnWalk
import Derived.ChangeOld
import Derived.Below
import Derived.BigQuiet
namespace Go.Proofs.Ytplalkhjjndffaa
open Go.ChangeShapes Go.WideShapes Go.ChangeAt Go.RowKit
open Go.ChangeMaps (open_string shut_string)

theorem ivs_app (a b : List Int) : ivs (a ++ b) = ivs a ++ ivs b := by simp [ivs]
theorem tl_beq (t s : ByteArray) : (t.toList == s.toList) = decide (t.data.toList = s.data.toList) := by
  rw [ByteArray.toList_eq, ByteArray.toList_eq, Bool.eq_iff_iff]; simp
theorem own_slen {W : World} {base e size : Nat} {v : Value} {n : Nat} {xs : List Value} (h : W.ownsRow base e size v n xs) : slen v = n := by
  rcases h.2 with ⟨hv, hn⟩ | ⟨g, cap, cur, hv, _⟩
  · rw [hv, hn]; rfl
  · rw [hv]; rfl
set_option maxRecDepth 100000 in
set_option maxHeartbeats 4000000 in
theorem rgetn_any (s : ByteArray) (at' z : Int) (w : World) (hs : s.size ≤ 1000000) :
    Calls Try.prog 13 #[.string s, .int .i64 at', .int .i64 z] w fun e w' => RgPost (getN s.data.toList at' z) w e w' := by
  have b1 : Below w.heap.size w (w.alloc (.cells #[.slice none 0 0, .int .i64 0, .int .i64 0] 33)) := (Below.refl _ _).alloc (Nat.le_refl _) _
  have bk : Blk (w.alloc (.cells #[.slice none 0 0, .int .i64 0, .int .i64 0] 33)) w.heap.size cz 33 := blk_new w _ _
  have IL := islog_any z
  by_cases hneg : at' < 0
  · have G : Unit → getN s.data.toList at' z = (1, [], 0) := fun _ => getN_arg (.inl hneg)
    generalize getN s.data.toList at' z = g at *
    clear b1 bk IL
    go_enter Try.func13, Try.ntmps13
    go_wp2_with fail
    refine bodyPost_ret (v := .agg #[.slice none 0 0, .int .i64 0, .int .i64 1]) (by simp [results, Try.results13, go_sem]) rfl ?_
    rw [G ()]; exact rgp_none ((Below.refl _ _).alloc (Nat.le_refl _) _)
  · by_cases hbig : (s.size : Int) < at'
    · have G : Unit → getN s.data.toList at' z = (1, [], 0) := fun _ => getN_arg (.inr (.inl (by rw [len_data]; exact hbig)))
      generalize getN s.data.toList at' z = g at *
      clear b1 bk IL
      go_enter Try.func13, Try.ntmps13
      go_wp2_with fail
      refine bodyPost_ret (v := .agg #[.slice none 0 0, .int .i64 0, .int .i64 1]) (by simp [results, Try.results13, go_sem]) rfl ?_
      rw [G ()]; exact rgp_none ((Below.refl _ _).alloc (Nat.le_refl _) _)
    · by_cases hlg : lgB z = true
      · rw [hlg] at IL
        obtain ⟨i, rfl⟩ : ∃ i : Nat, at' = (i : Int) := ⟨at'.toNat, by omega⟩
        have hi : i ≤ s.size := by omega
        have hil : i ≤ s.data.toList.length := by rw [len_data]; exact hi
        clear hneg hbig
        have GE : Unit → ∀ E l r, decB 65 [] (s.data.toList.drop i) = (E, l, r) → E ≠ 0 → getN s.data.toList i z = (E, [], 0) := fun _ E l r h1 h2 => getN_err hil hlg h1 h2
        have GM : Unit → ∀ l r, decB 65 [] (s.data.toList.drop i) = (0, l, r) → mayN z l = false → getN s.data.toList i z = (3, [], 0) := fun _ l r h1 h2 => getN_may hil hlg h1 h2
        have GP : Unit → ∀ p l, i ≤ p → p ≤ s.data.toList.length → decB 65 [] (s.data.toList.drop i) = (0, l, s.data.toList.drop p) → mayN z l = true → getN s.data.toList i z = if encN l = (s.data.toList.drop i).take (p - i) then (0, l, p) else (3, [], 0) := fun _ p l h1 h2 h3 h4 => getN_put hil h1 h2 hlg h3 h4
        have SL : Hid (s.data.toList.length = s.size) := len_data s
        have CX : Hid (∀ i x, (s.extract i x).data.toList = (s.data.toList.drop i).take (x - i)) := fun i x => cut_data s i x
        have RV : Hid (∀ (p : Nat) (W : World), p ≤ s.size → Calls Try.prog 31 #[.string s, .int .i64 (p : Int)] W fun e w' => (∀ x k, numb (s.data.toList.drop p) = (x, k, 0) → e = .returned (.agg #[.int .u64 (x : Int), .int .i64 ((p + k : Nat) : Int), .int .i64 0])) ∧ (∀ x k E, numb (s.data.toList.drop p) = (x, k, E) → E ≠ 0 → e = .returned (.agg #[.int .u64 0, .int .i64 0, .int .i64 (E : Int)])) ∧ Below W.heap.size W w') := fun p W hp => by
          refine (refGetv_any s p W hs).mono ?_
          rintro e w' ⟨rfl, b⟩
          refine ⟨fun x k h => ?_, fun x k E h hE => ?_, b⟩
          · rw [getAt_ok numb s p (by omega) (by omega) x k (by rw [Int.toNat_natCast]; exact h), Int.toNat_natCast]; rfl
          · rw [getAt_no numb s p (by omega) (by omega) x k E (by rw [Int.toNat_natCast]; exact h) hE]; rfl
        generalize getN s.data.toList i z = g at *
        obtain ⟨sl, hsl⟩ : ∃ sl, s.data.toList = sl := ⟨_, rfl⟩
        rw [hsl] at GE GM GP SL CX RV hil
        obtain ⟨D, hD⟩ : ∃ D, decB 65 [] (sl.drop i) = D := ⟨_, rfl⟩
        rw [hD] at GE GM GP
        have ST : Unit → RgRel D sl i w (.slice none 0 0) (.int .i64 (i : Int)) (w.alloc (.cells #[.slice none 0 0, .int .i64 0, .int .i64 0] 33)) := fun _ =>
          ⟨i, 65, [], by omega, hil, rfl, World.ownsRow_nil _ _ _ _, fun k hk => by simp [Value.ownBlock] at hk, bk, b1, fun _ => hD, by simp, by simp, by simp⟩
        obtain ⟨i0, hi0, hz0, hz1, hz2⟩ := info_all info3
        clear hsl hD b1 bk hil hlg
        go_enter Try.func13, Try.ntmps13
        go_wp2_with fail
        with_reducible refine (IL _).mono ?_
        rintro e w1 ⟨rfl, hw1⟩
        go_wp2_with fail
        simp only [← hw1] at *
        clear IL hw1
        have hdl : decide (s.size < i) = false := by simp; omega
        have hdi : decide ((i : Int) < 0) = false := by simp
        simp only [hdl, hdi, Bool.or_false]
        clear hdl hdi
        go_loopw [7, 8] (fun lv kv wr => RgRel D sl i w lv kv wr) (fun lv _ _ => 65 - slen lv)
        case atStart => exact ST ()
        case round =>
          clear ST
          obtain ⟨p, f, acc, hq2, hq, rfl, d1, d2, d3, d4, d5, d6, d7, d8⟩ := hrel
          obtain ⟨a, cap, rfl, hc, hm, r1⟩ := own_ri (zs := acc.map rc) d1
          have D1 := Hid.intro d1
          have D2 := Hid.intro d2
          have K3 := Hid.intro d3
          have B3 := Hid.intro d4
          by_cases hlt : acc.length < 65
          · obtain ⟨x, k, E, hR⟩ : ∃ x k E, numb (sl.drop p) = (x, k, E) := ⟨_, _, _, rfl⟩
            have WY := way D sl p f acc (d5 (by omega)) hlt d7 hq x k E hR
            have hps : p ≤ s.size := by rw [← SL.out]; exact hq
            have G1 := RV.out p wr hps
            rcases WY with ⟨hE, hdd⟩ | ⟨rfl, hx, hpk, x64, hdd⟩ | ⟨rfl, rfl, hpk, hdd⟩
            · have G2 : Unit → g = (E, [], 0) := fun _ => GE () E [] [] hdd hE
              clear GE GM GP d1 d2 d3 d4 d5 d6 d7 d8 r1 hdd
              go_wp2_with fail
              with_reducible refine G1.mono ?_
              rintro e w3 ⟨-, g2, b3⟩
              obtain rfl := g2 x k E hR hE
              clear G1 g2
              have B4 := B3.out.trans (b3.mono B3.out.size)
              have K4 := blk_below K3.out b3 (blk_lt K3.out)
              have K5 := Hid.intro (blk_alloc K4 (.cells #[.int .u64 0, .int .i64 0, .int .i64 (E : Int)] 58))
              have B5 := Hid.intro (Below.alloc B4 (Below.size B4) (.cells #[.int .u64 0, .int .i64 0, .int .i64 (E : Int)] 58))
              clear b3 B4 K4 K3 B3 D1
              obtain ⟨q1, q2, q3, q4, -⟩ := res3 w (w3.alloc (.cells #[.int .u64 0, .int .i64 0, .int .i64 (E : Int)] 58)) B5.out K5.out (.slice none 0 0) (.int .i64 0) (.int .i64 (E : Int))
              have Q1 := Hid.intro q1
              have c0 : (w3.alloc (.cells #[.int .u64 0, .int .i64 0, .int .i64 (E : Int)] 58)).cell? ⟨w.heap.size, 0, none⟩ = some (.slice none 0 0) := by rw [blk_cell K5.out]; rfl
              have c1 : (w3.alloc (.cells #[.int .u64 0, .int .i64 0, .int .i64 (E : Int)] 58)).cell? ⟨w.heap.size, 1, none⟩ = some (.int .i64 0) := by rw [blk_cell K5.out]; rfl
              have c2 : (w3.alloc (.cells #[.int .u64 0, .int .i64 0, .int .i64 (E : Int)] 58)).cell? ⟨w.heap.size, 2, none⟩ = some (.int .i64 0) := by rw [blk_cell K5.out]; rfl
              have f0 := blk_free K5.out 0
              have f1 := blk_free K5.out 1
              have f2 := blk_free K5.out 2
              clear q1
              go_wp2_with fail
              refine bodyPost_ret (v := .agg #[(.slice none 0 0), (.int .i64 0), (.int .i64 (E : Int))]) (by simp [results, Try.results13, go_sem, q2, q3, q4]) rfl ?_
              rw [G2 ()]; exact rgp_none Q1.out
            · obtain ⟨q, hq0⟩ : ∃ q, p + k = q := ⟨_, rfl⟩
              rw [hq0] at hpk hdd
              have HDD : Unit → decB (f - 1) (acc ++ [x]) (sl.drop q) = D := fun _ => hdd
              obtain ⟨n, hn⟩ : ∃ n, acc.length = n := ⟨_, rfl⟩
              have HN := Hid.intro hn
              rw [hn] at hlt hc D1 D2 d7
              have HQ := Hid.intro (show i ≤ q ∧ q ≤ sl.length ∧ 65 ≤ f + n ∧ n < 65 from ⟨by omega, hpk, d7, hlt⟩)
              have x0 : (0 : Int) < (x : Int) := by omega
              have hx0 : (x : Int) ≤ 18446744073709551615 := by omega
              simp only [hn]
              clear GE GM GP d1 d2 d3 d4 d5 d6 d7 d8 r1 hdd hn
              go_wp2_with fail
              with_reducible refine G1.mono ?_
              rintro e w3 ⟨g2, -, b3⟩
              have g2 := g2 x k hR
              rw [hq0] at g2
              subst g2
              clear G1 hR hq0
              have B4 := B3.out.trans (b3.mono B3.out.size)
              have K4 := blk_below K3.out b3 (blk_lt K3.out)
              have D4 := own_later D1.out b3
              have K5 := Hid.intro (blk_alloc K4 (.cells #[.int .u64 (x : Int), .int .i64 (q : Int), .int .i64 0] 58))
              have B5 := Hid.intro (Below.alloc B4 (Below.size B4) (.cells #[.int .u64 (x : Int), .int .i64 (q : Int), .int .i64 0] 58))
              have D5 := Hid.intro (D4.alloc (.cells #[.int .u64 (x : Int), .int .i64 (q : Int), .int .i64 0] 58))
              clear b3 B4 K4 K3 B3 D1 D4
              have hsz : (w3.alloc (.cells #[.int .u64 (x : Int), .int .i64 (q : Int), .int .i64 0] 58)).heap.size = w3.heap.size + 1 := by simp
              have CN : ∀ (j : Nat) u, [.int .i64 (min (x : Int) 1048576)][j]? = some u → ((w3.alloc (.cells #[.int .u64 (x : Int), .int .i64 (q : Int), .int .i64 0] 58)).alloc (.cells #[.int .i64 (min (x : Int) 1048576)] 3)).cell? ((⟨w3.heap.size + 1, 0, none⟩ : Addr).add j) = some u := by rw [← hsz]; exact cell_one_new _ _ _
              have D6 := D5.out.alloc (.cells #[.int .i64 (min (x : Int) 1048576)] 3)
              have K6 := Hid.intro (blk_alloc K5.out (.cells #[.int .i64 (min (x : Int) 1048576)] 3))
              have B6 := Hid.intro (Below.alloc B5.out (Below.size B5.out) (.cells #[.int .i64 (min (x : Int) 1048576)] 3))
              have rcx : min (x : Int) 1048576 = rc x := rfl
              have RCX := Hid.intro rcx
              clear hsz rcx K5 B5 D5
              go_wp2_with (first | (at_builtin; refine wpList_push _ rfl (.tmp 43) (.tmp 48) 22 rfl 3 i0 (.int .i64 0) 1 8 Try.underlying22 hi0 hz0 hz1 hz2 rfl (by decide) (by decide) _ n (ivs (acc.map rc)) rfl D6 ⟨w3.heap.size + 1, 0, none⟩ 1 1 [.int .i64 (min (x : Int) 1048576)] rfl rfl CN (by intro u hu; simp at hu; subst hu; rfl) (by omega) ?_) | go_in)
              intro v2 w2 g1 g2 g3
              have ss := rg_step D2.out B6.out K6.out g2 g3
              have G : Hid (RgRel D sl i w v2 (.int .i64 (q : Int)) w2 ∧ slen v2 = n + 1) := ⟨⟨q, f - 1, acc ++ [x], HQ.out.1, HQ.out.2.1, rfl, by rw [List.length_append, List.map_append, ivs_app, HN.out]; exact g1, ss.1, ss.2.1, ss.2.2, fun _ => HDD (), fun h => by have := HN.out; have := HQ.out.2.2.2; simp at h; omega, by have := HN.out; have := HQ.out.2.2; simp; omega, by have := HN.out; have := HQ.out.2.2.2; simp; omega⟩, own_slen g1⟩
              clear g1 g2 g3 ss CN D6 K6 B6 D2
              go_wp2_with fail
              go_roundw
              case rel => exact G.out.1
              case measure => rw [G.out.2]; simp [slen]; omega
            · obtain ⟨q, hq0⟩ : ∃ q, p + k = q := ⟨_, rfl⟩
              rw [hq0] at hpk hdd
              obtain ⟨m, j, z2, hR2⟩ : ∃ m j z2, numb (sl.drop q) = (m, j, z2) := ⟨_, _, _, rfl⟩
              have W2 := hdd m j z2 hR2
              have G1b := fun W => RV.out q W (by rw [← SL.out]; exact hpk)
              have HI := Hid.intro hq2
              rcases W2 with ⟨hz, hdE⟩ | ⟨rfl, hqj, m64, hd3, hd4, hd5⟩
              · have G2 : Unit → g = (z2, [], 0) := fun _ => GE () z2 [] [] hdE hz
                clear GE GM GP d1 d2 d3 d4 d5 d6 d7 d8 r1 hdd hdE
                go_wp2_with fail
                with_reducible refine G1.mono ?_
                rintro e w3 ⟨g2, -, b3⟩
                have g2 := g2 0 k hR
                rw [hq0, show ((0 : Nat) : Int) = 0 from rfl] at g2
                subst g2
                clear G1 hR hq0
                have B4 := B3.out.trans (b3.mono B3.out.size)
                have K4 := blk_below K3.out b3 (blk_lt K3.out)
                have D4 := own_later D1.out b3
                have K5 := Hid.intro (blk_alloc K4 (.cells #[.int .u64 0, .int .i64 (q : Int), .int .i64 0] 58))
                have B5 := Hid.intro (Below.alloc B4 (Below.size B4) (.cells #[.int .u64 0, .int .i64 (q : Int), .int .i64 0] 58))
                have D5 := Hid.intro (D4.alloc (.cells #[.int .u64 0, .int .i64 (q : Int), .int .i64 0] 58))
                clear b3 B4 K4 K3 B3 D1 D4
                go_wp2_with fail
                with_reducible refine (G1b _).mono ?_
                rintro e w5 ⟨g3, g4, b5⟩
                have B6 := B5.out.trans (b5.mono B5.out.size)
                have K6 := blk_below K5.out b5 (blk_lt K5.out)
                have D6 := own_later D5.out b5
                obtain rfl := g4 m j z2 hR2 hz
                clear g3 g4 G1b hR2
                have K7 := Hid.intro (blk_alloc K6 (.cells #[.int .u64 0, .int .i64 0, .int .i64 (z2 : Int)] 58))
                have B7 := Hid.intro (Below.alloc B6 (Below.size B6) (.cells #[.int .u64 0, .int .i64 0, .int .i64 (z2 : Int)] 58))
                clear b5 B6 K6 D6 K5 B5 D5
                obtain ⟨q1, q2, q3, q4, -⟩ := res3 w (w5.alloc (.cells #[.int .u64 0, .int .i64 0, .int .i64 (z2 : Int)] 58)) B7.out K7.out (.slice none 0 0) (.int .i64 0) (.int .i64 (z2 : Int))
                have Q1 := Hid.intro q1
                have c0 : (w5.alloc (.cells #[.int .u64 0, .int .i64 0, .int .i64 (z2 : Int)] 58)).cell? ⟨w.heap.size, 0, none⟩ = some (.slice none 0 0) := by rw [blk_cell K7.out]; rfl
                have c1 : (w5.alloc (.cells #[.int .u64 0, .int .i64 0, .int .i64 (z2 : Int)] 58)).cell? ⟨w.heap.size, 1, none⟩ = some (.int .i64 0) := by rw [blk_cell K7.out]; rfl
                have c2 : (w5.alloc (.cells #[.int .u64 0, .int .i64 0, .int .i64 (z2 : Int)] 58)).cell? ⟨w.heap.size, 2, none⟩ = some (.int .i64 0) := by rw [blk_cell K7.out]; rfl
                have f0 := blk_free K7.out 0
                have f1 := blk_free K7.out 1
                have f2 := blk_free K7.out 2
                clear q1
                go_wp2_with fail
                refine bodyPost_ret (v := .agg #[(.slice none 0 0), (.int .i64 0), (.int .i64 (z2 : Int))]) (by simp [results, Try.results13, go_sem, q2, q3, q4]) rfl ?_
                rw [G2 ()]; exact rgp_none Q1.out
              · obtain ⟨t, ht⟩ : ∃ t, q + j = t := ⟨_, rfl⟩
                rw [ht] at hqj hd5
                have hm18 : (m : Int) ≤ 18446744073709551615 := by omega
                by_cases hm65 : 65 ≤ m
                · have G2 : Unit → g = (3, [], 0) := fun _ => GE () 3 [] [] (hd3 hm65) (by decide)
                  clear GE GM GP d1 d2 d3 d4 d5 d6 d7 d8 r1 hdd hd3 hd4 hd5
                  go_wp2_with fail
                  with_reducible refine G1.mono ?_
                  rintro e w3 ⟨g2, -, b3⟩
                  have g2 := g2 0 k hR
                  rw [hq0, show ((0 : Nat) : Int) = 0 from rfl] at g2
                  subst g2
                  clear G1 hR hq0
                  have B4 := B3.out.trans (b3.mono B3.out.size)
                  have K4 := blk_below K3.out b3 (blk_lt K3.out)
                  have D4 := own_later D1.out b3
                  have K5 := Hid.intro (blk_alloc K4 (.cells #[.int .u64 0, .int .i64 (q : Int), .int .i64 0] 58))
                  have B5 := Hid.intro (Below.alloc B4 (Below.size B4) (.cells #[.int .u64 0, .int .i64 (q : Int), .int .i64 0] 58))
                  have D5 := Hid.intro (D4.alloc (.cells #[.int .u64 0, .int .i64 (q : Int), .int .i64 0] 58))
                  clear b3 B4 K4 K3 B3 D1 D4
                  go_wp2_with fail
                  with_reducible refine (G1b _).mono ?_
                  rintro e w5 ⟨g3, g4, b5⟩
                  have B6 := B5.out.trans (b5.mono B5.out.size)
                  have K6 := blk_below K5.out b5 (blk_lt K5.out)
                  have D6 := own_later D5.out b5
                  have g3 := g3 m j hR2
                  rw [ht] at g3
                  subst g3
                  clear g4 G1b hR2 ht
                  have K7 := Hid.intro (blk_alloc K6 (.cells #[.int .u64 (m : Int), .int .i64 (t : Int), .int .i64 0] 58))
                  have B7 := Hid.intro (Below.alloc B6 (Below.size B6) (.cells #[.int .u64 (m : Int), .int .i64 (t : Int), .int .i64 0] 58))
                  clear b5 B6 K6 D6 K5 B5 D5
                  obtain ⟨q1, q2, q3, q4, -⟩ := res3 w (w5.alloc (.cells #[.int .u64 (m : Int), .int .i64 (t : Int), .int .i64 0] 58)) B7.out K7.out (.slice none 0 0) (.int .i64 0) (.int .i64 3)
                  have Q1 := Hid.intro q1
                  have c0 : (w5.alloc (.cells #[.int .u64 (m : Int), .int .i64 (t : Int), .int .i64 0] 58)).cell? ⟨w.heap.size, 0, none⟩ = some (.slice none 0 0) := by rw [blk_cell K7.out]; rfl
                  have c1 : (w5.alloc (.cells #[.int .u64 (m : Int), .int .i64 (t : Int), .int .i64 0] 58)).cell? ⟨w.heap.size, 1, none⟩ = some (.int .i64 0) := by rw [blk_cell K7.out]; rfl
                  have c2 : (w5.alloc (.cells #[.int .u64 (m : Int), .int .i64 (t : Int), .int .i64 0] 58)).cell? ⟨w.heap.size, 2, none⟩ = some (.int .i64 0) := by rw [blk_cell K7.out]; rfl
                  have f0 := blk_free K7.out 0
                  have f1 := blk_free K7.out 1
                  have f2 := blk_free K7.out 2
                  clear q1
                  go_wp2_with fail
                  refine bodyPost_ret (v := .agg #[(.slice none 0 0), (.int .i64 0), (.int .i64 3)]) (by simp [results, Try.results13, go_sem, q2, q3, q4]) rfl ?_
                  rw [G2 ()]; exact rgp_none Q1.out
                · obtain ⟨n, hn⟩ : ∃ n, acc.length = n := ⟨_, rfl⟩
                  have HN := Hid.intro hn
                  rw [hn] at hlt hc D1 D2 d7 hd4 hd5
                  obtain ⟨m1, hm1⟩ : ∃ m1 : Nat, (m : Int) + 1 = (m1 : Int) := ⟨m + 1, by omega⟩
                  have em : m + 1 = m1 := by omega
                  rw [em] at hd4 hd5
                  have HD4 := Hid.intro hd4
                  have HD5 := Hid.intro hd5
                  have HQ := Hid.intro (show i ≤ t ∧ t ≤ sl.length ∧ 65 ≤ f + n ∧ n < 65 ∧ 1 ≤ m1 ∧ m1 ≤ 65 from ⟨by omega, hqj, d7, hlt, by omega, by omega⟩)
                  have m1a : 1 ≤ m1 := by omega
                  have m1b : m1 ≤ 65 := by omega
                  simp only [hn]
                  clear GE GM GP d1 d2 d3 d4 d5 d6 d7 d8 r1 hdd hd3 hd4 hd5 hn
                  go_wp2_with fail
                  with_reducible refine G1.mono ?_
                  rintro e w3 ⟨g2, -, b3⟩
                  have g2 := g2 0 k hR
                  rw [hq0, show ((0 : Nat) : Int) = 0 from rfl] at g2
                  subst g2
                  clear G1 hR hq0
                  have B4 := B3.out.trans (b3.mono B3.out.size)
                  have K4 := blk_below K3.out b3 (blk_lt K3.out)
                  have D4 := own_later D1.out b3
                  have K5 := Hid.intro (blk_alloc K4 (.cells #[.int .u64 0, .int .i64 (q : Int), .int .i64 0] 58))
                  have B5 := Hid.intro (Below.alloc B4 (Below.size B4) (.cells #[.int .u64 0, .int .i64 (q : Int), .int .i64 0] 58))
                  have D5 := Hid.intro (D4.alloc (.cells #[.int .u64 0, .int .i64 (q : Int), .int .i64 0] 58))
                  clear b3 B4 K4 K3 B3 D1 D4
                  go_wp2_with fail
                  with_reducible refine (G1b _).mono ?_
                  rintro e w5 ⟨g3, g4, b5⟩
                  have B6 := B5.out.trans (b5.mono B5.out.size)
                  have K6 := blk_below K5.out b5 (blk_lt K5.out)
                  have D6 := own_later D5.out b5
                  have g3 := g3 m j hR2
                  rw [ht] at g3
                  subst g3
                  clear g4 G1b hR2 ht
                  have K7 := Hid.intro (blk_alloc K6 (.cells #[.int .u64 (m : Int), .int .i64 (t : Int), .int .i64 0] 58))
                  have B7 := Hid.intro (Below.alloc B6 (Below.size B6) (.cells #[.int .u64 (m : Int), .int .i64 (t : Int), .int .i64 0] 58))
                  have D7 := Hid.intro (D6.alloc (.cells #[.int .u64 (m : Int), .int .i64 (t : Int), .int .i64 0] 58))
                  clear b5 B6 K6 D6 K5 B5 D5
                  obtain ⟨v2, w2, hr, g1, g2, g3⟩ := run_pushZ2 (w5.alloc (.cells #[.int .u64 (m : Int), .int .i64 (t : Int), .int .i64 0] 58)) 22 _ n m1 (ivs (acc.map rc)) D7.out m1a (by omega)
                  have ss := rg_step D2.out B7.out K7.out g2 g3
                  have G : Hid (RgRel D sl i w v2 (.int .i64 (t : Int)) w2 ∧ slen v2 = n + m1) := ⟨⟨t, f - 1, acc ++ List.replicate m1 0, HQ.out.1, HQ.out.2.1, rfl, by rw [List.length_append, List.map_append, ivs_app, rc_zero, HN.out, List.length_replicate]; exact g1, ss.1, ss.2.1, ss.2.2, fun h => HD5.out (by have := HN.out; simp at h; omega), fun h => HD4.out (by have := HN.out; simp at h; omega), by have := HN.out; have := HQ.out.2.2; simp; omega, by have := HN.out; have := HQ.out.2.2.2; simp; omega⟩, own_slen g1⟩
                  have HR := Hid.intro hr
                  clear g1 g2 g3 ss hr D7 K7 B7 D2 HD4 HD5
                  go_wp2_with (first | (at_builtin; refine Lib.wpList_append_run _ rfl (.tmp 65) (.tmp 68) 22 56 rfl _ _ rfl rfl _ _ HR.out ?_) | go_in)
                  clear HR
                  go_wp2_with fail
                  go_roundw
                  case rel => exact G.out.1
                  case measure => rw [G.out.2]; simp [slen]; omega
          · have R1 := Hid.intro r1
            obtain ⟨n, hn⟩ : ∃ n, acc.length = n := ⟨_, rfl⟩
            have HN := Hid.intro hn
            rw [hn] at hc D1 D2 R1 hlt d8
            have RM : Hid (∀ W, Below wr.heap.size wr W → Calls Try.prog 17 #[.slice a n cap, .int .i64 z] W fun e w' => e = .returned (.bool (may z (acc.map rc))) ∧ Below W.heap.size W w') := fun W hW => rmay_any a n cap (acc.map rc) z W (ri_below R1.out hW) (by omega)
            rw [conv_may (conv_rc acc) z] at RM
            have hps : p ≤ s.size := by rw [← SL.out]; exact hq
            simp only [hn]
            by_cases hmay : mayN z acc = true
            · have l65 : n = 65 := by rw [← hn]; exact (mayN_yes.1 hmay).2.1
              have hD : D = (0, acc, sl.drop p) := by rw [← d5 (by omega), decB_done f acc _ (by omega)]
              have GP2 := GP () p acc hq2 hq hD hmay
              rw [hmay] at RM
              have mc := conv_eq (conv_rc acc) hmay
              have MC := Hid.intro mc
              rw [mc] at R1
              have RP : Hid (∀ W, Below wr.heap.size wr W → Calls Try.prog 19 #[.slice a n cap] W fun e w' => e = .returned (.string (bs (encN acc))) ∧ Below W.heap.size W w') := fun W hW => rput_any a n cap acc W (ri_below R1.out hW) (by omega) (fun x hx => by have := mayN_bd hmay x hx; omega)
              have sl1 : ∀ W, (Instr.slice 9 (.string s) (some (.int .i64 (i : Int))) (some (.int .i64 (p : Int))) none).run Try.prog W = .ok (.string (s.extract i p)) W := fun W => by
                have := run_slice_string (P := Try.prog) W 9 s .i64 .i64 (i : Int) (p : Int) Try.underlying9 (by omega) (by omega) (by omega)
                simpa using this
              have CD : Hid ((s.extract i p).data.toList = (sl.drop i).take (p - i)) := CX.out i p
              have CE : Hid ((bs (encN acc)).data.toList = encN acc) := bs_data _
              have TB := Hid.intro (tl_beq (bs (encN acc)) (s.extract i p))
              obtain ⟨pa, hpa⟩ : ∃ pa, bs (encN acc) = pa := ⟨_, rfl⟩
              obtain ⟨ct, hct⟩ : ∃ ct, s.extract i p = ct := ⟨_, rfl⟩
              simp only [hct] at sl1 CD TB
              simp only [hpa] at RP CE TB
              clear GE GM GP d1 d2 d3 d4 d5 d6 d7 d8 r1 hct hpa hn hmay hD mc R1 RV CX SL l65
              by_cases hput : encN acc = (sl.drop i).take (p - i)
              · have u0 : (pa.toList == ct.toList) = true := by rw [TB.out, decide_eq_true_eq, CE.out, CD.out]; exact hput
                have u1 : (pa.toList != ct.toList) = false := by rw [bne, u0]; rfl
                have G2 : Unit → g = (0, acc, p) := fun _ => by rw [GP2, if_pos hput]
                clear GP2 hput TB CE CD
                go_wp2_with fail
                refine wp_region_held_drew (S := fun W => Below wr.heap.size wr W) (by kernel_rfl) (Below.refl _ _).drew (fun hHeld => ?_)
                refine take' (i := 0) (d := (some 70)) (v := ?_) rfl rfl (by kernel_rfl) (by kernel_rfl) (by kernel_rfl) (fun _ _ _ h => h) (Or.inl ⟨by rfl, ?_⟩) (by assumption) ?_
                rotate_left
                · intro w hSw; (try dsimp only at hSw); go_simp; try with_reducible rfl
                try simp only [Act.put, List.setIfInBounds_toArray, List.set_cons_zero, List.set_cons_succ]
                refine take' (i := 1) (d := (some 71)) (v := ?_) rfl rfl (by kernel_rfl) (by kernel_rfl) (by kernel_rfl) (fun _ _ _ h => h) (Or.inl ⟨by rfl, ?_⟩) (by assumption) ?_
                rotate_left
                · intro w hSw; (try dsimp only at hSw); go_simp; try with_reducible rfl
                try simp only [Act.put, List.setIfInBounds_toArray, List.set_cons_zero, List.set_cons_succ]
                refine wpAnyH_ready (rs := [2]) (by kernel_rfl) (by simp) ?_
                refine AllReadyH.cons (o := _) rfl (fun K hK => ?_) AllReadyH.nil
                go_simp
                with_reducible refine (RM.out _ hHeld).mono ?_
                rintro e w10 ⟨rfl, hb10⟩
                go_wp2_with fail
                refine hK.out _ _ (hHeld.trans (hb10.mono hHeld.size)) (fun hHeld => ?_)
                clear hK K
                try simp only [Act.put, List.setIfInBounds_toArray, List.set_cons_zero, List.set_cons_succ]
                refine take' (i := 3) (d := (some 73)) (v := ?_) rfl rfl (by kernel_rfl) (by kernel_rfl) (by kernel_rfl) (fun _ _ _ h => h) (Or.inl ⟨by rfl, ?_⟩) (by assumption) ?_
                rotate_left
                · intro w hSw; (try dsimp only at hSw); go_simp; try with_reducible rfl
                try simp only [Act.put, List.setIfInBounds_toArray, List.set_cons_zero, List.set_cons_succ]
                refine take' (i := 4) (d := (some 74)) (v := ?_) rfl rfl (by kernel_rfl) (by kernel_rfl) (by kernel_rfl) (fun _ _ _ h => h) (Or.inl ⟨by rfl, ?_⟩) (by assumption) ?_
                rotate_left
                · intro w hSw; (try dsimp only at hSw); go_simp; try with_reducible rfl
                try simp only [Act.put, List.setIfInBounds_toArray, List.set_cons_zero, List.set_cons_succ]
                refine take' (i := 5) (d := (some 75)) (v := ?_) rfl rfl (by kernel_rfl) (by kernel_rfl) (by kernel_rfl) (fun _ _ _ h => h) (Or.inl ⟨by rfl, ?_⟩) (by assumption) ?_
                rotate_left
                · intro w hSw; (try dsimp only at hSw); go_simp; try with_reducible rfl
                try simp only [Act.put, List.setIfInBounds_toArray, List.set_cons_zero, List.set_cons_succ]
                refine take' (i := 7) (d := (some 77)) (v := ?_) rfl rfl (by kernel_rfl) (by kernel_rfl) (by kernel_rfl) (fun _ _ _ h => h) (Or.inl ⟨by rfl, ?_⟩) (by assumption) ?_
                rotate_left
                · intro w hSw; (try dsimp only at hSw); go_simp; try with_reducible rfl
                try simp only [Act.put, List.setIfInBounds_toArray, List.set_cons_zero, List.set_cons_succ]
                refine take' (i := 8) (d := (some 78)) (v := ?_) rfl rfl (by kernel_rfl) (by kernel_rfl) (by kernel_rfl) (fun _ _ _ h => h) (Or.inl ⟨by rfl, ?_⟩) (by assumption) ?_
                rotate_left
                · intro w hSw; (try dsimp only at hSw); go_simp; try with_reducible rfl
                try simp only [Act.put, List.setIfInBounds_toArray, List.set_cons_zero, List.set_cons_succ]
                refine take' (i := 9) (d := (some 79)) (v := ?_) rfl rfl (by kernel_rfl) (by kernel_rfl) (by kernel_rfl) (fun _ _ _ h => h) (Or.inl ⟨by rfl, ?_⟩) (by assumption) ?_
                rotate_left
                · intro w hSw; (try dsimp only at hSw); go_simp; try with_reducible rfl
                try simp only [Act.put, List.setIfInBounds_toArray, List.set_cons_zero, List.set_cons_succ]
                refine take' (i := 10) (d := (some 80)) (v := ?_) rfl rfl (by kernel_rfl) (by kernel_rfl) (by kernel_rfl) (fun _ _ _ h => h) (Or.inl ⟨by rfl, ?_⟩) (by assumption) ?_
                rotate_left
                · intro w hSw; (try dsimp only at hSw); go_simp; try with_reducible rfl
                try simp only [Act.put, List.setIfInBounds_toArray, List.set_cons_zero, List.set_cons_succ]
                refine wpAnyH_ready (rs := [6]) (by kernel_rfl) (by simp) ?_
                refine AllReadyH.cons (o := _) rfl (fun K hK => ?_) AllReadyH.nil
                go_simp
                with_reducible refine (RP.out _ hHeld).mono ?_
                rintro e w11 ⟨rfl, hb11⟩
                go_wp2_with fail
                refine hK.out _ _ (hHeld.trans (hb11.mono hHeld.size)) (fun hHeld => ?_)
                clear hK K
                try simp only [Act.put, List.setIfInBounds_toArray, List.set_cons_zero, List.set_cons_succ]
                refine take' (i := 11) (d := (some 81)) (v := ?_) rfl rfl (by kernel_rfl) (by kernel_rfl) (by kernel_rfl) (fun _ _ _ h => h) (Or.inl ⟨by rfl, ?_⟩) (by assumption) ?_
                rotate_left
                · intro w hSw; (try dsimp only at hSw); go_simp; try with_reducible rfl
                try simp only [Act.put, List.setIfInBounds_toArray, List.set_cons_zero, List.set_cons_succ]
                refine take' (i := 12) (d := (some 82)) (v := ?_) rfl rfl (by kernel_rfl) (by kernel_rfl) (by kernel_rfl) (fun _ _ _ h => h) (Or.inl ⟨by rfl, ?_⟩) (by assumption) ?_
                rotate_left
                · intro w hSw; (try dsimp only at hSw); go_simp; try with_reducible rfl
                try simp only [Act.put, List.setIfInBounds_toArray, List.set_cons_zero, List.set_cons_succ]
                refine wpAnyH_done (by kernel_rfl) ?_ _
                have BB := Hid.intro (B3.out.trans (hHeld.mono B3.out.size))
                have KK := Hid.intro (blk_below K3.out hHeld (blk_lt K3.out))
                have R3 := Hid.intro (own_later D1.out hHeld)
                clear hHeld B3 K3 D1
                obtain ⟨q1, q2, q3, q4, q5⟩ := res3 w (w11) BB.out KK.out (.slice a n cap) (.int .i64 (p : Int)) (.int .i64 0)
                have Q1 := Hid.intro q1
                have RR := Hid.intro (ri_own_kept R3.out q5 D2.out)
                rw [MC.out] at RR
                clear R3
                have c0 : (w11).cell? ⟨w.heap.size, 0, none⟩ = some (.slice none 0 0) := by rw [blk_cell KK.out]; rfl
                have c1 : (w11).cell? ⟨w.heap.size, 1, none⟩ = some (.int .i64 0) := by rw [blk_cell KK.out]; rfl
                have c2 : (w11).cell? ⟨w.heap.size, 2, none⟩ = some (.int .i64 0) := by rw [blk_cell KK.out]; rfl
                have f0 := blk_free KK.out 0
                have f1 := blk_free KK.out 1
                have f2 := blk_free KK.out 2
                clear q1 q5
                go_wp2_with fail
                refine bodyPost_ret (v := .agg #[(.slice a n cap), (.int .i64 (p : Int)), (.int .i64 0)]) (by simp [results, Try.results13, go_sem, q2, q3, q4]) rfl ?_
                rw [G2 ()]; exact ⟨a, n, cap, rfl, RR.out, Q1.out⟩
              · have u0 : (pa.toList == ct.toList) = false := by rw [TB.out, decide_eq_false_iff_not, CE.out, CD.out]; exact hput
                have u1 : (pa.toList != ct.toList) = true := by rw [bne, u0]; rfl
                have G2 : Unit → g = (3, [], 0) := fun _ => by rw [GP2, if_neg hput]
                clear GP2 hput TB CE CD
                go_wp2_with fail
                refine wp_region_held_drew (S := fun W => Below wr.heap.size wr W) (by kernel_rfl) (Below.refl _ _).drew (fun hHeld => ?_)
                refine take' (i := 0) (d := (some 70)) (v := ?_) rfl rfl (by kernel_rfl) (by kernel_rfl) (by kernel_rfl) (fun _ _ _ h => h) (Or.inl ⟨by rfl, ?_⟩) (by assumption) ?_
                rotate_left
                · intro w hSw; (try dsimp only at hSw); go_simp; try with_reducible rfl
                try simp only [Act.put, List.setIfInBounds_toArray, List.set_cons_zero, List.set_cons_succ]
                refine take' (i := 1) (d := (some 71)) (v := ?_) rfl rfl (by kernel_rfl) (by kernel_rfl) (by kernel_rfl) (fun _ _ _ h => h) (Or.inl ⟨by rfl, ?_⟩) (by assumption) ?_
                rotate_left
                · intro w hSw; (try dsimp only at hSw); go_simp; try with_reducible rfl
                try simp only [Act.put, List.setIfInBounds_toArray, List.set_cons_zero, List.set_cons_succ]
                refine wpAnyH_ready (rs := [2]) (by kernel_rfl) (by simp) ?_
                refine AllReadyH.cons (o := _) rfl (fun K hK => ?_) AllReadyH.nil
                go_simp
                with_reducible refine (RM.out _ hHeld).mono ?_
                rintro e w10 ⟨rfl, hb10⟩
                go_wp2_with fail
                refine hK.out _ _ (hHeld.trans (hb10.mono hHeld.size)) (fun hHeld => ?_)
                clear hK K
                try simp only [Act.put, List.setIfInBounds_toArray, List.set_cons_zero, List.set_cons_succ]
                refine take' (i := 3) (d := (some 73)) (v := ?_) rfl rfl (by kernel_rfl) (by kernel_rfl) (by kernel_rfl) (fun _ _ _ h => h) (Or.inl ⟨by rfl, ?_⟩) (by assumption) ?_
                rotate_left
                · intro w hSw; (try dsimp only at hSw); go_simp; try with_reducible rfl
                try simp only [Act.put, List.setIfInBounds_toArray, List.set_cons_zero, List.set_cons_succ]
                refine take' (i := 4) (d := (some 74)) (v := ?_) rfl rfl (by kernel_rfl) (by kernel_rfl) (by kernel_rfl) (fun _ _ _ h => h) (Or.inl ⟨by rfl, ?_⟩) (by assumption) ?_
                rotate_left
                · intro w hSw; (try dsimp only at hSw); go_simp; try with_reducible rfl
                try simp only [Act.put, List.setIfInBounds_toArray, List.set_cons_zero, List.set_cons_succ]
                refine take' (i := 5) (d := (some 75)) (v := ?_) rfl rfl (by kernel_rfl) (by kernel_rfl) (by kernel_rfl) (fun _ _ _ h => h) (Or.inl ⟨by rfl, ?_⟩) (by assumption) ?_
                rotate_left
                · intro w hSw; (try dsimp only at hSw); go_simp; try with_reducible rfl
                try simp only [Act.put, List.setIfInBounds_toArray, List.set_cons_zero, List.set_cons_succ]
                refine take' (i := 7) (d := (some 77)) (v := ?_) rfl rfl (by kernel_rfl) (by kernel_rfl) (by kernel_rfl) (fun _ _ _ h => h) (Or.inl ⟨by rfl, ?_⟩) (by assumption) ?_
                rotate_left
                · intro w hSw; (try dsimp only at hSw); go_simp; try with_reducible rfl
                try simp only [Act.put, List.setIfInBounds_toArray, List.set_cons_zero, List.set_cons_succ]
                refine take' (i := 8) (d := (some 78)) (v := ?_) rfl rfl (by kernel_rfl) (by kernel_rfl) (by kernel_rfl) (fun _ _ _ h => h) (Or.inl ⟨by rfl, ?_⟩) (by assumption) ?_
                rotate_left
                · intro w hSw; (try dsimp only at hSw); go_simp; try with_reducible rfl
                try simp only [Act.put, List.setIfInBounds_toArray, List.set_cons_zero, List.set_cons_succ]
                refine take' (i := 9) (d := (some 79)) (v := ?_) rfl rfl (by kernel_rfl) (by kernel_rfl) (by kernel_rfl) (fun _ _ _ h => h) (Or.inl ⟨by rfl, ?_⟩) (by assumption) ?_
                rotate_left
                · intro w hSw; (try dsimp only at hSw); go_simp; try with_reducible rfl
                try simp only [Act.put, List.setIfInBounds_toArray, List.set_cons_zero, List.set_cons_succ]
                refine take' (i := 10) (d := (some 80)) (v := ?_) rfl rfl (by kernel_rfl) (by kernel_rfl) (by kernel_rfl) (fun _ _ _ h => h) (Or.inl ⟨by rfl, ?_⟩) (by assumption) ?_
                rotate_left
                · intro w hSw; (try dsimp only at hSw); go_simp; try with_reducible rfl
                try simp only [Act.put, List.setIfInBounds_toArray, List.set_cons_zero, List.set_cons_succ]
                refine wpAnyH_ready (rs := [6]) (by kernel_rfl) (by simp) ?_
                refine AllReadyH.cons (o := _) rfl (fun K hK => ?_) AllReadyH.nil
                go_simp
                with_reducible refine (RP.out _ hHeld).mono ?_
                rintro e w11 ⟨rfl, hb11⟩
                go_wp2_with fail
                refine hK.out _ _ (hHeld.trans (hb11.mono hHeld.size)) (fun hHeld => ?_)
                clear hK K
                try simp only [Act.put, List.setIfInBounds_toArray, List.set_cons_zero, List.set_cons_succ]
                refine take' (i := 11) (d := (some 81)) (v := ?_) rfl rfl (by kernel_rfl) (by kernel_rfl) (by kernel_rfl) (fun _ _ _ h => h) (Or.inl ⟨by rfl, ?_⟩) (by assumption) ?_
                rotate_left
                · intro w hSw; (try dsimp only at hSw); go_simp; try with_reducible rfl
                try simp only [Act.put, List.setIfInBounds_toArray, List.set_cons_zero, List.set_cons_succ]
                refine take' (i := 12) (d := (some 82)) (v := ?_) rfl rfl (by kernel_rfl) (by kernel_rfl) (by kernel_rfl) (fun _ _ _ h => h) (Or.inl ⟨by rfl, ?_⟩) (by assumption) ?_
                rotate_left
                · intro w hSw; (try dsimp only at hSw); go_simp; try with_reducible rfl
                try simp only [Act.put, List.setIfInBounds_toArray, List.set_cons_zero, List.set_cons_succ]
                refine wpAnyH_done (by kernel_rfl) ?_ _
                have BB := Hid.intro (B3.out.trans (hHeld.mono B3.out.size))
                have KK := Hid.intro (blk_below K3.out hHeld (blk_lt K3.out))
                have R3 := Hid.intro (own_later D1.out hHeld)
                clear hHeld B3 K3 D1
                clear R3
                obtain ⟨q1, q2, q3, q4, -⟩ := res3 w (w11) BB.out KK.out (.slice none 0 0) (.int .i64 0) (.int .i64 3)
                have Q1 := Hid.intro q1
                have c0 : (w11).cell? ⟨w.heap.size, 0, none⟩ = some (.slice none 0 0) := by rw [blk_cell KK.out]; rfl
                have c1 : (w11).cell? ⟨w.heap.size, 1, none⟩ = some (.int .i64 0) := by rw [blk_cell KK.out]; rfl
                have c2 : (w11).cell? ⟨w.heap.size, 2, none⟩ = some (.int .i64 0) := by rw [blk_cell KK.out]; rfl
                have f0 := blk_free KK.out 0
                have f1 := blk_free KK.out 1
                have f2 := blk_free KK.out 2
                clear q1
                go_wp2_with fail
                refine bodyPost_ret (v := .agg #[(.slice none 0 0), (.int .i64 0), (.int .i64 3)]) (by simp [results, Try.results13, go_sem, q2, q3, q4]) rfl ?_
                rw [G2 ()]; exact rgp_none Q1.out
            · have hmf : mayN z acc = false := by simpa using hmay
              rw [hmf] at RM
              have G2 : Unit → g = (3, [], 0) := fun _ => by
                by_cases h65 : n ≤ 65
                · exact GM () acc (sl.drop p) (by rw [← d5 (by omega), decB_done f acc _ (by omega)]) hmf
                · exact GE () 3 [] [] (d6 (by omega)) (by decide)
              clear GE GM GP d1 d2 d3 d4 d5 d6 d7 d8 r1 hn hmay hmf R1 RV CX SL
              go_wp2_with fail
              refine wp_region_held_drew (S := fun W => Below wr.heap.size wr W) (by kernel_rfl) (Below.refl _ _).drew (fun hHeld => ?_)
              refine take' (i := 0) (d := (some 70)) (v := ?_) rfl rfl (by kernel_rfl) (by kernel_rfl) (by kernel_rfl) (fun _ _ _ h => h) (Or.inl ⟨by rfl, ?_⟩) (by assumption) ?_
              rotate_left
              · intro w hSw; (try dsimp only at hSw); go_simp; try with_reducible rfl
              try simp only [Act.put, List.setIfInBounds_toArray, List.set_cons_zero, List.set_cons_succ]
              refine take' (i := 1) (d := (some 71)) (v := ?_) rfl rfl (by kernel_rfl) (by kernel_rfl) (by kernel_rfl) (fun _ _ _ h => h) (Or.inl ⟨by rfl, ?_⟩) (by assumption) ?_
              rotate_left
              · intro w hSw; (try dsimp only at hSw); go_simp; try with_reducible rfl
              try simp only [Act.put, List.setIfInBounds_toArray, List.set_cons_zero, List.set_cons_succ]
              refine wpAnyH_ready (rs := [2]) (by kernel_rfl) (by simp) ?_
              refine AllReadyH.cons (o := _) rfl (fun K hK => ?_) AllReadyH.nil
              go_simp
              with_reducible refine (RM.out _ hHeld).mono ?_
              rintro e w10 ⟨rfl, hb10⟩
              go_wp2_with fail
              refine hK.out _ _ (hHeld.trans (hb10.mono hHeld.size)) (fun hHeld => ?_)
              clear hK K
              try simp only [Act.put, List.setIfInBounds_toArray, List.set_cons_zero, List.set_cons_succ]
              refine take' (i := 3) (d := (some 73)) (v := ?_) rfl rfl (by kernel_rfl) (by kernel_rfl) (by kernel_rfl) (fun _ _ _ h => h) (Or.inl ⟨by rfl, ?_⟩) (by assumption) ?_
              rotate_left
              · intro w hSw; (try dsimp only at hSw); go_simp; try with_reducible rfl
              try simp only [Act.put, List.setIfInBounds_toArray, List.set_cons_zero, List.set_cons_succ]
              refine take' (i := 4) (d := (some 74)) (v := ?_) rfl rfl (by kernel_rfl) (by kernel_rfl) (by kernel_rfl) (fun _ _ _ h => h) (Or.inl ⟨by rfl, ?_⟩) (by assumption) ?_
              rotate_left
              · intro w hSw; (try dsimp only at hSw); go_simp; try with_reducible rfl
              try simp only [Act.put, List.setIfInBounds_toArray, List.set_cons_zero, List.set_cons_succ]
              refine take' (i := 5) (d := (some 75)) (v := undef) rfl rfl (by kernel_rfl) (by kernel_rfl) (by kernel_rfl) (fun _ _ _ h => h) (Or.inr ⟨by rfl, rfl⟩) (by assumption) ?_
              try simp only [Act.put, List.setIfInBounds_toArray, List.set_cons_zero, List.set_cons_succ]
              refine take' (i := 6) (d := (some 76)) (v := undef) rfl rfl (by kernel_rfl) (by kernel_rfl) (by kernel_rfl) (fun _ _ _ h => h) (Or.inr ⟨by rfl, rfl⟩) (by assumption) ?_
              try simp only [Act.put, List.setIfInBounds_toArray, List.set_cons_zero, List.set_cons_succ]
              refine take' (i := 7) (d := (some 77)) (v := undef) rfl rfl (by kernel_rfl) (by kernel_rfl) (by kernel_rfl) (fun _ _ _ h => h) (Or.inr ⟨by rfl, rfl⟩) (by assumption) ?_
              try simp only [Act.put, List.setIfInBounds_toArray, List.set_cons_zero, List.set_cons_succ]
              refine take' (i := 8) (d := (some 78)) (v := undef) rfl rfl (by kernel_rfl) (by kernel_rfl) (by kernel_rfl) (fun _ _ _ h => h) (Or.inr ⟨by rfl, rfl⟩) (by assumption) ?_
              try simp only [Act.put, List.setIfInBounds_toArray, List.set_cons_zero, List.set_cons_succ]
              refine take' (i := 9) (d := (some 79)) (v := undef) rfl rfl (by kernel_rfl) (by kernel_rfl) (by kernel_rfl) (fun _ _ _ h => h) (Or.inr ⟨by rfl, rfl⟩) (by assumption) ?_
              try simp only [Act.put, List.setIfInBounds_toArray, List.set_cons_zero, List.set_cons_succ]
              refine take' (i := 10) (d := (some 80)) (v := undef) rfl rfl (by kernel_rfl) (by kernel_rfl) (by kernel_rfl) (fun _ _ _ h => h) (Or.inr ⟨by rfl, rfl⟩) (by assumption) ?_
              try simp only [Act.put, List.setIfInBounds_toArray, List.set_cons_zero, List.set_cons_succ]
              refine take' (i := 11) (d := (some 81)) (v := undef) rfl rfl (by kernel_rfl) (by kernel_rfl) (by kernel_rfl) (fun _ _ _ h => h) (Or.inr ⟨by rfl, rfl⟩) (by assumption) ?_
              try simp only [Act.put, List.setIfInBounds_toArray, List.set_cons_zero, List.set_cons_succ]
              refine take' (i := 12) (d := (some 82)) (v := ?_) rfl rfl (by kernel_rfl) (by kernel_rfl) (by kernel_rfl) (fun _ _ _ h => h) (Or.inl ⟨by rfl, ?_⟩) (by assumption) ?_
              rotate_left
              · intro w hSw; (try dsimp only at hSw); go_simp; try with_reducible rfl
              try simp only [Act.put, List.setIfInBounds_toArray, List.set_cons_zero, List.set_cons_succ]
              refine wpAnyH_done (by kernel_rfl) ?_ _
              have BB := Hid.intro (B3.out.trans (hHeld.mono B3.out.size))
              have KK := Hid.intro (blk_below K3.out hHeld (blk_lt K3.out))
              have R3 := Hid.intro (own_later D1.out hHeld)
              clear hHeld B3 K3 D1
              clear R3
              obtain ⟨q1, q2, q3, q4, -⟩ := res3 w (w10) BB.out KK.out (.slice none 0 0) (.int .i64 0) (.int .i64 3)
              have Q1 := Hid.intro q1
              have c0 : (w10).cell? ⟨w.heap.size, 0, none⟩ = some (.slice none 0 0) := by rw [blk_cell KK.out]; rfl
              have c1 : (w10).cell? ⟨w.heap.size, 1, none⟩ = some (.int .i64 0) := by rw [blk_cell KK.out]; rfl
              have c2 : (w10).cell? ⟨w.heap.size, 2, none⟩ = some (.int .i64 0) := by rw [blk_cell KK.out]; rfl
              have f0 := blk_free KK.out 0
              have f1 := blk_free KK.out 1
              have f2 := blk_free KK.out 2
              clear q1
              go_wp2_with fail
              refine bodyPost_ret (v := .agg #[(.slice none 0 0), (.int .i64 0), (.int .i64 3)]) (by simp [results, Try.results13, go_sem, q2, q3, q4]) rfl ?_
              rw [G2 ()]; exact rgp_none Q1.out
      · have hlf : lgB z = false := by simpa using hlg
        have G : Unit → getN s.data.toList at' z = (1, [], 0) := fun _ => getN_arg (.inr (.inr hlf))
        generalize getN s.data.toList at' z = g at *
        rw [hlf] at IL
        clear b1 bk hlg
        have hge : 0 ≤ at' := by omega
        have hle : at' ≤ (s.size : Int) := by omega
        go_enter Try.func13, Try.ntmps13
        go_wp2_with fail
        with_reducible refine (IL _).mono ?_
        rintro e w1 ⟨rfl, hw1⟩
        subst hw1
        clear IL
        go_wp2_with fail
        refine bodyPost_ret (v := .agg #[.slice none 0 0, .int .i64 0, .int .i64 1]) (by simp [results, Try.results13, go_sem]) rfl ?_
        rw [G ()]; exact rgp_none ((Below.refl _ _).alloc (Nat.le_refl _) _)
end Go.Proofs.Ytplalkhjjndffaa
