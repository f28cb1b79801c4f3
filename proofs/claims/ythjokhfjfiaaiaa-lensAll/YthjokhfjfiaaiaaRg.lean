/-
  The reference's Get of lengths.
-/
import Derived.Test.YthjokhfjfiaaiaaRx
import Derived.Test.YthjokhfjfiaaiaaRp
import Derived.Test.YthjokhfjfiaaiaaRv
import Derived.Test.YthjokhfjfiaaiaaAl
namespace Go.Proofs.Ythjokhfjfiaaiaa
open Go.ChangeShapes Go.WideShapes Go.ChangeAt Go.RowKit
open Go.ChangeMaps (open_string shut_string)

/-- What the reference's Get leaves. -/
def RgPost (g : Nat × List Nat × Nat) (w : World) (e : Ending) (w' : World) : Prop :=
  ∃ a n cap, e = .returned (.agg #[.slice a n cap, .int .i64 (g.2.2 : Nat), .int .i64 (g.1 : Nat)]) ∧ RI w' a n (g.2.1.map Int.ofNat) ∧ n ≤ 80 ∧ Below w.heap.size w w'
theorem rgp_none {er : Nat} {w w' : World} (h : Below w.heap.size w w') : RgPost (er, [], 0) w (.returned (.agg #[.slice none 0 0, .int .i64 0, .int .i64 (er : Nat)])) w' :=
  ⟨none, 0, 0, rfl, ⟨rfl, fun h => by omega⟩, by omega, h⟩
def cz : Array Value := #[.slice none 0 0, .int .i64 0, .int .i64 0]
def RgRel (NS : List Nat) (D : Option (List Nat × List Nat)) (i : Nat) (w : World) (lv kv : Value) (wr : World) : Prop :=
  ∃ (q f : Nat) (acc : List Nat), 2 * i ≤ q ∧ q ≤ NS.length ∧ kv = .int .i64 q ∧ wr.ownsRow 0 3 1 lv acc.length (ni acc) ∧ From (w.heap.size + 1) lv ∧ Blk wr w.heap.size cz 28 ∧ Below w.heap.size w wr ∧ dec f acc (NS.drop q) = D ∧ 65 ≤ f + acc.length ∧ acc.length ≤ 80
theorem rg_step {w W1 w2 : World} {lv v2 : Value} (d2 : From (w.heap.size + 1) lv) (b1 : Below w.heap.size w W1) (bk : Blk W1 w.heap.size cz 28) (g2 : W1.grownBy w2 lv.ownBlock) (g3 : Moved W1 lv v2) :
    From (w.heap.size + 1) v2 ∧ Blk w2 w.heap.size cz 28 ∧ Below w.heap.size w w2 :=
  ⟨from_moved d2 g3 (blk_lt bk), blk_grown bk g2 (fun e => by have := d2 _ e.symm; omega), below_grown b1 g2 b1.size (fun k hk => by have := d2 k hk; omega)⟩
theorem ri_own_kept {w W W' : World} {a : Option Addr} {cap n : Nat} {acc : List Nat} (h : W.ownsRow 0 3 1 (.slice a n cap) n (ni acc)) (c : Chg (· = w.heap.size) W W') (d : From (w.heap.size + 1) (.slice a n cap)) : RI W' a n (acc.map Int.ofNat) := by
  obtain ⟨a', cap', e, -, -, r⟩ := own_ri (zs := acc.map Int.ofNat) (own_kept h c (fun k hk e => by have := d k hk; omega))
  injection e with e1 e2 e3
  subst e1
  exact r
theorem below_keep {w8 a b : World} (h : Below w8.heap.size w8 a) (k : Below a.heap.size a b) : Below w8.heap.size w8 b := h.trans (k.mono h.size)
theorem ri_drewN {W : World} {a : Option Addr} {n : Nat} {f : List Int} (h : RI W a n f) (k : Nat) : RI (W.drewN k) a n f := ri_below h (below_drewN (Below.refl _ _) k)
theorem blk_drewN {W : World} {A : Nat} {cs : Array Value} {t : TypeId} (h : Blk W A cs t) (k : Nat) : Blk (W.drewN k) A cs t := blk_below h (below_drewN (Below.refl W.heap.size W) k) (blk_lt h)
set_option maxRecDepth 100000 in
set_option maxHeartbeats 2000000 in
theorem rgetl_any (s : ByteArray) (at' : Int) (w : World) (hs : s.size ≤ 100000) :
    Calls Try.prog 9 #[.string s, .int .i64 at'] w fun e w' => RgPost (getA s.data.toList at') w e w' := by
  have b1 : Below w.heap.size w (w.alloc (.cells #[.slice none 0 0, .int .i64 0, .int .i64 0] 28)) := (Below.refl _ _).alloc (Nat.le_refl _) _
  have bk : Blk (w.alloc (.cells #[.slice none 0 0, .int .i64 0, .int .i64 0] 28)) w.heap.size cz 28 := blk_new w _ _
  by_cases hneg : at' < 0
  · have G : Unit → getA s.data.toList at' = (1, [], 0) := fun _ => getA_arg _ _ (.inl hneg)
    generalize getA s.data.toList at' = g at *
    clear b1 bk
    go_enter Try.func9, Try.ntmps9
    go_wp2_with fail
    refine bodyPost_ret (v := .agg #[.slice none 0 0, .int .i64 0, .int .i64 1]) (by simp [results, Try.results9, go_sem]) rfl ?_
    rw [G ()]; exact rgp_none ((Below.refl _ _).alloc (Nat.le_refl _) _)
  · by_cases hbig : (s.size : Int) < at'
    · have G : Unit → getA s.data.toList at' = (1, [], 0) := fun _ => getA_arg _ _ (.inr (by rw [len_data]; exact hbig))
      generalize getA s.data.toList at' = g at *
      clear b1 bk
      go_enter Try.func9, Try.ntmps9
      go_wp2_with fail
      refine bodyPost_ret (v := .agg #[.slice none 0 0, .int .i64 0, .int .i64 1]) (by simp [results, Try.results9, go_sem]) rfl ?_
      rw [G ()]; exact rgp_none ((Below.refl _ _).alloc (Nat.le_refl _) _)
    · obtain ⟨i, rfl⟩ : ∃ i : Nat, at' = (i : Int) := ⟨at'.toNat, by omega⟩
      have hi : i ≤ s.size := by omega
      have hil : i ≤ s.data.toList.length := by rw [len_data]; exact hi
      clear hneg hbig
      have GM : Unit → dec 65 [] ((nbs s.data.toList).drop (2 * i)) = none → getA s.data.toList i = (2, [], 0) := fun _ h => rg_more _ i h hil
      have GY : Unit → ∀ q acc, dec 65 [] ((nbs s.data.toList).drop (2 * i)) = some (acc, (nbs s.data.toList).drop q) → 2 * i ≤ q → q ≤ (nbs s.data.toList).length → mayL (acc.map Int.ofNat) = true → putN acc = (s.data.toList.drop i).take ((q + 1) / 2 - i) → getA s.data.toList i = (0, acc, (q + 1) / 2) := fun _ q acc h1 h2 h3 h4 h5 => rg_yes _ i q acc h1 hil h2 h3 h4 h5
      have GN : Unit → ∀ q acc, dec 65 [] ((nbs s.data.toList).drop (2 * i)) = some (acc, (nbs s.data.toList).drop q) → 2 * i ≤ q → q ≤ (nbs s.data.toList).length → ¬ (mayL (acc.map Int.ofNat) = true ∧ putN acc = (s.data.toList.drop i).take ((q + 1) / 2 - i)) → getA s.data.toList i = (3, [], 0) := fun _ q acc h1 h2 h3 h4 => rg_no _ i q acc h1 hil h2 h3 h4
      have NT : Hid (∀ q d p, q / 2 = d → q % 2 = p → ∀ (h : d < s.size) (z : Int), z = (s[d].toNat : Int) / 2 ^ (p * 4) → bits .and .i64 z 15 = (at0 (nbs s.data.toList) q : Int)) := fun q d p hd hp h z hz => nib_text s q d p hd hp h z hz
      have NL : Hid ((nbs s.data.toList).length = 2 * s.size) := by show _ = _; rw [nbs_len, len_data]
      have NB : Hid (∀ q, at0 (nbs s.data.toList) q < 16) := fun q => by
        by_cases h : q < (nbs s.data.toList).length
        · rw [at0_of _ q h]; exact nbs_lt _ _ (List.getElem_mem h)
        · rw [at0_out _ q (by omega)]; omega
      generalize getA s.data.toList i = g at *
      obtain ⟨NS, hNS⟩ : ∃ NS, nbs s.data.toList = NS := ⟨_, rfl⟩
      rw [hNS] at GM GY GN NT NL NB
      obtain ⟨D, hD⟩ : ∃ D, dec 65 [] (NS.drop (2 * i)) = D := ⟨_, rfl⟩
      rw [hD] at GM GY GN
      have ST : Unit → RgRel NS D i w (.slice none 0 0) (.int .i64 (2 * (i : Int))) (w.alloc (.cells #[.slice none 0 0, .int .i64 0, .int .i64 0] 28)) := fun _ =>
        ⟨2 * i, 65, [], by omega, by rw [NL.out]; omega, by go_num, World.ownsRow_nil _ _ _ _, fun k hk => by simp [Value.ownBlock] at hk, bk, b1, hD, by simp, by simp⟩
      obtain ⟨i0, hi0, hz0, hz1, hz2⟩ := info_all info3
      clear hNS hD b1 bk hil
      go_enter Try.func9, Try.ntmps9
      go_wp2_with fail
      generalize w.alloc (.cells #[.slice none 0 0, .int .i64 0, .int .i64 0] 28) = w1 at *
      have hdl : decide (s.size < i) = false := by simp; omega
      have hdi : decide ((i : Int) < 0) = false := by simp
      simp only [hdl, hdi, Bool.or_false]
      clear hdl hdi
      go_loopw [5, 6] (fun lv kv wr => RgRel NS D i w lv kv wr) (fun lv _ _ => 65 - slen lv)
      case atStart => exact ST ()
      case round =>
        clear ST
        obtain ⟨q, f, acc, hq2, hq, rfl, d1, d2, d3, d4, d5, d6, d7⟩ := hrel
        obtain ⟨a, cap, rfl, hc, hm, r1⟩ := own_ri (zs := acc.map Int.ofNat) d1
        have hnl := NL.out
        have D1 := Hid.intro d1
        have D2 := Hid.intro d2
        have K3 := Hid.intro d3
        have B3 := Hid.intro d4
        by_cases hlt : acc.length < 65
        · have WY := way NS D q f acc d5 hq d6 hlt
          have HF := Hid.intro d6
          obtain ⟨n, hn⟩ : ∃ n, acc.length = n := ⟨_, rfl⟩
          have HN := Hid.intro hn
          rw [hn] at hlt hc D1 D2
          obtain ⟨d, hd⟩ : ∃ d, q / 2 = d := ⟨_, rfl⟩
          obtain ⟨p, hp⟩ : ∃ p, q % 2 = p := ⟨_, rfl⟩
          have e1 : (q : Int) / 2 = (d : Int) := by omega
          have e2 : (q : Int) % 2 = (p : Int) := by omega
          have hp2 : p < 2 := by omega
          obtain ⟨d', hd'⟩ : ∃ d', (q + 1) / 2 = d' := ⟨_, rfl⟩
          obtain ⟨p', hp'⟩ : ∃ p', (q + 1) % 2 = p' := ⟨_, rfl⟩
          have e1' : ((q : Int) + 1) / 2 = (d' : Int) := by omega
          have e2' : ((q : Int) + 1) % 2 = (p' : Int) := by omega
          have hp2' : p' < 2 := by omega
          have hqb : q ≤ 200000 := by omega
          have hdb : d ≤ 200000 := by omega
          have hdb' : d' ≤ 200001 := by omega
          have nt0 := NT.out q d p hd hp
          have nt1 := NT.out (q + 1) d' p' hd' hp'
          have NT0 := Hid.intro nt0
          have NT1 := Hid.intro nt1
          simp only [hn]
          clear d1 d2 d3 d4 d5 d6 d7 hn r1 nt0 nt1
          rcases WY with ⟨hk', hdd⟩ | ⟨hk', h0, hdd⟩ | ⟨y, hk', hy, h0, hdd⟩ | ⟨y, hk', h0, hy, hdd⟩
          · have G2 : Unit → g = (2, [], 0) := fun _ => GM () hdd
            have hds : (s.size : Int) ≤ (d : Int) := by omega
            clear hdd hk' hd hp hd' hp' hnl GM GY GN hq2 hq
            obtain ⟨q1, q2, q3, q4, -⟩ := res3 w wr B3.out K3.out (.slice none 0 0) (.int .i64 0) (.int .i64 2)
            have Q1 := Hid.intro q1
            have c0 : wr.cell? ⟨w.heap.size, 0, none⟩ = some (.slice none 0 0) := by rw [blk_cell K3.out]; rfl
            have c1 : wr.cell? ⟨w.heap.size, 1, none⟩ = some (.int .i64 0) := by rw [blk_cell K3.out]; rfl
            have c2 : wr.cell? ⟨w.heap.size, 2, none⟩ = some (.int .i64 0) := by rw [blk_cell K3.out]; rfl
            have f0 := blk_free K3.out 0
            have f1 := blk_free K3.out 1
            have f2 := blk_free K3.out 2
            clear q1 D1 B3 K3 D2
            go_wp2_with fail
            refine bodyPost_ret (v := .agg #[.slice none 0 0, .int .i64 0, .int .i64 2]) (by simp [results, Try.results9, go_sem, q2, q3, q4]) rfl ?_
            rw [G2 ()]; exact rgp_none Q1.out
          · have G2 : Unit → g = (2, [], 0) := fun _ => GM () hdd
            have hds : d < s.size := by omega
            have hds' : (s.size : Int) ≤ (d' : Int) := by omega
            have nt := NT0.out hds _ rfl
            rw [h0] at nt
            obtain ⟨c, hcc⟩ : ∃ c, s[d].toNat = c := ⟨_, rfl⟩
            have hc256 : c < 256 := by rw [← hcc]; exact UInt8.toNat_lt _
            rw [hcc] at nt
            rw [show ((0 : Nat) : Int) = 0 from rfl] at nt
            clear hdd hk' hd hp hd' hp' hnl GM GY GN hq2 h0 NT0 NT1
            obtain ⟨q1, q2, q3, q4, -⟩ := res3 w wr B3.out K3.out (.slice none 0 0) (.int .i64 0) (.int .i64 2)
            have Q1 := Hid.intro q1
            have c0 : wr.cell? ⟨w.heap.size, 0, none⟩ = some (.slice none 0 0) := by rw [blk_cell K3.out]; rfl
            have c1 : wr.cell? ⟨w.heap.size, 1, none⟩ = some (.int .i64 0) := by rw [blk_cell K3.out]; rfl
            have c2 : wr.cell? ⟨w.heap.size, 2, none⟩ = some (.int .i64 0) := by rw [blk_cell K3.out]; rfl
            have f0 := blk_free K3.out 0
            have f1 := blk_free K3.out 1
            have f2 := blk_free K3.out 2
            clear q1 D1 B3 K3 D2
            go_wp2_with fail
            refine bodyPost_ret (v := .agg #[.slice none 0 0, .int .i64 0, .int .i64 2]) (by simp [results, Try.results9, go_sem, q2, q3, q4]) rfl ?_
            rw [G2 ()]; exact rgp_none Q1.out
          · have hy16 : y < 16 := by rw [← hy]; exact NB.out q
            have hds : d < s.size := by omega
            have nt := NT0.out hds _ rfl
            rw [hy] at nt
            obtain ⟨c, hcc⟩ : ∃ c, s[d].toNat = c := ⟨_, rfl⟩
            have hc256 : c < 256 := by rw [← hcc]; exact UInt8.toNat_lt _
            rw [hcc] at nt
            have HDD : Unit → dec (f - 1) (acc ++ [y]) (NS.drop (q + 1)) = D := fun _ => hdd
            have HQ := Hid.intro (show 2 * i ≤ q + 1 ∧ q + 1 ≤ NS.length from ⟨by omega, by omega⟩)
            have hown := D1.out
            have BK := Hid.intro (blk_alloc K3.out (.cells #[.int .i64 (y : Int)] 3))
            have BB := Hid.intro (B3.out.alloc B3.out.size (.cells #[.int .i64 (y : Int)] 3))
            clear hdd hk' hd hp hd' hp' hnl hq2 hq hy NT0 NT1 e1' e2' GM GY GN
            go_wp2_with (first | (at_builtin; refine wpList_push _ rfl (.tmp 43) (.tmp 45) 22 rfl 3 i0 (.int .i64 0) 1 8 Try.underlying22 hi0 hz0 hz1 hz2 rfl (by decide) (by decide) _ n (ni acc) rfl (World.ownsRow.alloc hown _) ⟨wr.heap.size, 0, none⟩ 1 1 [.int .i64 (y : Int)] rfl rfl (one_at _ _) (ints_one [(y : Int)]) (by omega) ?_) | go_in)
            intro v2 w2 g1 g2 g3
            have S := rg_step D2.out BB.out BK.out g2 g3
            have G : Hid (RgRel NS D i w v2 (.int .i64 ((q + 1 : Nat) : Int)) w2 ∧ slen v2 = n + 1) := ⟨⟨q + 1, f - 1, acc ++ [y], HQ.out.1, HQ.out.2, rfl, by rw [List.length_append, ni_append, HN.out]; exact g1, S.1, S.2.1, S.2.2, HDD (), by have := HF.out; have := HN.out; simp; omega, by have := HN.out; simp; omega⟩, own_slen g1⟩
            clear g1 g2 g3 S hown BK BB D1 D2 K3 B3
            go_wp2_with fail
            go_roundw
            case rel => exact G.out.1
            case measure => rw [G.out.2]; simp [slen]; omega
          · have hy16 : y < 16 := by rw [← hy]; exact NB.out (q + 1)
            have hds : d < s.size := by omega
            have hds' : d' < s.size := by omega
            have nt := NT0.out hds _ rfl
            have nt' := NT1.out hds' _ rfl
            rw [h0] at nt
            rw [hy] at nt'
            obtain ⟨c, hcc⟩ : ∃ c, s[d].toNat = c := ⟨_, rfl⟩
            have hc256 : c < 256 := by rw [← hcc]; exact UInt8.toNat_lt _
            rw [hcc] at nt
            rw [show ((0 : Nat) : Int) = 0 from rfl] at nt
            obtain ⟨c', hcc'⟩ : ∃ c', s[d'].toNat = c' := ⟨_, rfl⟩
            have hc256' : c' < 256 := by rw [← hcc']; exact UInt8.toNat_lt _
            rw [hcc'] at nt'
            obtain ⟨m, hm'⟩ : ∃ m : Nat, (y : Int) + 1 = (m : Int) := ⟨y + 1, by omega⟩
            have hmy : m = y + 1 := by omega
            have HDD : Unit → dec (f - 1) (acc ++ List.replicate m 0) (NS.drop (q + 2)) = D := fun _ => by rw [hmy]; exact hdd
            have HQ := Hid.intro (show 2 * i ≤ q + 2 ∧ q + 2 ≤ NS.length from ⟨by omega, by omega⟩)
            have hm1 : 1 ≤ m := by omega
            have hm16 : m ≤ 16 := by omega
            obtain ⟨v2, w2, hr, g1, g2, g3⟩ := run_pushZ2 wr 22 _ n m (ni acc) D1.out hm1 (by omega)
            rw [ni_zeros] at g1
            have S := rg_step D2.out B3.out K3.out g2 g3
            have G : Hid (RgRel NS D i w v2 (.int .i64 ((q + 2 : Nat) : Int)) w2 ∧ slen v2 = n + m) := ⟨⟨q + 2, f - 1, acc ++ List.replicate m 0, HQ.out.1, HQ.out.2, rfl, by rw [List.length_append, ni_append, HN.out, List.length_replicate]; exact g1, S.1, S.2.1, S.2.2, HDD (), by have := HF.out; have := HN.out; simp; omega, by have := HN.out; simp; omega⟩, own_slen g1⟩
            have HR := Hid.intro hr
            clear g1 g2 g3 S D1 D2 K3 B3 hdd hk' hd hp hd' hp' hnl hq2 hq hy h0 hmy NT0 NT1 GM GY GN HDD hr
            go_wp2_with (first | (at_builtin; refine Lib.wpList_append_run _ rfl (.tmp 65) (.tmp 67) 22 3 rfl _ _ rfl rfl _ _ HR.out ?_) | go_in)
            clear HR
            go_wp2_with fail
            go_roundw
            case rel => exact G.out.1
            case measure => rw [G.out.2]; simp [slen]; omega
        · have HDD : Unit → D = some (acc, NS.drop q) := fun _ => by rw [← d5, dec_done f acc _ (by omega)]
          have h80 := Hid.intro d7
          have GY2 : Unit → mayL (acc.map Int.ofNat) = true → putN acc = (s.data.toList.drop i).take ((q + 1) / 2 - i) → g = (0, acc, (q + 1) / 2) := fun _ h1 h2 => GY () q acc (HDD ()) hq2 hq h1 h2
          have GN2 : Unit → ¬ (mayL (acc.map Int.ofNat) = true ∧ putN acc = (s.data.toList.drop i).take ((q + 1) / 2 - i)) → g = (3, [], 0) := fun _ h1 => GN () q acc (HDD ()) hq2 hq h1
          have hge : 65 ≤ acc.length := by omega
          have R1 := Hid.intro r1
          obtain ⟨x, hx⟩ : ∃ x, (q + 1) / 2 = x := ⟨_, rfl⟩
          have ex : ((q : Int) + 1) / 2 = (x : Int) := by omega
          have hxs : x ≤ s.size := by omega
          have hix : i ≤ x := by omega
          have hqb : q ≤ 200000 := by omega
          rw [hx] at GY2 GN2
          have h65 : acc.length = 65 → ∀ f : List Int, f = acc.map Int.ofNat → f.length = 65 := fun h f hf => by rw [hf]; simpa using h
          have H65 := Hid.intro h65
          obtain ⟨n, hn⟩ : ∃ n, acc.length = n := ⟨_, rfl⟩
          have HN := Hid.intro hn
          rw [hn] at hge hc D1 D2 R1
          simp only [hn]
          have hn80 : n ≤ 80 := by rw [← hn]; exact d7
          clear d1 d2 d3 d4 d5 d6 d7 hn r1 GM GY GN HDD hx hnl hlt hq2 hq h65 NT NB NL
          by_cases h65 : n = 65
          · subst h65
            have MM : Hid (∀ W, Below wr.heap.size wr W → Calls Try.prog 20 #[.slice a 65 cap] W fun e w' => e = .returned (.bool (mayL (acc.map Int.ofNat))) ∧ w' = W) := fun W hW => mayl_any a 65 cap _ W (ri_below R1.out hW) (by omega)
            by_cases hmay : mayL (acc.map Int.ofNat) = true
            · have PP : Hid (∀ W, Below wr.heap.size wr W → Calls Try.prog 11 #[.slice a 65 cap] W fun e w' => e = .returned (.string (bs (putN acc))) ∧ Below W.heap.size W w') := fun W hW => rputl_any a 65 cap _ W (ri_below R1.out hW) (by omega)
              rw [hmay] at MM
              have sl : ∀ W, (Instr.slice 9 (.string s) (some (.int .i64 (i : Int))) (some (.int .i64 (x : Int))) none).run Try.prog W = .ok (.string (s.extract i x)) W := fun W => by
                have := run_slice_string (P := Try.prog) W 9 s .i64 .i64 (i : Int) (x : Int) Try.underlying9 (by omega) (by omega) (by omega)
                simpa using this
              have CD : Hid ((s.extract i x).data.toList = (s.data.toList.drop i).take (x - i)) := cut_data s i x
              have M1 : ∀ W, Below wr.heap.size wr W → Calls Try.prog 20 #[.slice a 65 cap] W fun e w' => e = .returned (.bool true) ∧ w' = W := MM.out
              have P1 : ∀ W, Below wr.heap.size wr W → Calls Try.prog 11 #[.slice a 65 cap] W fun e w' => e = .returned (.string (bs (putN acc))) ∧ Below W.heap.size W w' := PP.out
              have HMY := Hid.intro hmay
              have CE : Hid ((bs (putN acc)).data.toList = putN acc) := bs_data _
              have TB := Hid.intro (tl_beq (bs (putN acc)) (s.extract i x))
              obtain ⟨pa, hpa⟩ : ∃ pa, bs (putN acc) = pa := ⟨_, rfl⟩
              obtain ⟨ct, hct⟩ : ∃ ct, s.extract i x = ct := ⟨_, rfl⟩
              simp only [hct] at sl CD TB
              simp only [hpa] at P1 CE TB
              have hS : (wr.drew.cell? ⟨w.heap.size, 0, none⟩ = some (.slice none 0 0) ∧ wr.drew.cell? ⟨w.heap.size, 1, none⟩ = some (.int .i64 0)) ∧ Below wr.heap.size wr wr.drew := ⟨⟨by show wr.cell? _ = _; rw [blk_cell K3.out]; rfl, by show wr.cell? _ = _; rw [blk_cell K3.out]; rfl⟩, (Below.refl _ _).drew⟩
              have bkl := blk_lt K3.out
              clear MM PP hmay hct hpa
              by_cases hput : putN acc = (s.data.toList.drop i).take (x - i)
              · have u0 : (pa.toList == ct.toList) = true := by rw [TB.out, decide_eq_true_eq, CE.out, CD.out]; exact hput
                have u1 : (pa.toList != ct.toList) = false := by rw [bne, u0]; rfl
                have G2 : Unit → g = (0, acc, x) := fun _ => GY2 () HMY.out hput
                clear GN2 GY2 hput TB CE CD
                go_wp2_with fail
                go_region_held3 (fun W => (W.cell? ⟨w.heap.size, 0, none⟩ = some (.slice none 0 0) ∧ W.cell? ⟨w.heap.size, 1, none⟩ = some (.int .i64 0)) ∧ Below wr.heap.size wr W) (first | exact hS | exact held_keep bkl (by assumption) (by assumption) | assumption) (first
                  | (go_at_call 20; refine (M1 _ ?_).mono ?_; exact held_tail (by assumption); rintro e w9 ⟨rfl, hb9⟩; have hb9 := held_same hb9)
                  | (go_at_call 11; refine (P1 _ ?_).mono ?_; exact held_tail (by assumption); rintro e w9 ⟨rfl, hb9⟩))
                all_goals
                  have hT : ∃ p : Prop, p ∧ Below wr.heap.size wr w9 := ⟨_, by assumption⟩
                  obtain ⟨_, _, hT⟩ := hT
                  have BB := Hid.intro (B3.out.trans (hT.mono B3.out.size))
                  have KK := Hid.intro (blk_below K3.out hT (blk_lt K3.out))
                  have R3 := Hid.intro (own_later D1.out hT)
                  clear hT
                  obtain ⟨q1, q2, q3, q4, q5⟩ := res3 w w9 BB.out KK.out (.slice a 65 cap) (.int .i64 (x : Int)) (.int .i64 0)
                  have Q1 := Hid.intro q1
                  have RR := Hid.intro (ri_own_kept R3.out q5 D2.out)
                  have c0 : w9.cell? ⟨w.heap.size, 0, none⟩ = some (.slice none 0 0) := by rw [blk_cell KK.out]; rfl
                  have c1 : w9.cell? ⟨w.heap.size, 1, none⟩ = some (.int .i64 0) := by rw [blk_cell KK.out]; rfl
                  have c2 : w9.cell? ⟨w.heap.size, 2, none⟩ = some (.int .i64 0) := by rw [blk_cell KK.out]; rfl
                  have f0 := blk_free KK.out 0
                  have f1 := blk_free KK.out 1
                  have f2 := blk_free KK.out 2
                  clear q1 q5 BB KK R3
                  go_wp2_with fail
                  refine bodyPost_ret (v := .agg #[.slice a 65 cap, .int .i64 (x : Int), .int .i64 0]) (by simp [results, Try.results9, go_sem, q2, q3, q4]) rfl ?_
                  rw [G2 ()]; exact ⟨a, 65, cap, rfl, RR.out, by omega, Q1.out⟩
              · have u0 : (pa.toList == ct.toList) = false := by rw [TB.out, decide_eq_false_iff_not, CE.out, CD.out]; exact hput
                have u1 : (pa.toList != ct.toList) = true := by rw [bne, u0]; rfl
                have G2 : Unit → g = (3, [], 0) := fun _ => GN2 () (fun h => hput h.2)
                clear GN2 GY2 hput TB CE CD
                go_wp2_with fail
                go_region_held3 (fun W => (W.cell? ⟨w.heap.size, 0, none⟩ = some (.slice none 0 0) ∧ W.cell? ⟨w.heap.size, 1, none⟩ = some (.int .i64 0)) ∧ Below wr.heap.size wr W) (first | exact hS | exact held_keep bkl (by assumption) (by assumption) | assumption) (first
                  | (go_at_call 20; refine (M1 _ ?_).mono ?_; exact held_tail (by assumption); rintro e w9 ⟨rfl, hb9⟩; have hb9 := held_same hb9)
                  | (go_at_call 11; refine (P1 _ ?_).mono ?_; exact held_tail (by assumption); rintro e w9 ⟨rfl, hb9⟩))
                all_goals
                  have hT : ∃ p : Prop, p ∧ Below wr.heap.size wr w9 := ⟨_, by assumption⟩
                  obtain ⟨_, _, hT⟩ := hT
                  have BB := Hid.intro (B3.out.trans (hT.mono B3.out.size))
                  have KK := Hid.intro (blk_below K3.out hT (blk_lt K3.out))
                  have R3 := Hid.intro (own_later D1.out hT)
                  clear hT
                  clear R3
                  obtain ⟨q1, q2, q3, q4, -⟩ := res3 w w9 BB.out KK.out (.slice none 0 0) (.int .i64 0) (.int .i64 3)
                  have Q1 := Hid.intro q1
                  have c0 : w9.cell? ⟨w.heap.size, 0, none⟩ = some (.slice none 0 0) := by rw [blk_cell KK.out]; rfl
                  have c1 : w9.cell? ⟨w.heap.size, 1, none⟩ = some (.int .i64 0) := by rw [blk_cell KK.out]; rfl
                  have c2 : w9.cell? ⟨w.heap.size, 2, none⟩ = some (.int .i64 0) := by rw [blk_cell KK.out]; rfl
                  have f0 := blk_free KK.out 0
                  have f1 := blk_free KK.out 1
                  have f2 := blk_free KK.out 2
                  clear q1 BB KK
                  go_wp2_with fail
                  refine bodyPost_ret (v := .agg #[.slice none 0 0, .int .i64 0, .int .i64 3]) (by simp [results, Try.results9, go_sem, q2, q3, q4]) rfl ?_
                  rw [G2 ()]; exact rgp_none Q1.out
            · have hm' : mayL (acc.map Int.ofNat) = false := by simpa using hmay
              rw [hm'] at MM
              have G2 : Unit → g = (3, [], 0) := fun _ => GN2 () (fun h => hmay h.1)
              have M2 : ∀ k, Calls Try.prog 20 #[.slice a 65 cap] (wr.drewN k) fun e w' => e = .returned (.bool false) ∧ w' = wr.drewN k := fun k => MM.out _ (below_drewN (Below.refl _ _) k)
              clear GN2 GY2 hmay hm' MM
              go_wp2_with fail
              go_quiet ((go_at_call 20; refine Calls.quiet_of_same (M2 _)))
              have BB := Hid.intro (below_drewN B3.out nq)
              have KK := Hid.intro (blk_drewN K3.out nq)
              clear M2
              generalize wr.drewN nq = w3 at *
              obtain ⟨q1, q2, q3, q4, -⟩ := res3 w w3 BB.out KK.out (.slice none 0 0) (.int .i64 0) (.int .i64 3)
              have Q1 := Hid.intro q1
              have c0 : w3.cell? ⟨w.heap.size, 0, none⟩ = some (.slice none 0 0) := by rw [blk_cell KK.out]; rfl
              have c1 : w3.cell? ⟨w.heap.size, 1, none⟩ = some (.int .i64 0) := by rw [blk_cell KK.out]; rfl
              have c2 : w3.cell? ⟨w.heap.size, 2, none⟩ = some (.int .i64 0) := by rw [blk_cell KK.out]; rfl
              have f0 := blk_free KK.out 0
              have f1 := blk_free KK.out 1
              have f2 := blk_free KK.out 2
              clear q1 BB KK
              go_wp2_with fail
              refine bodyPost_ret (v := .agg #[.slice none 0 0, .int .i64 0, .int .i64 3]) (by simp [results, Try.results9, go_sem, q2, q3, q4]) rfl ?_
              rw [G2 ()]; exact rgp_none Q1.out
          · have t0 : ((n : Int) == 65) = false := by simp; omega
            have t1 : ((n : Int) != 65) = true := by simp; omega
            have G2 : Unit → g = (3, [], 0) := fun _ => GN2 () (fun h => h65 (by have := (mayL_yes h.1).1; have e := HN.out; simp at this; omega))
            clear GN2 GY2
            go_wp2_with fail
            go_quiet (fail)
            clear t0 t1
            have BB := Hid.intro (below_drewN B3.out nq)
            have KK := Hid.intro (blk_drewN K3.out nq)
            generalize wr.drewN nq = w3 at *
            obtain ⟨q1, q2, q3, q4, -⟩ := res3 w w3 BB.out KK.out (.slice none 0 0) (.int .i64 0) (.int .i64 3)
            have Q1 := Hid.intro q1
            have c0 : w3.cell? ⟨w.heap.size, 0, none⟩ = some (.slice none 0 0) := by rw [blk_cell KK.out]; rfl
            have c1 : w3.cell? ⟨w.heap.size, 1, none⟩ = some (.int .i64 0) := by rw [blk_cell KK.out]; rfl
            have c2 : w3.cell? ⟨w.heap.size, 2, none⟩ = some (.int .i64 0) := by rw [blk_cell KK.out]; rfl
            have f0 := blk_free KK.out 0
            have f1 := blk_free KK.out 1
            have f2 := blk_free KK.out 2
            clear q1 BB KK
            go_wp2_with fail
            refine bodyPost_ret (v := .agg #[.slice none 0 0, .int .i64 0, .int .i64 3]) (by simp [results, Try.results9, go_sem, q2, q3, q4]) rfl ?_
            rw [G2 ()]; exact rgp_none Q1.out
end Go.Proofs.Ythjokhfjfiaaiaa
