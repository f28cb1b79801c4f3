/-
  All lengths read.
-/
import Derived.Test.YthjokhfjfiaaiaaLd
import Derived.Test.YthjokhfjfiaaiaaAg
namespace Go.Proofs.Ythjokhfjfiaaiaa
open Go.ChangeShapes Go.WideShapes Go.ChangeAt Go.RowKit
open Go.ChangeMaps (open_string shut_string)

theorem own_slen {W : World} {base e size : Nat} {v : Value} {n : Nat} {xs : List Value} (h : W.ownsRow base e size v n xs) : slen v = n := by
  rcases h.2 with ⟨hv, hn⟩ | ⟨g, cap, cur, hv, _⟩
  · rw [hv, hn]; rfl
  · rw [hv]; rfl
def AlRel (ns : List Nat) (D : Option (List Nat × List Nat)) (A : Nat) (t : ByteArray) (w : World) (sv : Value) (wr : World) : Prop :=
  ∃ (k f : Nat) (acc : List Nat), k ≤ ns.length ∧ wr.ownsRow 0 3 1 sv acc.length (ni acc) ∧ From w.heap.size sv ∧ Rd wr A t (4 * k) ∧ Chg (· = A) w wr ∧ dec f acc (ns.drop k) = D ∧ 65 ≤ f + acc.length ∧ acc.length ≤ 80
/-- What all leaves. -/
def AllPost (D : Option (List Nat × List Nat)) (A : Nat) (w : World) (e : Ending) (w' : World) : Prop :=
  (D = none ∧ e = .returned (.tuple #[.slice none 0 0, .int .i64 2]) ∧ Chg (· = A) w w') ∨
  (∃ L r v, D = some (L, r) ∧ e = .returned (.tuple #[v, .int .i64 0]) ∧ w'.ownsRow w.heap.size 3 1 v L.length (ni L) ∧ L.length ≤ 80 ∧ Chg (· = A) w w')
theorem all_step {ns : List Nat} {D : Option (List Nat × List Nat)} {A : Nat} {t : ByteArray} {w wr w1 w2 : World} {v v2 : Value} {acc zs : List Nat} {k f : Nat}
    (hA : A < w.heap.size) (d2 : From w.heap.size v) (d4 : Chg (· = A) w wr) (c1 : Chg (· = A) wr w1) (r1 : Rd w1 A t (4 * k)) (hk : k ≤ ns.length)
    (g1 : w2.ownsRow 0 3 1 v2 (acc.length + zs.length) (ni acc ++ ni zs)) (g2 : w1.grownBy w2 v.ownBlock) (g3 : Moved w1 v v2)
    (hd : dec f (acc ++ zs) (ns.drop k) = D) (hf : 65 ≤ f + (acc ++ zs).length) (hl : (acc ++ zs).length ≤ 80) : AlRel ns D A t w v2 w2 := by
  have c2 := chg_same d4 c1
  have hne : v.ownBlock ≠ some A := fun e => by have := d2 A e; omega
  refine ⟨k, f, acc ++ zs, hk, by rw [ni_append, List.length_append]; exact g1, from_moved d2 g3 (chg_size c2), blk_grown r1 g2 (fun e => hne e.symm), chg_grown c2 g2 (fun j hj hlt => ?_), hd, hf, hl⟩
  have := d2 j hj; omega
set_option maxRecDepth 100000 in
set_option maxHeartbeats 1000000 in
theorem all_any (A : Nat) (t : ByteArray) (w : World) (h : Rd w A t 0) (hs : t.size ≤ 100000) :
    Calls Try.prog 17 #[.func (.func 18) #[hv A] #[]] w fun e w' => AllPost (dec 65 [] (nbs t.data.toList)) A w e w' := by
  have hA := blk_lt h
  have NB := Hid.intro (nbs_lt t.data.toList)
  have SE := Hid.intro (fun k W h1 => some_end A t k W h1 hs)
  have SH := Hid.intro (fun k W h1 => some_half A t k W h1 hs)
  have SP := Hid.intro (fun k W h1 => some_pos A t k W h1 hs)
  have SR := Hid.intro (fun k W h1 => some_row A t k W h1 hs)
  obtain ⟨ns, hns⟩ : ∃ ns, nbs t.data.toList = ns := ⟨_, rfl⟩
  rw [hns] at NB ⊢
  have SE2 : Hid (∀ k W, Rd W A t (4 * k) → k = ns.length → Calls Try.prog 30 #[.func (.func 18) #[hv A] #[]] W fun e W' => (∃ v, e = .returned (.tuple #[v, .int .i64 2])) ∧ Chg (· = A) W W') := fun k W h1 h2 => SE.out k W h1 (by rw [hns]; exact h2)
  have SH2 : Hid (∀ k W, Rd W A t (4 * k) → k + 1 = ns.length → at0 ns k = 0 → Calls Try.prog 30 #[.func (.func 18) #[hv A] #[]] W fun e W' => (∃ v, e = .returned (.tuple #[v, .int .i64 2])) ∧ Chg (· = A) W W') := fun k W h1 h2 h3 => SH.out k W h1 (by rw [hns]; exact h2) (by rw [hns]; exact h3)
  have SP2 : Hid (∀ k W, Rd W A t (4 * k) → k < ns.length → ∀ y, at0 ns k = y → 0 < y → y < 16 → Calls Try.prog 30 #[.func (.func 18) #[hv A] #[]] W (SmPost A t [y] (k + 1) W)) := fun k W h1 h2 y h3 h4 h5 => SP.out k W h1 (by rw [hns]; exact h2) y (by rw [hns]; exact h3) h4 h5
  have SR2 : Hid (∀ k W, Rd W A t (4 * k) → k + 1 < ns.length → ∀ y, at0 ns k = 0 → at0 ns (k + 1) = y → y < 16 → Calls Try.prog 30 #[.func (.func 18) #[hv A] #[]] W (SmPost A t (List.replicate (y + 1) 0) (k + 2) W)) := fun k W h1 h2 y h3 h4 h5 => SR.out k W h1 (by rw [hns]; exact h2) y (by rw [hns]; exact h3) (by rw [hns]; exact h4) h5
  clear SE SH SP SR hns
  obtain ⟨D, hD⟩ : ∃ D, dec 65 [] ns = D := ⟨_, rfl⟩
  rw [hD]
  have HD : Unit → dec 65 [] ns = D := fun _ => hD
  clear hD hs
  have mk := make_room 65 (by omega) w 65 rfl
  have ST : Unit → AlRel ns D A t w (.slice (some ⟨w.heap.size, 0, none⟩) 0 65) (w.alloc (.cells (madeCells #[.int .i64 0] 65) 3)) := fun _ =>
    ⟨0, 65, [], Nat.zero_le _, own_low (own_room w 65 (by omega)) (Nat.zero_le _), fun k hk => by simp [Value.ownBlock] at hk; omega, blk_alloc h _, chg_alloc (chg_refl _ _) _, HD (), by simp, by simp⟩
  obtain ⟨i0, hi, hz0, hz1, hz2⟩ := info_all info3
  obtain ⟨w1, hw1⟩ : ∃ w1, w.alloc (.cells (madeCells #[.int .i64 0] 65) 3) = w1 := ⟨_, rfl⟩
  rw [hw1] at ST mk
  clear h HD hw1
  go_enter Try.func17, Try.ntmps17
  go_wp2_with fail
  clear mk
  go_loopw [4] (fun sv wr => AlRel ns D A t w sv wr) (fun sv _ => 65 - slen sv)
  case atStart => exact ST ()
  case round =>
    clear ST
    obtain ⟨k, f, acc, hk, d1, d2, d3, d4, d5, d6, d7⟩ := hrel
    obtain ⟨a, cap, rfl, hc, hm, -⟩ := own_ri (zs := acc.map Int.ofNat) d1
    by_cases hlt : acc.length < 65
    · have WY := way ns D k f acc d5 hk d6 hlt
      have D1 := Hid.intro d1
      have D2 := Hid.intro d2
      have D3 := Hid.intro d3
      have D4 := Hid.intro d4
      have HF := Hid.intro d6
      have HAc := Hid.intro (show acc.length = acc.length from rfl)
      obtain ⟨n, hn⟩ : ∃ n, acc.length = n := ⟨_, rfl⟩
      have HN := Hid.intro hn
      rw [hn] at hlt hc
      clear d1 d2 d3 d4 d5 d6 d7 HAc
      rw [hn] at D1 D2
      simp only [hn]
      clear hn
      rcases WY with ⟨hk', hd⟩ | ⟨hk', h0, hd⟩ | ⟨y, hk', hy, h0, hd⟩ | ⟨y, hk', h0, hy, hd⟩
      · have S := SE2.out k wr D3.out hk'
        have HDD := Hid.intro hd
        clear hd hk' hk
        go_wp2_with fail
        with_reducible refine S.mono ?_
        rintro e w2 ⟨⟨v, rfl⟩, c2⟩
        have C2 := Hid.intro (chg_same D4.out c2)
        clear S c2
        go_wp2_with fail
        go_ret2
        exact .inl ⟨HDD.out, rfl, C2.out⟩
      · have S := SH2.out k wr D3.out hk' h0
        have HDD := Hid.intro hd
        clear hd hk' hk h0
        go_wp2_with fail
        with_reducible refine S.mono ?_
        rintro e w2 ⟨⟨v, rfl⟩, c2⟩
        have C2 := Hid.intro (chg_same D4.out c2)
        clear S c2
        go_wp2_with fail
        go_ret2
        exact .inl ⟨HDD.out, rfl, C2.out⟩
      · have hy16 : y < 16 := by rw [← hy, at0_of ns k hk']; exact NB.out _ (List.getElem_mem hk')
        have S := SP2.out k wr D3.out hk' y hy h0 hy16
        have HDD : Unit → dec (f - 1) (acc ++ [y]) (ns.drop (k + 1)) = D := fun _ => hd
        have HK := Hid.intro hk'
        clear hd hk hk' hy h0
        go_wp2_with fail
        with_reducible refine S.mono ?_
        rintro e w2 ⟨b, rfl, o2, r2, c2⟩
        have hO := own_kept D1.out c2 (fun j hj e => by have := D2.out j hj; omega)
        have cells := ri_cells (own_ri2 (zs := [y].map Int.ofNat) o2)
        have R2 := Hid.intro r2
        have C2 := Hid.intro c2
        have hA2 := hA
        clear S c2 r2
        simp only [List.length_cons, List.length_nil]
        go_wp2_with (first | (at_builtin; refine wpList_pushS _ rfl (.tmp 19) (.tmp 20) 22 rfl 3 i0 (.int .i64 0) 1 8 Try.underlying22 hi hz0 hz1 hz2 rfl (by decide) (by decide) _ n (ni acc) rfl hO (some ⟨b, 0, none⟩) 1 1 (ni [y]) rfl rfl (fun h => by cases h) cells (ivs_one _) (by omega) ?_) | go_in)
        intro v3 w3 g1 g2 g3
        have G : Hid (AlRel ns D A t w v3 w3 ∧ slen v3 = n + 1) := ⟨by
          refine all_step (acc := acc) (zs := [y]) hA D2.out D4.out C2.out R2.out (by have := HK.out; omega) (by rw [HN.out]; exact g1) g2 g3 (HDD ()) ?_ ?_
          · have := HF.out; have := HN.out; simp; omega
          · have := HN.out; simp; omega, own_slen g1⟩
        clear g1 g2 g3 hO cells o2
        go_wp2_with fail
        go_roundw
        case rel => exact G.out.1
        case measure => rw [G.out.2]; simp [slen]; omega
      · have hy16 : y < 16 := by rw [← hy, at0_of ns (k + 1) hk']; exact NB.out _ (List.getElem_mem hk')
        have S := SR2.out k wr D3.out hk' y h0 hy hy16
        have HDD : Unit → dec (f - 1) (acc ++ List.replicate (y + 1) 0) (ns.drop (k + 2)) = D := fun _ => hd
        have HK := Hid.intro hk'
        have HLR : Hid ((List.replicate (y + 1) 0).length = y + 1) := List.length_replicate
        obtain ⟨zs, hzs⟩ : ∃ zs, List.replicate (y + 1) 0 = zs := ⟨_, rfl⟩
        rw [hzs] at S HDD HLR
        clear hd hk hk' hy h0 hzs
        go_wp2_with fail
        with_reducible refine S.mono ?_
        rintro e w2 ⟨b, rfl, o2, r2, c2⟩
        have hO := own_kept D1.out c2 (fun j hj e => by have := D2.out j hj; omega)
        have cells := ri_cells (own_ri2 (zs := zs.map Int.ofNat) o2)
        have R2 := Hid.intro r2
        have C2 := Hid.intro c2
        obtain ⟨m, hm'⟩ : ∃ m, zs.length = m := ⟨_, rfl⟩
        have HM := Hid.intro hm'
        have hm1 : 1 ≤ m := by rw [← hm', HLR.out]; omega
        have hm16 : m ≤ 16 := by rw [← hm', HLR.out]; omega
        simp only [hm']
        clear S c2 r2 hm' o2
        go_wp2_with (first | (at_builtin; refine wpList_pushS _ rfl (.tmp 19) (.tmp 20) 22 rfl 3 i0 (.int .i64 0) 1 8 Try.underlying22 hi hz0 hz1 hz2 rfl (by decide) (by decide) _ n (ni acc) rfl hO (some ⟨b, 0, none⟩) m m (ni zs) rfl (by have := HM.out; simp [ni, ivs]; omega) (fun h => by cases h) cells (ivs_one _) (by omega) ?_) | go_in)
        intro v3 w3 g1 g2 g3
        have G : Hid (AlRel ns D A t w v3 w3 ∧ slen v3 = n + m) := ⟨by
          refine all_step (acc := acc) (zs := zs) hA D2.out D4.out C2.out R2.out (by have := HK.out; omega) (by rw [HN.out, HM.out]; exact g1) g2 g3 (HDD ()) ?_ ?_
          · have := HF.out; have := HN.out; have := HM.out; simp; omega
          · have := HN.out; have := HM.out; simp; omega, own_slen g1⟩
        clear g1 g2 g3 hO cells
        go_wp2_with fail
        go_roundw
        case rel => exact G.out.1
        case measure => rw [G.out.2]; simp [slen]; omega
    · have HDD : Unit → D = some (acc, ns.drop k) := fun _ => by rw [← d5, dec_done f acc _ (by omega)]
      have D1 := Hid.intro (own_up d1 d2)
      have D4 := Hid.intro d4
      have D7 := Hid.intro d7
      have hge : 65 ≤ acc.length := by omega
      obtain ⟨n, hn⟩ : ∃ n, acc.length = n := ⟨_, rfl⟩
      have HN := Hid.intro hn
      rw [hn] at hge hc
      simp only [hn]
      clear d1 d2 d3 d4 d5 d6 d7 hn hlt
      go_wp2_with fail
      go_ret2
      refine .inr ⟨acc, _, _, HDD (), rfl, ?_, D7.out, D4.out⟩
      have := D1.out
      rw [← HN.out]; exact this
end Go.Proofs.Ythjokhfjfiaaiaa
