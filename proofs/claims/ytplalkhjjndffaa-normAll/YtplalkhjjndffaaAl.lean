/-
  The numbers of all classes, of any text; each condition stands at its theorem.
-/
import Derived.Test.YtplalkhjjndffaaSo
import Derived.Test.YtplalkhjjndffaaBl
import Derived.Deep.QuietTactic
import Derived.Deep.RegionWith
import Derived.OwnWalk
namespace Go.Proofs.Ytplalkhjjndffaa
open Go.ChangeShapes Go.WideShapes Go.ChangeAt Go.RowKit
open Go.ChangeMaps (open_string shut_string)

theorem someF_bd (t : List UInt8) (left : Nat) (h : (someF t left).1 = 0) : (∀ n ∈ (someF t left).2.1, n < 18446744073709551616) ∧ (someF t left).2.2 ≤ t.length := by
  obtain ⟨x, k, z, h1⟩ : ∃ x k z, numb t = (x, k, z) := ⟨_, _, _, rfl⟩
  obtain ⟨m, j, z2, h2⟩ : ∃ m j z2, numb (t.drop k) = (m, j, z2) := ⟨_, _, _, rfl⟩
  unfold someF at h ⊢
  simp only [h1, h2] at h ⊢
  by_cases hz : z = 0
  · subst hz
    obtain ⟨k1, k2⟩ := numb_le h1
    simp only [ne_eq, not_true_eq_false, if_false] at h ⊢
    by_cases hx : 0 < x
    · simp only [if_pos hx]
      exact ⟨fun n hn => by rw [List.mem_singleton.1 hn]; exact k2, k1⟩
    · simp only [if_neg hx] at h ⊢
      by_cases hz2 : z2 = 0
      · subst hz2
        obtain ⟨j1, j2⟩ := numb_le h2
        rw [List.length_drop] at j1
        simp only [not_true_eq_false, if_false] at h ⊢
        by_cases hm : left ≤ m
        · simp [hm] at h
        · simp only [if_neg hm]
          exact ⟨fun n hn => by rw [List.eq_of_mem_replicate hn]; omega, by omega⟩
      · simp [hz2] at h
  · simp [hz] at h
def AllPost (S : List UInt8) (i : Nat) (w : World) (e : Ending) (w' : World) : Prop :=
  (∃ E l r, decB 65 [] (S.drop i) = (E, l, r) ∧ E ≠ 0 ∧ e = .returned (.tuple #[.slice none 0 0, .int .i64 0, .int .i64 (E : Nat)]) ∧ Below w.heap.size w w') ∨
  (∃ l p v, decB 65 [] (S.drop i) = (0, l, S.drop p) ∧ e = .returned (.tuple #[v, .int .i64 (p : Nat), .int .i64 0]) ∧ i ≤ p ∧ p ≤ S.length ∧ l.length = 65 ∧ (∀ n ∈ l, n < 18446744073709551616) ∧ w'.ownsRow w.heap.size 3 1 v 65 (ivs (l.map wc)) ∧ Below w.heap.size w w')
def AlRel (S : List UInt8) (i : Nat) (w : World) (av lv : Value) (wr : World) : Prop :=
  ∃ (acc : List Nat) (p f : Nat), av = .int .i64 (p : Int) ∧ i ≤ p ∧ p ≤ S.length ∧ acc.length ≤ 65 ∧ 65 ≤ f + acc.length ∧ (∀ n ∈ acc, n < 18446744073709551616) ∧ decB 65 [] (S.drop i) = decB f acc (S.drop p) ∧
    wr.ownsRow 0 3 1 lv acc.length (ivs (acc.map wc)) ∧ From w.heap.size lv ∧ Below w.heap.size w wr
set_option maxRecDepth 100000 in
set_option maxHeartbeats 2000000 in
theorem all_any (s : ByteArray) (i : Nat) (w : World) (hs : s.size ≤ 1000000) (hi : i ≤ s.size) :
    Calls Try.prog 30 #[.string s, .int .i64 (i : Int)] w fun e w' => AllPost s.data.toList i w e w' := by
  obtain ⟨i0, hi0, hz0, hs0, hb0⟩ := info_all info3
  have hsl : s.data.toList.length = s.size := len_data s
  have mk := make_room 65 (by omega) w
  rw [show ((65 : Nat) : Int) = 65 from rfl] at mk
  have om := own_room w 65 (by omega)
  have b1 : Below w.heap.size w (w.alloc (.cells (madeCells #[.int .i64 0] 65) 3)) := (Below.refl _ _).alloc (Nat.le_refl _) _
  obtain ⟨w1, hw1⟩ : ∃ w1, w.alloc (.cells (madeCells #[.int .i64 0] 65) 3) = w1 := ⟨_, rfl⟩
  rw [hw1] at mk om b1
  have SA := Hid.intro (fun p left W hp hl => some_any s p left W hs hp hl)
  obtain ⟨T, hT⟩ : ∃ T, s.data.toList = T := ⟨_, rfl⟩
  rw [hT] at hsl ⊢
  have HT := Hid.intro hT
  have ST : Hid (AlRel T i w (.int .i64 (i : Int)) (.slice (some ⟨w.heap.size, 0, none⟩) 0 65) w1) :=
    ⟨[], i, 65, rfl, Nat.le_refl _, by omega, by simp, by simp, by simp, rfl, own_low om (Nat.zero_le _), fun k hk => by simp [Value.ownBlock] at hk; omega, b1⟩
  have HSL := Hid.intro hsl
  clear om b1 hw1 hT hsl
  go_enter Try.func30, Try.ntmps30
  go_wp2_with fail
  clear mk
  go_loopw [1, 7] (fun av lv wr => AlRel T i w av lv wr) (fun _ lv _ => 65 - slen lv)
  case atStart => exact ST.out
  case round =>
    clear ST
    obtain ⟨acc, p, f, rfl, d1, d2, d3, d4, d5, d6, d7, d8, d9⟩ := hrel
    rename_i lv _
    obtain ⟨a', c', hv, hc1, hc2, -⟩ := own_ri (zs := acc.map wc) d7
    subst hv
    obtain ⟨n0, hn0⟩ : ∃ n0, acc.length = n0 := ⟨_, rfl⟩
    have HN0 := Hid.intro hn0
    rw [hn0] at d7 d3 d4 d8 hc1 ⊢
    clear hn0
    by_cases hlt : n0 < 65
    · obtain ⟨g, rfl⟩ : ∃ g, f = g + 1 := ⟨f - 1, by omega⟩
      obtain ⟨left, hleft⟩ : ∃ left : Nat, 65 - (n0 : Int) = (left : Int) := ⟨65 - n0, by omega⟩
      have HLF : Hid (65 - acc.length = left) := by show _ = _; have := HN0.out; omega
      have l0 : 0 < left := by omega
      have SM := SA.out p left wr (by have := HSL.out; omega) (by omega)
      rw [HT.out] at SM
      rw [decB_some g acc _ (by rw [HN0.out]; exact hlt), HLF.out] at d6
      have FL := someF_len (T.drop p) left
      have FB := someF_bd (T.drop p) left
      obtain ⟨E, l, tk, hF⟩ : ∃ E l tk, someF (T.drop p) left = (E, l, tk) := ⟨_, _, _, rfl⟩
      rw [hF] at SM d6 FL FB
      have D6 := Hid.intro d6
      have D5 := Hid.intro d5
      have D7 := Hid.intro d7
      have D8 := Hid.intro d8
      have D9 := Hid.intro d9
      have FL' := Hid.intro FL
      have FB' := Hid.intro FB
      clear d5 d6 d7 d8 d9 hF FL FB hc2
      go_wp2_with fail
      with_reducible refine SM.mono ?_
      rintro e w2 ⟨v2, q, rfl, k1, k2⟩
      clear SM
      have K1 := Hid.intro k1
      clear k1
      simp only
      by_cases hE : E = 0
      · subst hE
        obtain ⟨hq, o2⟩ := K1.out rfl
        have o2' : w2.ownsRow wr.heap.size 3 1 v2 l.length (ivs (l.map wc)) := o2
        have hq' : q = p + tk := hq
        obtain ⟨fl1, fl2⟩ := FL'.out rfl l0
        have fl1' : 0 < l.length := fl1
        have fl2' : l.length ≤ left := fl2
        obtain ⟨fb1, fb2⟩ := FB'.out rfl
        have fb1' : ∀ n ∈ l, n < 18446744073709551616 := fb1
        have fb2' : tk ≤ (T.drop p).length := fb2
        rw [List.length_drop] at fb2'
        obtain ⟨n2, hn2⟩ : ∃ n2, l.length = n2 := ⟨_, rfl⟩
        have HN2 := Hid.intro hn2
        rw [hn2] at o2' fl1' fl2'
        obtain ⟨b2, cc2, rfl⟩ := own_slice o2' fl1'
        have cells : Hid (∀ x, some (⟨b2, 0, none⟩ : Addr) = some x → ∀ j u, (ivs (l.map wc))[j]? = some u → w2.cell? (x.add j) = some u) := fun x hx j u hj => by
          cases hx
          exact o2'.cells (g := b2) rfl j u hj
        have D6' : decB 65 [] (T.drop i) = decB g (acc ++ l) (T.drop q) := by
          have := D6.out
          simp only [ne_eq, not_true_eq_false, if_false] at this
          rw [this, List.drop_drop, hq']
        have HD6 := Hid.intro D6'
        have o1 := own_later D7.out k2
        have b2' := D9.out.trans (k2.mono D9.out.size)
        have fl3 : Hid (∀ n ∈ acc ++ l, n < 18446744073709551616) := fun n hn => (List.mem_append.1 hn).elim (D5.out n) (fb1' n)
        have QB : Hid (i ≤ q ∧ q ≤ T.length) := ⟨by omega, by omega⟩
        have LW : Hid ((ivs (l.map wc)).length = n2 * 1) := by show _ = _; simp [ivs]; exact HN2.out
        have MM : Hid (ivs (acc.map wc) ++ ivs (l.map wc) = ivs ((acc ++ l).map wc)) := by show _ = _; simp [ivs]
        clear D6' K1 hq o2 o2' fl1 fl2 fb1 fb2 fb1' fb2' hq' hn2 k2 D6 D7 D9
        go_wp2_with (first | (at_builtin; refine wpList_pushS _ rfl (.tmp 28) (.tmp 29) 22 rfl 3 i0 (.int .i64 0) 1 8 Try.underlying22 hi0 hz0 hs0 hb0 rfl (by decide) (by decide) _ n0 (ivs (acc.map wc)) rfl o1 (some ⟨b2, 0, none⟩) n2 cc2 (ivs (l.map wc)) rfl LW.out (fun h => by cases h) cells.out (ivs_one _) (by omega) ?_) | go_in)
        intro v5 w5 g1 g2 g3
        rw [MM.out] at g1
        have fr5 := from_moved D8.out g3 b2'.size
        have b5 : Below w.heap.size w w5 := b2'.trans (chg_below (chg_grown (chg_refl (fun k => Value.ownBlock (.slice a' n0 c') = some k) w2) g2 (fun k hk _ => hk)) b2'.size (fun k hk => D8.out k hk))
        have G1 : Hid (w5.ownsRow 0 3 1 v5 (acc ++ l).length (ivs ((acc ++ l).map wc))) := by show World.ownsRow _ _ _ _ _ _ _; rw [List.length_append, HN0.out, HN2.out]; exact g1
        obtain ⟨b9, cap9, rfl⟩ := own_slice g1 (by omega)
        have B5 := Hid.intro b5
        have F5 := Hid.intro fr5
        clear g1 g2 g3 o1 b2' b5 fr5 cells
        go_wp2_with fail
        go_roundw
        case rel => exact ⟨acc ++ l, q, g, rfl, QB.out.1, QB.out.2, by rw [List.length_append, HN0.out, HN2.out]; omega, by rw [List.length_append, HN0.out, HN2.out]; omega, fl3.out, HD6.out, G1.out, F5.out, B5.out⟩
        case measure => simp [slen]; omega
      · have t : ((E : Int) != 0) = true := by simp; omega
        have DE : Hid (decB 65 [] (T.drop i) = (E, [], [])) := by
          have := D6.out
          simp only [ne_eq, hE, not_false_eq_true, if_true] at this
          exact this
        have HE := Hid.intro hE
        have B2 := Hid.intro (D9.out.trans (k2.mono D9.out.size))
        clear hE K1 k2 D6
        go_wp2_with fail
        go_ret3
        exact .inl ⟨E, [], [], DE.out, HE.out, rfl, B2.out⟩
    · obtain rfl : n0 = 65 := by omega
      rw [decB_done f acc _ (by rw [HN0.out]; exact Nat.le_refl _)] at d6
      have OW := Hid.intro (own_up d7 d8)
      clear d7 d8
      go_wp2_with fail
      go_ret3
      exact .inr ⟨acc, p, _, d6, rfl, d1, d2, HN0.out, d5, OW.out, d9⟩
end Go.Proofs.Ytplalkhjjndffaa
