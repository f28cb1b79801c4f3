/-
  Get: what any text says at any place; each condition stands at its theorem.
-/
import Derived.Test.YtplalkhjjndffaaAl
import Derived.Test.YtplalkhjjndffaaPu
import Derived.Test.YtplalkhjjndffaaNf
import Derived.Test.YtplalkhjjndffaaRefCv
import Derived.Deep.QuietTactic
import Derived.Deep.RegionWith
import Derived.OwnWalk
import Derived.BigQuiet
import Derived.Deep.RegionHeld3
namespace Go.Proofs.Ytplalkhjjndffaa
open Go.ChangeShapes Go.WideShapes Go.ChangeAt Go.RowKit
open Go.ChangeMaps (open_string shut_string)


def GtPost (A : Nat × List Nat × Nat) (w : World) (e : Ending) (w' : World) : Prop :=
  ∃ v, e = .returned (.tuple #[v, .int .i64 (A.2.2 : Nat), .int .i64 (A.1 : Nat)]) ∧ w'.ownsRow w.heap.size 3 1 v A.2.1.length (nis A.2.1) ∧ Below w.heap.size w w'
theorem gt_no {w w' : World} {A : Nat × List Nat × Nat} {E : Nat} {z : Int} (h : A = (E, [], 0)) (b : Below w.heap.size w w') (hz : z = (E : Int)) : GtPost A w (.returned (.tuple #[.slice none 0 0, .int .i64 0, .int .i64 z])) w' := by
  subst h hz
  exact ⟨_, rfl, World.ownsRow_nil _ _ _ _, b⟩
set_option maxRecDepth 100000 in
set_option maxHeartbeats 4000000 in
/-- Get: what any text says at any place. -/
theorem get_norm (s : ByteArray) (a z : Int) (w : World) (hs : s.size ≤ 1000000) :
    Calls Try.prog 12 #[.string s, .int .i64 a, .int .i64 z] w fun e w' => GtPost (getN s.data.toList a z) w e w' := by
  have ML := maylog_any z
  have hsl : s.data.toList.length = s.size := len_data s
  by_cases h1 : a < 0
  · have G := Hid.intro (getN_arg (s := s.data.toList) (at' := a) (log := z) (.inl h1))
    go_enter Try.func12, Try.ntmps12
    go_wp2_with fail
    go_ret3
    exact gt_no G.out (Below.refl _ _) rfl
  · obtain ⟨i, rfl⟩ := Int.eq_ofNat_of_zero_le (show 0 ≤ a by omega)
    by_cases h2 : s.size < i
    · have G := Hid.intro (getN_arg (s := s.data.toList) (at' := (i : Int)) (log := z) (.inr (.inl (by omega))))
      clear hsl
      go_enter Try.func12, Try.ntmps12
      go_wp2_with fail
      go_ret3
      exact gt_no G.out (Below.refl _ _) rfl
    · by_cases h3 : lgB z = true
      · rw [h3] at ML
        have H3 := Hid.intro h3
        have AL := all_any s i w hs (by omega)
        have HSL := Hid.intro hsl
        obtain ⟨T, hT⟩ : ∃ T, s.data.toList = T := ⟨_, rfl⟩
        rw [hT] at AL HSL ⊢
        have HT := Hid.intro hT
        clear hsl hT h3 h1
        go_enter Try.func12, Try.ntmps12
        go_wp2_with fail
        with_reducible refine (ML _).mono ?_
        rintro e w0 ⟨rfl, hw0⟩
        subst hw0
        go_wp2_with fail
        with_reducible refine AL.mono ?_
        clear AL
        rintro e w1 (⟨E, l, r, k1, k2, rfl, k3⟩ | ⟨l, p, v, k1, rfl, k3, k4, k5, k6, k7, k8⟩)
        · have G := Hid.intro (getN_err (log := z) (by have := HSL.out; omega) H3.out k1 k2)
          have t : ((E : Int) != 0) = true := by simp; omega
          have B1 := Hid.intro k3
          clear k1 k2 k3
          go_wp2_with fail
          go_ret3
          exact gt_no G.out B1.out rfl
        · have CW := conv_wc l k6
          have CM := conv_may CW z
          have B1 := Hid.intro k8
          have O1 := Hid.intro k7
          obtain ⟨a', c', hv, hc1, hc2, -⟩ := own_ri (zs := l.map wc) k7
          subst hv
          have MY : Hid (∀ W, Below w1.heap.size w1 W → Calls Try.prog 16 #[.slice a' 65 c', .int .i64 z] W fun e w' => e = .returned (.bool (mayN z l)) ∧ Below W.heap.size W w') := fun W hW => by
            have c := may_any a' 65 c' (l.map wc) z W (own_ri' (own_later O1.out hW)) (by omega)
            rw [CM] at c
            exact c
          by_cases hm : mayN z l = true
          · have CE := conv_eq CW hm
            have bd := mayN_bd hm
            have PT : Hid (∀ W, Below w1.heap.size w1 W → Calls Try.prog 18 #[.slice a' 65 c'] W fun e w' => e = .returned (.string (bs (encN l))) ∧ Below W.heap.size W w') := fun W hW => by
              have o := own_later O1.out hW
              rw [CE] at o
              exact put_some a' 65 c' l W (own_ri' o) (by omega) (fun x hx => by have := bd x hx; omega) hc1 hc2 (by omega)
            have G := getN_put (log := z) (by have := HSL.out; omega) k3 k4 H3.out k1 hm
            rw [hm] at MY
            have k4' : p ≤ s.size := by have := HSL.out; omega
            have ex : s.extract i p = bs ((T.drop i).take (p - i)) := by
              apply Go.WideShapes.bytes_inj
              rw [ByteArray.data_extract, Array.toList_extract, HT.out, bs_data]
            have HL5 := Hid.intro k5
            have HCE := Hid.intro CE
            clear k1 k6 k7 k8 CW CM CE bd hm k4 hc2 k5
            by_cases he : encN l = (T.drop i).take (p - i)
            · rw [if_pos he] at G
              have G := Hid.intro G
              have te : ((bs (encN l)).toList == (s.extract i p).toList) = true := by rw [ex, he]; exact beq_self_eq_true _
              have tn : (bs (encN l)).toList = (s.extract i p).toList := by rw [ex, he]
              clear he ex
              generalize bs (encN l) = X at *
              go_wp2_with fail
              refine wp_region_held_drew (S := fun W => True ∧ Below w1.heap.size w1 W) (by kernel_rfl) ⟨trivial, (Below.refl _ _).drew⟩ (fun hHeld => ?_)
              refine take' (i := 0) (d := (some 32)) (v := ?_) rfl rfl (by kernel_rfl) (by kernel_rfl) (by kernel_rfl) (fun _ _ _ h => h) (Or.inl ⟨by rfl, ?_⟩) (by assumption) ?_
              rotate_left
              · intro w hSw; (try dsimp only at hSw); go_simp; try with_reducible rfl
              try simp only [Act.put, List.setIfInBounds_toArray, List.set_cons_zero, List.set_cons_succ]
              refine take' (i := 1) (d := (some 33)) (v := ?_) rfl rfl (by kernel_rfl) (by kernel_rfl) (by kernel_rfl) (fun _ _ _ h => h) (Or.inl ⟨by rfl, ?_⟩) (by assumption) ?_
              rotate_left
              · intro w hSw; (try dsimp only at hSw); go_simp; try with_reducible rfl
              try simp only [Act.put, List.setIfInBounds_toArray, List.set_cons_zero, List.set_cons_succ]
              refine wpAnyH_ready (rs := [2]) (by kernel_rfl) (by simp) ?_
              refine AllReadyH.cons (o := _) rfl (fun K hK => ?_) AllReadyH.nil
              go_simp
              with_reducible refine (MY.out _ hHeld.2).mono ?_
              rintro e w4 ⟨rfl, hb4⟩
              go_wp2_with fail
              refine hK.out _ _ ⟨trivial, hHeld.2.trans (hb4.mono hHeld.2.size)⟩ (fun hHeld => ?_)
              clear hK K
              try simp only [Act.put, List.setIfInBounds_toArray, List.set_cons_zero, List.set_cons_succ]
              refine take' (i := 3) (d := (some 35)) (v := ?_) rfl rfl (by kernel_rfl) (by kernel_rfl) (by kernel_rfl) (fun _ _ _ h => h) (Or.inl ⟨by rfl, ?_⟩) (by assumption) ?_
              rotate_left
              · intro w hSw; (try dsimp only at hSw); go_simp; try with_reducible rfl
              try simp only [Act.put, List.setIfInBounds_toArray, List.set_cons_zero, List.set_cons_succ]
              refine take' (i := 4) (d := (some 36)) (v := ?_) rfl rfl (by kernel_rfl) (by kernel_rfl) (by kernel_rfl) (fun _ _ _ h => h) (Or.inl ⟨by rfl, ?_⟩) (by assumption) ?_
              rotate_left
              · intro w hSw; (try dsimp only at hSw); go_simp; try with_reducible rfl
              try simp only [Act.put, List.setIfInBounds_toArray, List.set_cons_zero, List.set_cons_succ]
              refine take' (i := 5) (d := (some 37)) (v := ?_) rfl rfl (by kernel_rfl) (by kernel_rfl) (by kernel_rfl) (fun _ _ _ h => h) (Or.inl ⟨by rfl, ?_⟩) (by assumption) ?_
              rotate_left
              · intro w hSw; (try dsimp only at hSw); go_simp; try with_reducible rfl
              try simp only [Act.put, List.setIfInBounds_toArray, List.set_cons_zero, List.set_cons_succ]
              refine take' (i := 7) (d := (some 39)) (v := ?_) rfl rfl (by kernel_rfl) (by kernel_rfl) (by kernel_rfl) (fun _ _ _ h => h) (Or.inl ⟨by rfl, ?_⟩) (by assumption) ?_
              rotate_left
              · intro w hSw; (try dsimp only at hSw); go_simp; try with_reducible rfl
              try simp only [Act.put, List.setIfInBounds_toArray, List.set_cons_zero, List.set_cons_succ]
              refine take' (i := 8) (d := (some 40)) (v := ?_) rfl rfl (by kernel_rfl) (by kernel_rfl) (by kernel_rfl) (fun _ _ _ h => h) (Or.inl ⟨by rfl, ?_⟩) (by assumption) ?_
              rotate_left
              · intro w hSw; (try dsimp only at hSw); go_simp; try with_reducible rfl
              try simp only [Act.put, List.setIfInBounds_toArray, List.set_cons_zero, List.set_cons_succ]
              refine take' (i := 9) (d := (some 41)) (v := ?_) rfl rfl (by kernel_rfl) (by kernel_rfl) (by kernel_rfl) (fun _ _ _ h => h) (Or.inl ⟨by rfl, ?_⟩) (by assumption) ?_
              rotate_left
              · intro w hSw; (try dsimp only at hSw); go_simp; try with_reducible rfl
              try simp only [Act.put, List.setIfInBounds_toArray, List.set_cons_zero, List.set_cons_succ]
              refine take' (i := 10) (d := (some 42)) (v := ?_) rfl rfl (by kernel_rfl) (by kernel_rfl) (by kernel_rfl) (fun _ _ _ h => h) (Or.inl ⟨by rfl, ?_⟩) (by assumption) ?_
              rotate_left
              · intro w hSw; (try dsimp only at hSw); go_simp; try with_reducible rfl
              try simp only [Act.put, List.setIfInBounds_toArray, List.set_cons_zero, List.set_cons_succ]
              refine wpAnyH_ready (rs := [6]) (by kernel_rfl) (by simp) ?_
              refine AllReadyH.cons (o := _) rfl (fun K hK => ?_) AllReadyH.nil
              go_simp
              with_reducible refine (PT.out _ hHeld.2).mono ?_
              rintro e w4 ⟨rfl, hb4⟩
              go_wp2_with fail
              refine hK.out _ _ ⟨trivial, hHeld.2.trans (hb4.mono hHeld.2.size)⟩ (fun hHeld => ?_)
              clear hK K
              try simp only [Act.put, List.setIfInBounds_toArray, List.set_cons_zero, List.set_cons_succ]
              refine take' (i := 11) (d := (some 43)) (v := ?_) rfl rfl (by kernel_rfl) (by kernel_rfl) (by kernel_rfl) (fun _ _ _ h => h) (Or.inl ⟨by rfl, ?_⟩) (by assumption) ?_
              rotate_left
              · intro w hSw; (try dsimp only at hSw); go_simp; try with_reducible rfl
              try simp only [Act.put, List.setIfInBounds_toArray, List.set_cons_zero, List.set_cons_succ]
              refine take' (i := 12) (d := (some 44)) (v := ?_) rfl rfl (by kernel_rfl) (by kernel_rfl) (by kernel_rfl) (fun _ _ _ h => h) (Or.inl ⟨by rfl, ?_⟩) (by assumption) ?_
              rotate_left
              · intro w hSw; (try dsimp only at hSw); go_simp; try with_reducible rfl
              try simp only [Act.put, List.setIfInBounds_toArray, List.set_cons_zero, List.set_cons_succ]
              refine wpAnyH_done (by kernel_rfl) ?_ _
              have HB := Hid.intro (B1.out.trans (hHeld.2.mono B1.out.size))
              have OW := Hid.intro (own_later O1.out hHeld.2)
              clear hHeld
              go_wp2_with fail
              go_ret3
              exact ⟨_, by rw [G.out]; rfl, by rw [G.out]; show World.ownsRow _ _ _ _ _ l.length (nis l); rw [HL5.out]; have := OW.out; rw [HCE.out] at this; exact this, HB.out⟩
            · rw [if_neg he] at G
              have G := Hid.intro G
              have te : ((bs (encN l)).toList == (s.extract i p).toList) = false := by
                exact tl_ne _ _ (fun h => he (by rw [ex] at h; exact (bs_inj _ _).1 h))
              clear he ex
              generalize bs (encN l) = X at *
              go_wp2_with fail
              refine wp_region_held_drew (S := fun W => True ∧ Below w1.heap.size w1 W) (by kernel_rfl) ⟨trivial, (Below.refl _ _).drew⟩ (fun hHeld => ?_)
              refine take' (i := 0) (d := (some 32)) (v := ?_) rfl rfl (by kernel_rfl) (by kernel_rfl) (by kernel_rfl) (fun _ _ _ h => h) (Or.inl ⟨by rfl, ?_⟩) (by assumption) ?_
              rotate_left
              · intro w hSw; (try dsimp only at hSw); go_simp; try with_reducible rfl
              try simp only [Act.put, List.setIfInBounds_toArray, List.set_cons_zero, List.set_cons_succ]
              refine take' (i := 1) (d := (some 33)) (v := ?_) rfl rfl (by kernel_rfl) (by kernel_rfl) (by kernel_rfl) (fun _ _ _ h => h) (Or.inl ⟨by rfl, ?_⟩) (by assumption) ?_
              rotate_left
              · intro w hSw; (try dsimp only at hSw); go_simp; try with_reducible rfl
              try simp only [Act.put, List.setIfInBounds_toArray, List.set_cons_zero, List.set_cons_succ]
              refine wpAnyH_ready (rs := [2]) (by kernel_rfl) (by simp) ?_
              refine AllReadyH.cons (o := _) rfl (fun K hK => ?_) AllReadyH.nil
              go_simp
              with_reducible refine (MY.out _ hHeld.2).mono ?_
              rintro e w4 ⟨rfl, hb4⟩
              go_wp2_with fail
              refine hK.out _ _ ⟨trivial, hHeld.2.trans (hb4.mono hHeld.2.size)⟩ (fun hHeld => ?_)
              clear hK K
              try simp only [Act.put, List.setIfInBounds_toArray, List.set_cons_zero, List.set_cons_succ]
              refine take' (i := 3) (d := (some 35)) (v := ?_) rfl rfl (by kernel_rfl) (by kernel_rfl) (by kernel_rfl) (fun _ _ _ h => h) (Or.inl ⟨by rfl, ?_⟩) (by assumption) ?_
              rotate_left
              · intro w hSw; (try dsimp only at hSw); go_simp; try with_reducible rfl
              try simp only [Act.put, List.setIfInBounds_toArray, List.set_cons_zero, List.set_cons_succ]
              refine take' (i := 4) (d := (some 36)) (v := ?_) rfl rfl (by kernel_rfl) (by kernel_rfl) (by kernel_rfl) (fun _ _ _ h => h) (Or.inl ⟨by rfl, ?_⟩) (by assumption) ?_
              rotate_left
              · intro w hSw; (try dsimp only at hSw); go_simp; try with_reducible rfl
              try simp only [Act.put, List.setIfInBounds_toArray, List.set_cons_zero, List.set_cons_succ]
              refine take' (i := 5) (d := (some 37)) (v := ?_) rfl rfl (by kernel_rfl) (by kernel_rfl) (by kernel_rfl) (fun _ _ _ h => h) (Or.inl ⟨by rfl, ?_⟩) (by assumption) ?_
              rotate_left
              · intro w hSw; (try dsimp only at hSw); go_simp; try with_reducible rfl
              try simp only [Act.put, List.setIfInBounds_toArray, List.set_cons_zero, List.set_cons_succ]
              refine take' (i := 7) (d := (some 39)) (v := ?_) rfl rfl (by kernel_rfl) (by kernel_rfl) (by kernel_rfl) (fun _ _ _ h => h) (Or.inl ⟨by rfl, ?_⟩) (by assumption) ?_
              rotate_left
              · intro w hSw; (try dsimp only at hSw); go_simp; try with_reducible rfl
              try simp only [Act.put, List.setIfInBounds_toArray, List.set_cons_zero, List.set_cons_succ]
              refine take' (i := 8) (d := (some 40)) (v := ?_) rfl rfl (by kernel_rfl) (by kernel_rfl) (by kernel_rfl) (fun _ _ _ h => h) (Or.inl ⟨by rfl, ?_⟩) (by assumption) ?_
              rotate_left
              · intro w hSw; (try dsimp only at hSw); go_simp; try with_reducible rfl
              try simp only [Act.put, List.setIfInBounds_toArray, List.set_cons_zero, List.set_cons_succ]
              refine take' (i := 9) (d := (some 41)) (v := ?_) rfl rfl (by kernel_rfl) (by kernel_rfl) (by kernel_rfl) (fun _ _ _ h => h) (Or.inl ⟨by rfl, ?_⟩) (by assumption) ?_
              rotate_left
              · intro w hSw; (try dsimp only at hSw); go_simp; try with_reducible rfl
              try simp only [Act.put, List.setIfInBounds_toArray, List.set_cons_zero, List.set_cons_succ]
              refine take' (i := 10) (d := (some 42)) (v := ?_) rfl rfl (by kernel_rfl) (by kernel_rfl) (by kernel_rfl) (fun _ _ _ h => h) (Or.inl ⟨by rfl, ?_⟩) (by assumption) ?_
              rotate_left
              · intro w hSw; (try dsimp only at hSw); go_simp; try with_reducible rfl
              try simp only [Act.put, List.setIfInBounds_toArray, List.set_cons_zero, List.set_cons_succ]
              refine wpAnyH_ready (rs := [6]) (by kernel_rfl) (by simp) ?_
              refine AllReadyH.cons (o := _) rfl (fun K hK => ?_) AllReadyH.nil
              go_simp
              with_reducible refine (PT.out _ hHeld.2).mono ?_
              rintro e w4 ⟨rfl, hb4⟩
              go_wp2_with fail
              refine hK.out _ _ ⟨trivial, hHeld.2.trans (hb4.mono hHeld.2.size)⟩ (fun hHeld => ?_)
              clear hK K
              try simp only [Act.put, List.setIfInBounds_toArray, List.set_cons_zero, List.set_cons_succ]
              refine take' (i := 11) (d := (some 43)) (v := ?_) rfl rfl (by kernel_rfl) (by kernel_rfl) (by kernel_rfl) (fun _ _ _ h => h) (Or.inl ⟨by rfl, ?_⟩) (by assumption) ?_
              rotate_left
              · intro w hSw; (try dsimp only at hSw); go_simp; try with_reducible rfl
              try simp only [Act.put, List.setIfInBounds_toArray, List.set_cons_zero, List.set_cons_succ]
              refine take' (i := 12) (d := (some 44)) (v := ?_) rfl rfl (by kernel_rfl) (by kernel_rfl) (by kernel_rfl) (fun _ _ _ h => h) (Or.inl ⟨by rfl, ?_⟩) (by assumption) ?_
              rotate_left
              · intro w hSw; (try dsimp only at hSw); go_simp; try with_reducible rfl
              try simp only [Act.put, List.setIfInBounds_toArray, List.set_cons_zero, List.set_cons_succ]
              refine wpAnyH_done (by kernel_rfl) ?_ _
              have HB := Hid.intro (B1.out.trans (hHeld.2.mono B1.out.size))
              have OW := Hid.intro (own_later O1.out hHeld.2)
              clear hHeld
              go_wp2_with fail
              go_ret3
              exact gt_no G.out HB.out rfl
          · have hf : mayN z l = false := by simpa using hm
            rw [hf] at MY
            have G := Hid.intro (getN_may (log := z) (by have := HSL.out; omega) H3.out k1 hf)
            clear k1 k6 k7 k8 CW CM hm hf hc2 k5
            go_wp2_with fail
            refine wp_region_held_drew (S := fun W => True ∧ Below w1.heap.size w1 W) (by kernel_rfl) ⟨trivial, (Below.refl _ _).drew⟩ (fun hHeld => ?_)
            refine take' (i := 0) (d := (some 32)) (v := ?_) rfl rfl (by kernel_rfl) (by kernel_rfl) (by kernel_rfl) (fun _ _ _ h => h) (Or.inl ⟨by rfl, ?_⟩) (by assumption) ?_
            rotate_left
            · intro w hSw; (try dsimp only at hSw); go_simp; try with_reducible rfl
            try simp only [Act.put, List.setIfInBounds_toArray, List.set_cons_zero, List.set_cons_succ]
            refine take' (i := 1) (d := (some 33)) (v := ?_) rfl rfl (by kernel_rfl) (by kernel_rfl) (by kernel_rfl) (fun _ _ _ h => h) (Or.inl ⟨by rfl, ?_⟩) (by assumption) ?_
            rotate_left
            · intro w hSw; (try dsimp only at hSw); go_simp; try with_reducible rfl
            try simp only [Act.put, List.setIfInBounds_toArray, List.set_cons_zero, List.set_cons_succ]
            refine wpAnyH_ready (rs := [2]) (by kernel_rfl) (by simp) ?_
            refine AllReadyH.cons (o := _) rfl (fun K hK => ?_) AllReadyH.nil
            go_simp
            with_reducible refine (MY.out _ hHeld.2).mono ?_
            rintro e w4 ⟨rfl, hb4⟩
            go_wp2_with fail
            refine hK.out _ _ ⟨trivial, hHeld.2.trans (hb4.mono hHeld.2.size)⟩ (fun hHeld => ?_)
            clear hK K
            try simp only [Act.put, List.setIfInBounds_toArray, List.set_cons_zero, List.set_cons_succ]
            refine take' (i := 3) (d := (some 35)) (v := ?_) rfl rfl (by kernel_rfl) (by kernel_rfl) (by kernel_rfl) (fun _ _ _ h => h) (Or.inl ⟨by rfl, ?_⟩) (by assumption) ?_
            rotate_left
            · intro w hSw; (try dsimp only at hSw); go_simp; try with_reducible rfl
            try simp only [Act.put, List.setIfInBounds_toArray, List.set_cons_zero, List.set_cons_succ]
            refine take' (i := 4) (d := (some 36)) (v := ?_) rfl rfl (by kernel_rfl) (by kernel_rfl) (by kernel_rfl) (fun _ _ _ h => h) (Or.inl ⟨by rfl, ?_⟩) (by assumption) ?_
            rotate_left
            · intro w hSw; (try dsimp only at hSw); go_simp; try with_reducible rfl
            try simp only [Act.put, List.setIfInBounds_toArray, List.set_cons_zero, List.set_cons_succ]
            refine take' (i := 5) (d := (some 37)) (v := undef) rfl rfl (by kernel_rfl) (by kernel_rfl) (by kernel_rfl) (fun _ _ _ h => h) (Or.inr ⟨by rfl, rfl⟩) (by assumption) ?_
            try simp only [Act.put, List.setIfInBounds_toArray, List.set_cons_zero, List.set_cons_succ]
            refine take' (i := 6) (d := (some 38)) (v := undef) rfl rfl (by kernel_rfl) (by kernel_rfl) (by kernel_rfl) (fun _ _ _ h => h) (Or.inr ⟨by rfl, rfl⟩) (by assumption) ?_
            try simp only [Act.put, List.setIfInBounds_toArray, List.set_cons_zero, List.set_cons_succ]
            refine take' (i := 7) (d := (some 39)) (v := undef) rfl rfl (by kernel_rfl) (by kernel_rfl) (by kernel_rfl) (fun _ _ _ h => h) (Or.inr ⟨by rfl, rfl⟩) (by assumption) ?_
            try simp only [Act.put, List.setIfInBounds_toArray, List.set_cons_zero, List.set_cons_succ]
            refine take' (i := 8) (d := (some 40)) (v := undef) rfl rfl (by kernel_rfl) (by kernel_rfl) (by kernel_rfl) (fun _ _ _ h => h) (Or.inr ⟨by rfl, rfl⟩) (by assumption) ?_
            try simp only [Act.put, List.setIfInBounds_toArray, List.set_cons_zero, List.set_cons_succ]
            refine take' (i := 9) (d := (some 41)) (v := undef) rfl rfl (by kernel_rfl) (by kernel_rfl) (by kernel_rfl) (fun _ _ _ h => h) (Or.inr ⟨by rfl, rfl⟩) (by assumption) ?_
            try simp only [Act.put, List.setIfInBounds_toArray, List.set_cons_zero, List.set_cons_succ]
            refine take' (i := 10) (d := (some 42)) (v := undef) rfl rfl (by kernel_rfl) (by kernel_rfl) (by kernel_rfl) (fun _ _ _ h => h) (Or.inr ⟨by rfl, rfl⟩) (by assumption) ?_
            try simp only [Act.put, List.setIfInBounds_toArray, List.set_cons_zero, List.set_cons_succ]
            refine take' (i := 11) (d := (some 43)) (v := undef) rfl rfl (by kernel_rfl) (by kernel_rfl) (by kernel_rfl) (fun _ _ _ h => h) (Or.inr ⟨by rfl, rfl⟩) (by assumption) ?_
            try simp only [Act.put, List.setIfInBounds_toArray, List.set_cons_zero, List.set_cons_succ]
            refine take' (i := 12) (d := (some 44)) (v := ?_) rfl rfl (by kernel_rfl) (by kernel_rfl) (by kernel_rfl) (fun _ _ _ h => h) (Or.inl ⟨by rfl, ?_⟩) (by assumption) ?_
            rotate_left
            · intro w hSw; (try dsimp only at hSw); go_simp; try with_reducible rfl
            try simp only [Act.put, List.setIfInBounds_toArray, List.set_cons_zero, List.set_cons_succ]
            refine wpAnyH_done (by kernel_rfl) ?_ _
            have HB := Hid.intro (B1.out.trans (hHeld.2.mono B1.out.size))
            have OW := Hid.intro (own_later O1.out hHeld.2)
            clear hHeld
            go_wp2_with fail
            go_ret3
            exact gt_no G.out HB.out rfl
      · have hf : lgB z = false := by simpa using h3
        rw [hf] at ML
        have G := Hid.intro (getN_arg (s := s.data.toList) (at' := (i : Int)) (log := z) (.inr (.inr hf)))
        clear hsl h3 hf
        go_enter Try.func12, Try.ntmps12
        go_wp2_with fail
        with_reducible refine (ML _).mono ?_
        rintro e w0 ⟨rfl, hw0⟩
        subst hw0
        go_wp2_with fail
        go_ret3
        exact gt_no G.out (Below.refl _ _) rfl
end Go.Proofs.Ytplalkhjjndffaa
