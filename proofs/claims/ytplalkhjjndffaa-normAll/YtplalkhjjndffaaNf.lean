/-
  What any frequencies are normed to, or the error; each condition stands at its theorem.
-/
import Derived.Test.YtplalkhjjndffaaSh
import Derived.Test.YtplalkhjjndffaaNd
import Derived.Test.YtplalkhjjndffaaMa
import Derived.Test.YtplalkhjjndffaaLe
import Derived.Test.YtplalkhjjndffaaNc
import Derived.Test.YtplalkhjjndffaaOr
namespace Go.Proofs.Ytplalkhjjndffaa
open Go.ChangeShapes Go.WideShapes Go.ChangeAt Go.RowKit
open Go.ChangeMaps (open_string shut_string)

theorem norm_no {f : List Int} {z : Int} (h : lgB z = false ∨ okC 16777216 f = false ∨ f.sum = 0) : normA f z = (1, []) := by
  unfold normA
  rw [if_neg]
  rintro ⟨h1, h2, h3, h4⟩
  rcases h with h | h | h
  · have := (lgB_iff z).2 h4; rw [h] at this; cases this
  · have := (okC_iff 16777216 f).2 ⟨h1, h2⟩; rw [h] at this; cases this
  · omega
theorem toNat_back {f : List Int} (h : ∀ z ∈ f, 0 ≤ z) : (f.map Int.toNat).map Int.ofNat = f := by
  rw [List.map_map]
  conv => rhs; rw [← List.map_id f]
  exact List.map_congr_left (fun z hz => by have := h z hz; show ((z.toNat : Nat) : Int) = z; omega)
theorem norm_yes {F : List Nat} {z : Int} (h1 : lgB z = true) (hl : F.length = 65) (hf : ∀ x ∈ F, x ≤ 16777216) (h0 : 0 < F.sum) : normA (F.map Int.ofNat) z = (0, nrm z.toNat F) := by
  unfold normA
  rw [if_pos]
  · congr 2
    rw [List.map_map]
    conv => rhs; rw [← List.map_id F]
    exact List.map_congr_left (fun x _ => rfl)
  · refine ⟨by simpa using hl, fun y hy => ?_, by rw [sum_ofNat]; omega, (lgB_iff z).1 h1⟩
    obtain ⟨x, hx, rfl⟩ := List.mem_map.1 hy
    have := hf x hx
    exact ⟨Int.natCast_nonneg _, by show (x : Int) ≤ _; omega⟩
theorem set_same (l : List Nat) (k : Nat) : l.set k (l.getD k 0) = l := by
  induction l generalizing k with
  | nil => rfl
  | cons x l ih =>
    cases k with
    | zero => rfl
    | succ k => rw [List.set_cons_succ, List.getD_cons_succ, ih]
theorem nrm_lack {log : Nat} {F : List Nat} (h : (shares log F).sum ≤ 2 ^ log) : nrm log F = (shares log F).set (topOf F) ((shares log F).getD (topOf F) 0 + (2 ^ log - (shares log F).sum)) := by
  unfold nrm
  split
  · rfl
  · have e : 2 ^ log - (shares log F).sum = 0 := by omega
    have e2 : (shares log F).sum - 2 ^ log = 0 := by omega
    rw [e, e2, Nat.add_zero, set_same]; rfl
theorem nrm_much {log : Nat} {F : List Nat} (h : 2 ^ log ≤ (shares log F).sum) : nrm log F = decN ((shares log F).sum - 2 ^ log) (shares log F) := by
  unfold nrm
  rw [if_neg (by omega)]
theorem shares_bd {log : Nat} {F : List Nat} (hl : log ≤ 12) : ∀ x ∈ shares log F, x ≤ 4096 := by
  intro x hx
  obtain ⟨y, hy, rfl⟩ := List.mem_map.1 hx
  unfold share
  split
  · omega
  · have a := le_sum F y hy
    have p := pow_bd log hl
    have h1 : y * 2 ^ log ≤ F.sum * 2 ^ log := Nat.mul_le_mul_right _ a
    have h2 : y * 2 ^ log / F.sum ≤ F.sum * 2 ^ log / F.sum := Nat.div_le_div_right h1
    have h3 : F.sum * 2 ^ log / F.sum ≤ 2 ^ log := by
      rcases Nat.eq_zero_or_pos F.sum with e | e
      · rw [e]; simp
      · rw [Nat.mul_div_cancel_left _ e]; exact Nat.le_refl _
    omega
theorem shares_len (log : Nat) (F : List Nat) : (shares log F).length = F.length := by unfold shares; rw [List.length_map]
theorem sum_le (m : Nat) (l : List Nat) (h : ∀ x ∈ l, x ≤ m) : l.sum ≤ l.length * m := by
  induction l with
  | nil => simp
  | cons x l ih =>
    have := ih (fun y hy => h y (by simp [hy]))
    have := h x (by simp)
    rw [List.sum_cons, List.length_cons, Nat.succ_mul]; omega
theorem ofNat_bd {F : List Nat} {m : Nat} (h : ∀ x ∈ F, x ≤ m) : ∀ z ∈ F.map Int.ofNat, 0 ≤ z ∧ z ≤ (m : Int) := by
  intro z hz
  obtain ⟨x, hx, rfl⟩ := List.mem_map.1 hz
  have := h x hx
  exact ⟨Int.natCast_nonneg _, by show (x : Int) ≤ _; omega⟩
theorem own_ri' {W : World} {base : Nat} {a : Option Addr} {n cap : Nat} {zs : List Int} (h : W.ownsRow base 3 1 (.slice a n cap) n (ivs zs)) : RI W a n zs := by
  obtain ⟨a', c', hv, -, -, r⟩ := own_ri h
  cases hv
  exact r
def OfPost (A : Nat × List Nat) (w : World) (e : Ending) (w' : World) : Prop :=
  ∃ v, e = .returned (.tuple #[v, .int .i64 (A.1 : Nat)]) ∧ w'.ownsRow w.heap.size 3 1 v A.2.length (nis A.2) ∧ Below w.heap.size w w'
theorem of_no {w w' : World} {A : Nat × List Nat} (h : A = (1, [])) (b : Below w.heap.size w w') : OfPost A w (.returned (.tuple #[.slice none 0 0, .int .i64 1])) w' := by
  subst h
  exact ⟨_, rfl, World.ownsRow_nil _ _ _ _, b⟩
set_option maxRecDepth 100000 in
set_option maxHeartbeats 4000000 in
/-- What any frequencies are normed to, or the error. -/
theorem of_any (a : Option Addr) (n cap : Nat) (f : List Int) (z : Int) (w : World) (h : RI w a n f) (hn : n ≤ 1000) :
    Calls Try.prog 10 #[.slice a n cap, .int .i64 z] w fun e w' => OfPost (normA f z) w e w' := by
  have ML := maylog_any z
  by_cases h1 : lgB z = true
  · have OC := ofc_any 16777216 a n cap f w h (by omega)
    by_cases h2 : okC 16777216 f = true
    · obtain ⟨fl, fb⟩ := (okC_iff _ _).1 h2
      have hb := toNat_back (fun x hx => (fb x hx).1)
      obtain ⟨F, hF⟩ : ∃ F, f.map Int.toNat = F := ⟨_, rfl⟩
      rw [hF] at hb
      subst hb
      have Fl : F.length = 65 := by simpa using fl
      have Fb : ∀ x ∈ F, x ≤ 16777216 := fun x hx => by have := (fb _ (List.mem_map_of_mem hx)).2; have e : (Int.ofNat x) = (x : Int) := rfl; omega
      have SU : ∀ W, Below w.heap.size w W → _ := fun W hW => sum_any a n cap (F.map Int.ofNat) W (ri_below h hW) hn fb
      rw [sum_ofNat] at SU
      rw [h2] at OC
      by_cases h0 : F.sum = 0
      · have N := Hid.intro (norm_no (f := F.map Int.ofNat) (z := z) (.inr (.inr (by rw [sum_ofNat, h0]; rfl))))
        rw [h0] at SU
        rw [h1] at ML
        have SU2 := Hid.intro SU
        clear SU h fl fb hF Fl Fb h1 h2 h0
        go_enter Try.func10, Try.ntmps10
        go_wp2_with fail
        with_reducible refine (ML _).mono ?_
        rintro e w1 ⟨rfl, rfl⟩
        go_wp2_with fail
        with_reducible refine OC.mono ?_
        rintro e w2 ⟨rfl, b2⟩
        clear OC
        have S3 := SU2.out w2 b2
        go_wp2_with fail
        with_reducible refine S3.mono ?_
        rintro e w3 ⟨rfl, rfl⟩
        clear S3
        go_wp2_with fail
        go_ret2
        exact of_no N.out b2
      · have h0' : 0 < F.sum := by omega
        have N := norm_yes (z := z) h1 Fl Fb h0'
        obtain ⟨s, e1, e2, s1, s2, e3, k12⟩ := one_shl z h1
        obtain ⟨z7, z12⟩ := (lgB_iff z).1 h1
        rw [h1] at ML
        obtain rfl : n = 65 := by have := h.1; rw [List.length_map] at this; omega
        have SH : ∀ W, Below w.heap.size w W → _ := fun W hW => shares_any a 65 cap z.toNat F W (ri_below h hW) hn Fb h0' k12
        have OR : ∀ W, Below w.heap.size w W → _ := fun W hW => order_any a 65 cap (F.map Int.ofNat) W (ri_below h hW) (fun x hx => by have := ofNat_bd Fb x hx; omega) hn
        have LL := shares_len z.toNat F
        have LB := shares_bd (F := F) k12
        have NM := nrm_much (log := z.toNat) (F := F)
        have NK := nrm_lack (log := z.toNat) (F := F)
        rw [e2] at SH NM NK
        rw [Fl] at LL
        have LS := sum_le 4096 _ LB
        rw [LL] at LS
        generalize shares z.toNat F = L at *
        have SL : ∀ (W : World) (g0 : Nat), W.ownsRow g0 3 1 (.slice (some ⟨g0, 0, none⟩) 65 65) 65 (nis L) → _ := fun W g0 hW => sum_any (some ⟨g0, 0, none⟩) 65 65 (L.map Int.ofNat) W (own_ri' hW) (by omega) (fun x hx => by have := ofNat_bd LB x hx; omega)
        rw [sum_ofNat] at SL
        have LE : ∀ (W : World) (g0 : Nat) (m : Nat), _ → _ → _ := fun W g0 m hW hm => lessen_any g0 g0 65 m L W hW LL (fun x hx => by have := ofNat_bd LB x hx; omega) hm (by omega) (by omega)
        have OT : Hid (∀ k r, Ordered (F.map Int.ofNat) 65 (k :: r) → topOf F = k ∧ k < 65) := fun k r ho => by
          rw [← Fl] at ho
          have e := ordered_top ho
          exact ⟨e, by rw [← e, ← Fl]; exact topOf_lt F (by rintro rfl; simp at h0')⟩
        have ON : Hid (¬ Ordered (F.map Int.ofNat) 65 []) := fun ho => by
          rw [← Fl] at ho
          have hne : F ≠ [] := by rintro rfl; simp at h0'
          have := (ordered_mem ho (topOf F)).2 ⟨topOf_lt F hne, by rw [fr_map, topOf_get]; have := mx_pos h0'; omega⟩
          simp at this
        have GL : Hid (∀ k, k < 65 → g L k ≤ 4096) := fun k hk => LB _ (g_mem L k (by omega))
        have SU2 := Hid.intro SU
        have SH2 := Hid.intro SH
        have OR2 := Hid.intro OR
        have SL2 := Hid.intro SL
        have LE2 := Hid.intro LE
        have HLL := Hid.intro LL
        obtain ⟨t, ht⟩ : ∃ t, L.sum = t := ⟨_, rfl⟩
        have Ht := Hid.intro ht
        obtain ⟨q, hq⟩ : ∃ q, F.sum = q := ⟨_, rfl⟩
        rw [ht] at NM NK SL2 LS
        rw [hq] at SU2 h0'
        have hst : ((q : Int) == 0) = false := by simp; omega
        clear SU SH OR SL LE LL LB h fl fb hF Fl Fb h1 h2 h0 ht hq
        by_cases hlt : s < t
        · obtain ⟨m, hm⟩ : ∃ m, t - s = m := ⟨_, rfl⟩
          have e5 : (s : Int) - (t : Int) = -(m : Int) := by omega
          have hm1 : 1 ≤ m := by omega
          rw [NM (by omega), hm] at N
          have N2 := Hid.intro N
          have HM : Hid (65 + m ≤ L.sum) := by show _ ≤ _; rw [Ht.out]; omega
          have m2 : m ≤ 300000 := by omega
          clear NM NK N hm
          go_enter Try.func10, Try.ntmps10
          go_wp2_with fail
          with_reducible refine (ML _).mono ?_
          rintro e w1 ⟨rfl, rfl⟩
          go_wp2_with fail
          with_reducible refine OC.mono ?_
          rintro e w2 ⟨rfl, b2⟩
          clear OC
          have S3 := SU2.out w2 b2
          go_wp2_with fail
          with_reducible refine S3.mono ?_
          rintro e w3 ⟨rfl, rfl⟩
          clear S3
          have S4 := SH2.out w3 b2
          go_wp2_with fail
          with_reducible refine S4.mono ?_
          rintro e w4 ⟨rfl, o4, b4⟩
          clear S4
          have S5 := SL2.out w4 _ o4
          go_wp2_with fail
          with_reducible refine S5.mono ?_
          rintro e w5 ⟨rfl, rfl⟩
          clear S5
          have S6 := LE2.out w5 _ m o4 HM.out
          have b5 : Below w1.heap.size w1 w5 := b2.trans (b4.mono b2.size)
          have z3 := b2.size
          clear o4 b4
          go_wp2_with fail
          with_reducible refine S6.mono ?_
          rintro e w6 ⟨rfl, o6, c6⟩
          clear S6
          have O6 := Hid.intro o6
          have B6 := Hid.intro (b5.trans (chg_below c6 b5.size (fun k hk => by subst hk; exact z3)))
          clear o6 c6
          go_wp2_with fail
          go_ret2
          refine ⟨_, by rw [N2.out]; rfl, ?_, B6.out⟩
          rw [N2.out]
          have := O6.out
          have e9 : (decN m L).length = 65 := by rw [decN_length]; exact HLL.out
          show World.ownsRow _ _ _ _ _ (decN m L).length _
          rw [e9]
          exact own_low this z3
        · obtain ⟨d, hd⟩ : ∃ d, s - t = d := ⟨_, rfl⟩
          have e5 : (s : Int) - (t : Int) = (d : Int) := by omega
          rw [NK (by omega), hd] at N
          have N2 := Hid.intro N
          have d2 : d ≤ 4096 := by omega
          clear NM NK N hd
          go_enter Try.func10, Try.ntmps10
          go_wp2_with fail
          with_reducible refine (ML _).mono ?_
          rintro e w1 ⟨rfl, rfl⟩
          go_wp2_with fail
          with_reducible refine OC.mono ?_
          rintro e w2 ⟨rfl, b2⟩
          clear OC
          have S3 := SU2.out w2 b2
          go_wp2_with fail
          with_reducible refine S3.mono ?_
          rintro e w3 ⟨rfl, rfl⟩
          clear S3
          have S4 := SH2.out w3 b2
          go_wp2_with fail
          with_reducible refine S4.mono ?_
          rintro e w4 ⟨rfl, o4, b4⟩
          clear S4
          have S5 := SL2.out w4 _ o4
          go_wp2_with fail
          with_reducible refine S5.mono ?_
          rintro e w5 ⟨rfl, rfl⟩
          clear S5
          have b5 : Below w1.heap.size w1 w5 := b2.trans (b4.mono b2.size)
          have S6 := OR2.out w5 b5
          have z3 := b2.size
          clear b4
          go_wp2_with fail
          with_reducible refine S6.mono ?_
          rintro e w6 ⟨v6, o, rfl, h6, o6, b6⟩
          clear S6
          obtain ⟨k, r, rfl⟩ : ∃ k r, o = k :: r := by
            cases o with
            | nil => exact absurd h6 ON.out
            | cons k r => exact ⟨k, r, rfl⟩
          obtain ⟨hk, k65⟩ := OT.out k r h6
          obtain ⟨b, cb, rfl⟩ := own_slice o6 (by simp)
          have cb0 := nis_cell o6 0 (by simp)
          have g0 : g (k :: r) 0 = k := rfl
          rw [g0] at cb0
          have p4 := own_later o4 b6
          have cl := nis_cell p4 k (by rw [HLL.out]; exact k65)
          have fk := (own_there p4 k (by omega)).2.2
          have gb := GL.out k k65
          have GK : Hid (g L k = L.getD k 0) := rfl
          have q4 := own_set p4 k (.int .i64 ((g L k : Nat) + (d : Nat) : Int))
          have B6 := Hid.intro ((b5.trans (b6.mono b5.size)).setCell (p := ⟨w3.heap.size, k, none⟩) z3 (.int .i64 ((g L k : Nat) + (d : Nat) : Int)))
          have HK := Hid.intro hk
          have lk : ((0 : Int) < ((k :: r).length : Nat)) := by simp
          generalize (k :: r).length = lr at *
          generalize g L k = y at *
          have Q4 := Hid.intro q4
          clear q4 p4 o4 o6 b6 b5 h6 g0 hk
          go_wp2_with fail
          go_ret2
          refine ⟨_, by rw [N2.out]; rfl, ?_, B6.out⟩
          rw [N2.out]
          show World.ownsRow _ _ _ _ _ (L.set (topOf F) (L.getD (topOf F) 0 + d)).length _
          rw [List.length_set, HLL.out, HK.out, ← GK.out]
          have := own_low Q4.out z3
          have e9 : (nis L).set k (.int .i64 ((y : Nat) + (d : Nat) : Int)) = nis (L.set k (y + d)) := by
            rw [nis_map, ivs_set, nis_map, List.map_set]; rfl
          rw [e9] at this
          exact this
    · have hf : okC 16777216 f = false := by simpa using h2
      have N := Hid.intro (norm_no (f := f) (z := z) (.inr (.inl hf)))
      rw [h1] at ML
      rw [hf] at OC
      clear h h1 h2 hf
      go_enter Try.func10, Try.ntmps10
      go_wp2_with fail
      with_reducible refine (ML _).mono ?_
      rintro e w1 ⟨rfl, rfl⟩
      go_wp2_with fail
      with_reducible refine OC.mono ?_
      rintro e w2 ⟨rfl, b2⟩
      clear OC
      go_wp2_with fail
      go_ret2
      exact of_no N.out b2
  · have hf : lgB z = false := by simpa using h1
    have N := Hid.intro (norm_no (f := f) (z := z) (.inl hf))
    rw [hf] at ML
    clear h h1 hf
    go_enter Try.func10, Try.ntmps10
    go_wp2_with fail
    with_reducible refine (ML _).mono ?_
    rintro e w1 ⟨rfl, rfl⟩
    go_wp2_with fail
    go_ret2
    exact of_no N.out (Below.refl _ _)
end Go.Proofs.Ytplalkhjjndffaa
