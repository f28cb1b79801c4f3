/-
  NormMade: the walk.
-/
import Derived.Test.YtplalkhjjndffaaNr
import Derived.Test.YtplalkhjjndffaaFq
import Derived.Test.YtplalkhjjndffaaAw
import Derived.Test.YtplalkhjjndffaaEv
import Derived.Test.YtplalkhjjndffaaGm
import Derived.Deep.QuietTactic
import Derived.Deep.RegionWith
import Derived.OwnWalk
import Derived.BigQuiet
import Derived.Deep.RegionHeld3
namespace Go.Proofs.Ytplalkhjjndffaa
open Go.ChangeShapes Go.WideShapes Go.ChangeAt Go.RowKit
open Go.ChangeMaps (open_string shut_string)


theorem conv_nat (l : List Nat) : Conv (fun n => (n : Int)) l := fun _n _ => ⟨fun _ => rfl, fun _ _ => rfl⟩
theorem norm_cases (f : List Int) (z : Int) : normA f z = (1, []) ∨ ∃ M, normA f z = (0, M) ∧ M.length = 65 ∧ f.length = 65 ∧ may z (M.map Int.ofNat) = true ∧ (∀ x ∈ M, x ≤ 4096) ∧ (∀ i, 0 < g M i ↔ 0 < fr f i) ∧ ∀ i j, fr f j < fr f i → g M j ≤ g M i + 1 := by
  by_cases h : f.length = 65 ∧ (∀ z ∈ f, 0 ≤ z ∧ z ≤ 16777216) ∧ 0 < f.sum ∧ 7 ≤ z ∧ z ≤ 12
  · right
    obtain ⟨h1, h2, h3, h4, h5⟩ := h
    have hb := toNat_back (fun x hx => (h2 x hx).1)
    obtain ⟨F, hF⟩ : ∃ F, f.map Int.toNat = F := ⟨_, rfl⟩
    rw [hF] at hb
    subst hb
    have Fl : F.length = 65 := by simpa using h1
    have Fb : ∀ x ∈ F, x ≤ 16777216 := fun x hx => by have := (h2 _ (List.mem_map_of_mem hx)).2; have e : (Int.ofNat x) = (x : Int) := rfl; omega
    rw [sum_ofNat] at h3
    have p7 : 2 ^ 7 ≤ 2 ^ z.toNat := Nat.pow_le_pow_right (by omega) (by omega)
    obtain ⟨⟨f1, f2, f3⟩, f4⟩ := nrm_fair (log := z.toNat) (f := F) (by omega) (by omega)
    have mN : mayN z (nrm z.toNat F) = true := mayN_yes.2 ⟨⟨h4, h5⟩, by rw [f1, Fl], f4⟩
    refine ⟨_, norm_yes ((lgB_iff z).2 ⟨h4, h5⟩) Fl Fb (by omega), by rw [f1, Fl], h1, ?_, mayN_bd mN, fun i => ?_, fun i j hij => ?_⟩
    · have := conv_may (conv_nat (nrm z.toNat F)) z
      rw [mN] at this
      exact this
    · rw [fr_map]
      have := f2 i
      show 0 < (nrm z.toNat F).getD i 0 ↔ _
      rw [this]; omega
    · rw [fr_map, fr_map] at hij
      exact f3 i j (by omega)
  · left
    unfold normA; rw [if_neg h]
def MdRel (w : World) (iv : Value) (wr : World) : Prop := ∃ i : Nat, i ≤ 65 ∧ iv = .int .i64 i ∧ Below w.heap.size w wr
set_option maxRecDepth 100000 in
set_option maxHeartbeats 8000000 in
theorem made_walk (a : Option Addr) (n cap : Nat) (a2 : Int) (w : World) (h : RU w a n) (h2 : 0 ≤ a2 ∧ a2 ≤ 255) (hn : n ≤ 9223372036854775807) :
    Calls Try.prog 4 #[.slice a n cap, .int .u8 a2] w fun e w' => e = .returned (.bool true) ∧ Below w.heap.size w w' := by
  have AW := Hid.intro awake_any
  by_cases hbig : 140 < n
  · clear h
    go_enter Try.func4, Try.ntmps4
    go_wp2_with fail
    with_reducible refine (AW.out _).mono ?_
    rintro e w1 ⟨rfl, b1⟩
    go_wp2_with fail
    go_ret
    exact ⟨rfl, b1⟩
  · have FQ := freq_any a n cap w h (by omega)
    obtain ⟨r, hr⟩ : ∃ r : Nat, a2 % 6 = (r : Int) := ⟨(a2 % 6).toNat, by omega⟩
    have hrt : a2.tmod 6 = (r : Int) := by rw [Int.tmod_eq_emod_of_nonneg h2.1]; exact hr
    obtain ⟨K, hK⟩ : ∃ K : Nat, 7 + (r : Int) = (K : Int) := ⟨7 + r, by omega⟩
    have K12 : K ≤ 12 := by omega
    obtain ⟨h2a, h2b⟩ := h2
    clear h
    go_enter Try.func4, Try.ntmps4
    go_wp2_with fail
    with_reducible refine FQ.mono ?_
    rintro e w1 ⟨vF, F, rfl, f1, f2, f3, f4⟩
    clear FQ
    obtain ⟨bF, cF, rfl⟩ := own_slice f3 (by omega)
    have OF := of_any (some ⟨bF, 0, none⟩) 65 cF F K w1 (own_ri' f3) (by omega)
    have HC := Hid.intro (norm_cases F K)
    obtain ⟨A, hA⟩ : ∃ A, normA F (K : Int) = A := ⟨_, rfl⟩
    rw [hA] at OF HC
    have HA := Hid.intro hA
    have O1 := Hid.intro f3
    have B1 := Hid.intro f4
    have HF2 := Hid.intro f2
    clear f2 f3 f4 hA
    obtain ⟨E, M⟩ := A
    go_wp2_with fail
    with_reducible refine OF.mono ?_
    rintro e w2 ⟨v1, rfl, o1, b2⟩
    clear OF
    have o1' : w2.ownsRow w1.heap.size 3 1 v1 M.length (ivs (M.map Int.ofNat)) := o1
    have O2 := Hid.intro (own_later O1.out b2)
    have B2 := Hid.intro (B1.out.trans (b2.mono B1.out.size))
    have RN := rnorm_any (some ⟨bF, 0, none⟩) 65 cF F K w2 (own_ri' O2.out) (by omega)
    rw [HA.out] at RN
    clear o1 b2
    obtain ⟨a1, c1, rfl, hc1, -, -⟩ := own_ri o1'
    have OV := Hid.intro o1'
    obtain ⟨n1, hn1⟩ : ∃ n1, M.length = n1 := ⟨_, rfl⟩
    have HN1 := Hid.intro hn1
    rw [hn1] at OV ⊢
    clear o1' hn1 hc1
    simp only
    go_wp2_with fail
    with_reducible refine RN.mono ?_
    rintro e w3 ⟨v2, rfl, o2, b3⟩
    clear RN
    have o2' : w3.ownsRow w2.heap.size 3 1 v2 M.length (ivs (M.map Int.ofNat)) := o2
    clear o2
    obtain ⟨a2', c2, rfl, -, -, -⟩ := own_ri o2'
    rw [HN1.out] at o2' ⊢
    simp only
    generalize a2' = a2 at *
    have O3 := Hid.intro (own_later O2.out b3)
    have OV3 := Hid.intro (own_later OV.out b3)
    have B3 := Hid.intro (B2.out.trans (b3.mono B2.out.size))
    clear b3 O1 O2 OV B1 B2
    obtain ⟨X, hX0⟩ : ∃ X, w3.heap.size = X := ⟨_, rfl⟩
    have b4 : Below w3.heap.size w3 (w3.alloc (.cells #[.slice a2 n1 c2, .int .i64 (E : Nat)] 28)) := (Below.refl _ _).alloc (Nat.le_refl _) _
    have bk := blk_new w3 #[.slice a2 n1 c2, .int .i64 (E : Nat)] 28
    rw [hX0] at bk
    have HX0 := Hid.intro hX0
    obtain ⟨w4, hw4⟩ : ∃ w4, w3.alloc (.cells #[.slice a2 n1 c2, .int .i64 (E : Nat)] 28) = w4 := ⟨_, rfl⟩
    rw [hw4] at b4 bk
    have O4 := Hid.intro (own_later O3.out b4)
    have OV4 := Hid.intro (own_later OV3.out b4)
    have OW4 := Hid.intro (own_later o2' b4)
    have B4 := Hid.intro (B3.out.trans (b4.mono B3.out.size))
    have cX0 : w4.drew.cell? ⟨X, 0, none⟩ = some (.slice a2 n1 c2) := by show w4.cell? _ = _; rw [blk_cell bk]; rfl
    have cX1 : w4.drew.cell? ⟨X, 1, none⟩ = some (.int .i64 (E : Int)) := by show w4.cell? _ = _; rw [blk_cell bk]; rfl
    have hX := blk_lt bk
    have SA : Hid (∀ W, Below w4.heap.size w4 W → Calls Try.prog 14 #[.slice a1 n1 c1, .slice a2 n1 c2] W fun e W' => e = .returned (.bool true) ∧ Below W.heap.size W W') := fun W hW => by
      have c := sameI_any a1 a2 n1 n1 c1 c2 (M.map Int.ofNat) (M.map Int.ofNat) W (own_ri' (own_later OV4.out hW)) (own_ri' (own_later OW4.out hW)) (by have := HN1.out; rcases HC.out with e | ⟨M', e, e2, -⟩ <;> cases e <;> simp at * <;> omega) (by have := HN1.out; rcases HC.out with e | ⟨M', e, e2, -⟩ <;> cases e <;> simp at * <;> omega)
      rw [decide_eq_true rfl] at c; exact c
    have tE : ((E : Int) != (E : Int)) = false := by simp
    clear o2' b4 O3 OV3 B3 bk
    go_wp2_with fail
    try simp only [hw4, hX0]
    clear hw4 hX0
    refine wp_region_held_drew (S := fun W => (W.cell? ⟨X, 0, none⟩ = some (.slice a2 n1 c2) ∧ W.cell? ⟨X, 1, none⟩ = some (.int .i64 (E : Int))) ∧ Below w4.heap.size w4 W) (by kernel_rfl) ⟨⟨cX0, cX1⟩, (Below.refl _ _).drew⟩ (fun hHeld => ?_)
    refine take' (i := 0) (d := (some 31)) (v := ?_) rfl rfl (by kernel_rfl) (by kernel_rfl) (by kernel_rfl) (fun _ _ _ h => h) (Or.inl ⟨by rfl, ?_⟩) (by assumption) ?_
    rotate_left
    · intro w hSw; (try dsimp only at hSw); go_simp; try with_reducible rfl
    try simp only [Act.put, List.setIfInBounds_toArray, List.set_cons_zero, List.set_cons_succ]
    refine take' (i := 1) (d := (some 32)) (v := ?_) rfl rfl (by kernel_rfl) (by kernel_rfl) (by kernel_rfl) (fun _ _ _ h => h) (Or.inl ⟨by rfl, ?_⟩) (by assumption) ?_
    rotate_left
    · intro w hSw; (try dsimp only at hSw); go_simp; try with_reducible rfl
    try simp only [Act.put, List.setIfInBounds_toArray, List.set_cons_zero, List.set_cons_succ]
    refine take' (i := 2) (d := (some 33)) (v := ?_) rfl rfl (by kernel_rfl) (by kernel_rfl) (by kernel_rfl) (fun _ _ _ h => h) (Or.inl ⟨by rfl, ?_⟩) (by assumption) ?_
    rotate_left
    · intro w hSw; (try dsimp only at hSw); go_simp; try with_reducible rfl
    try simp only [Act.put, List.setIfInBounds_toArray, List.set_cons_zero, List.set_cons_succ]
    refine wpAnyH_ready (rs := [3]) (by kernel_rfl) (by simp) ?_
    refine AllReadyH.cons (o := _) rfl (fun K hK => ?_) AllReadyH.nil
    go_simp
    with_reducible refine (SA.out _ hHeld.2).mono ?_
    rintro e w9 ⟨rfl, hb9⟩
    go_wp2_with fail
    refine hK.out _ _ (held_c hX hX hHeld hb9) (fun hHeld => ?_)
    clear hK K
    try simp only [Act.put, List.setIfInBounds_toArray, List.set_cons_zero, List.set_cons_succ]
    refine take' (i := 4) (d := (some 35)) (v := ?_) rfl rfl (by kernel_rfl) (by kernel_rfl) (by kernel_rfl) (fun _ _ _ h => h) (Or.inl ⟨by rfl, ?_⟩) (by assumption) ?_
    rotate_left
    · intro w hSw; (try dsimp only at hSw); go_simp; try with_reducible rfl
    try simp only [Act.put, List.setIfInBounds_toArray, List.set_cons_zero, List.set_cons_succ]
    refine take' (i := 5) (d := (some 36)) (v := ?_) rfl rfl (by kernel_rfl) (by kernel_rfl) (by kernel_rfl) (fun _ _ _ h => h) (Or.inl ⟨by rfl, ?_⟩) (by assumption) ?_
    rotate_left
    · intro w hSw; (try dsimp only at hSw); go_simp; try with_reducible rfl
    try simp only [Act.put, List.setIfInBounds_toArray, List.set_cons_zero, List.set_cons_succ]
    refine take' (i := 6) (d := (some 37)) (v := ?_) rfl rfl (by kernel_rfl) (by kernel_rfl) (by kernel_rfl) (fun _ _ _ h => h) (Or.inl ⟨by rfl, ?_⟩) (by assumption) ?_
    rotate_left
    · intro w hSw; (try dsimp only at hSw); go_simp; try with_reducible rfl
    try simp only [Act.put, List.setIfInBounds_toArray, List.set_cons_zero, List.set_cons_succ]
    refine take' (i := 8) (d := (some 39)) (v := ?_) rfl rfl (by kernel_rfl) (by kernel_rfl) (by kernel_rfl) (fun _ _ _ h => h) (Or.inl ⟨by rfl, ?_⟩) (by assumption) ?_
    rotate_left
    · intro w hSw; (try dsimp only at hSw); go_simp; try with_reducible rfl
    try simp only [Act.put, List.setIfInBounds_toArray, List.set_cons_zero, List.set_cons_succ]
    refine take' (i := 9) (d := (some 40)) (v := ?_) rfl rfl (by kernel_rfl) (by kernel_rfl) (by kernel_rfl) (fun _ _ _ h => h) (Or.inl ⟨by rfl, ?_⟩) (by assumption) ?_
    rotate_left
    · intro w hSw; (try dsimp only at hSw); go_simp; try with_reducible rfl
    try simp only [Act.put, List.setIfInBounds_toArray, List.set_cons_zero, List.set_cons_succ]
    refine wpAnyH_ready (rs := [7]) (by kernel_rfl) (by simp) ?_
    refine AllReadyH.cons (o := _) rfl (fun K hK => ?_) AllReadyH.nil
    go_simp
    with_reducible refine (err_i _ _).mono ?_
    rintro e w9 ⟨rfl, hb9⟩
    cases hb9
    go_wp2_with fail
    refine hK.out _ _ hHeld (fun hHeld => ?_)
    clear hK K
    try simp only [Act.put, List.setIfInBounds_toArray, List.set_cons_zero, List.set_cons_succ]
    refine take' (i := 10) (d := (some 41)) (v := ?_) rfl rfl (by kernel_rfl) (by kernel_rfl) (by kernel_rfl) (fun _ _ _ h => h) (Or.inl ⟨by rfl, ?_⟩) (by assumption) ?_
    rotate_left
    · intro w hSw; (try dsimp only at hSw); go_simp; try with_reducible rfl
    try simp only [Act.put, List.setIfInBounds_toArray, List.set_cons_zero, List.set_cons_succ]
    refine take' (i := 11) (d := (some 42)) (v := ?_) rfl rfl (by kernel_rfl) (by kernel_rfl) (by kernel_rfl) (fun _ _ _ h => h) (Or.inl ⟨by rfl, ?_⟩) (by assumption) ?_
    rotate_left
    · intro w hSw; (try dsimp only at hSw); go_simp; try with_reducible rfl
    try simp only [Act.put, List.setIfInBounds_toArray, List.set_cons_zero, List.set_cons_succ]
    refine wpAnyH_done (by kernel_rfl) ?_ _
    obtain ⟨⟨c0, c1x⟩, k9⟩ := hHeld
    have B9 := Hid.intro (B4.out.trans (k9.mono B4.out.size))
    have O9 := Hid.intro (own_later O4.out k9)
    have OV9 := Hid.intro (own_later OV4.out k9)
    clear O4 OV4 OW4 B4 cX0 cX1 SA tE k9 hX
    rcases HC.out with e | ⟨M', e, l1, l2, m1, m2, m3, m4⟩
    · cases e
      have c1 : w9.cell? ⟨X, 1, none⟩ = some (.int .i64 1) := c1x
      clear c1x c0
      go_wp2_with fail
      with_reducible refine (AW.out _).mono ?_
      rintro e w10 ⟨rfl, b10⟩
      have B10 := Hid.intro (B9.out.trans (b10.mono B9.out.size))
      clear b10
      go_wp2_with fail
      go_ret
      exact ⟨rfl, B10.out⟩
    · cases e
      have c1 : w9.cell? ⟨X, 1, none⟩ = some (.int .i64 0) := c1x
      obtain rfl : n1 = 65 := by have := HN1.out; omega
      obtain ⟨b1, cc1, hv1⟩ := own_slice OV9.out (by omega)
      cases hv1
      have hb1 := (OV9.out.lt b1 rfl).2
      have hbF := (O9.out.lt bF rfl).2
      have LM := Hid.intro l1
      have M1 := Hid.intro m1
      have M2 := Hid.intro m2
      have M3 := Hid.intro m3
      have M4 := Hid.intro m4
      have HF1 := Hid.intro f1
      have GM : Hid (∀ wr, Below w9.heap.size w9 wr → ∀ i, i < 65 → wr.cell? ⟨b1, i, none⟩ = some (.int .i64 (g M i : Nat))) := fun wr hw i hi => nis_cell (own_later OV9.out hw) i (by rw [LM.out]; exact hi)
      have GF : Hid (∀ wr, Below w9.heap.size w9 wr → ∀ i, i < 65 → wr.cell? ⟨bF, i, none⟩ = some (.int .i64 (fr F i))) := fun wr hw i hi => by
        have o := own_later O9.out hw
        have := (own_there o i (by omega)).1
        rw [this]
        simp only [ivs, List.getElem?_map]
        rw [List.getElem?_eq_getElem (by rw [HF1.out]; exact hi), fr_at F i (by rw [HF1.out]; exact hi)]
        rfl
      have FB : Hid (∀ i, i < 65 → 0 ≤ fr F i ∧ fr F i ≤ 65535) := fun i hi => by rw [fr_at F i (by rw [HF1.out]; exact hi)]; exact HF2.out _ (List.getElem_mem _)
      have GB : Hid (∀ i, i < 65 → g M i ≤ 4096) := fun i hi => M2.out _ (g_mem M i (by rw [LM.out]; exact hi))
      clear l1 l2 m1 m2 m3 m4 c1x c0 f1
      go_wp2_with fail
      clear c1
      have h140 : decide ((140 : Int) < (n : Int)) = false := by simp; omega
      simp only [h140, show ((0 : Nat) : Int) = 0 from rfl]
      clear h140
      go_loopw [10] (fun iv wr => MdRel w9 iv wr) (fun iv _ => 65 - (intOf iv).toNat)
      case atStart => exact ⟨0, by omega, rfl, Below.refl _ _⟩
      case round =>
        obtain ⟨i, hi, rfl, d1⟩ := hrel
        by_cases hlt : i < 65
        · have cl := GM.out wr d1 i hlt
          have cf := GF.out wr d1 i hlt
          have i65 : (i : Int) < 65 := by omega
          have i0 : (0 : Int) ≤ (i : Int) := by omega
          have m3 := M3.out i
          have M4i := Hid.intro (M4.out i)
          have fbi := FB.out i hlt
          have gbi := GB.out i hlt
          generalize hmi : g M i = mi at *
          generalize hfi : fr F i = fi at *
          have HMI := Hid.intro hmi
          have HFI := Hid.intro hfi
          have D1 := Hid.intro d1
          obtain ⟨m1, mS⟩ : ∃ m1 : Nat, (mi : Int) + 1 = (m1 : Int) := ⟨mi + 1, by omega⟩
          have mW : IntKind.i64.wrap (m1 : Int) = (m1 : Int) := by rw [IntKind.wrap_i64]; omega
          have HM1 : Hid (mi + 1 = m1) := by show _ = _; omega
          have BQ : Hid (∀ k, Below w9.heap.size w9 (wr.drewN k)) := fun k => below_drewN d1 k
          clear d1 hmi hfi
          rcases (by omega : (0 < mi ∧ 0 < fi) ∨ (mi = 0 ∧ fi = 0)) with ⟨p1, p2⟩ | ⟨p1, p2⟩
          · have q1 : decide ((mi : Int) > 0) = true := by simpa using p1
            have q2 : decide (fi > 0) = true := by simpa using p2
            clear m3
            go_wp2_with fail
            go_quiet (fail)
            go_wp2_with fail
            clear cl cf q1 q2 p1 p2
            go_loopw [11] (fun jv wr => MdRel w9 jv wr) (fun jv _ => 65 - (intOf jv).toNat)
            case atStart => exact ⟨0, by omega, rfl, BQ.out _⟩
            case round =>
              obtain ⟨j, hj, rfl, dj⟩ := hrel
              by_cases hjl : j < 65
              · have cl := GM.out wr dj i hlt
                have cf := GF.out wr dj i hlt
                have cl2 := GM.out wr dj j hjl
                have cf2 := GF.out wr dj j hjl
                rw [HMI.out] at cl
                rw [HFI.out] at cf
                have j65 : (j : Int) < 65 := by omega
                have j0 : (0 : Int) ≤ (j : Int) := by omega
                have m4 := M4i.out j
                have fbj := FB.out j hjl
                have gbj := GB.out j hjl
                generalize g M j = mj at *
                generalize fr F j = fj at *
                have DJ := Hid.intro dj
                clear dj
                by_cases hf : fj < fi
                · have m5 := m4 hf
                  have q3 : decide (fi > fj) = true := by simpa using hf
                  have q4 : decide ((m1 : Int) < (mj : Int)) = false := by simp; have := HM1.out; omega
                  have h5 : (mj : Int) ≤ (m1 : Int) := by have := HM1.out; omega
                  clear m4 m5
                  go_wp2_with fail
                  go_quiet (fail)
                  go_wp2_with fail
                  go_roundw
                  case rel => exact ⟨j + 1, by omega, by go_num, below_drewN DJ.out _⟩
                  case measure => simp [intOf]; omega
                · have q3 : decide (fi > fj) = false := by simp; omega
                  clear m4 hf
                  go_wp2_with fail
                  go_quiet (fail)
                  go_wp2_with fail
                  go_roundw
                  case rel => exact ⟨j + 1, by omega, by go_num, below_drewN DJ.out _⟩
                  case measure => simp [intOf]; omega
              · go_wp2_with fail
                go_roundw
                case rel => exact ⟨i + 1, by omega, by go_num, dj⟩
                case measure => simp [intOf]; omega
          · clear m3
            have q1 : decide ((mi : Int) > 0) = false := by simp; omega
            have q2 : decide (fi > 0) = false := by simp; omega
            go_wp2_with fail
            go_quiet (fail)
            go_wp2_with fail
            clear cl cf q1 q2 p1 p2
            go_loopw [11] (fun jv wr => MdRel w9 jv wr) (fun jv _ => 65 - (intOf jv).toNat)
            case atStart => exact ⟨0, by omega, rfl, BQ.out _⟩
            case round =>
              obtain ⟨j, hj, rfl, dj⟩ := hrel
              by_cases hjl : j < 65
              · have cl := GM.out wr dj i hlt
                have cf := GF.out wr dj i hlt
                have cl2 := GM.out wr dj j hjl
                have cf2 := GF.out wr dj j hjl
                rw [HMI.out] at cl
                rw [HFI.out] at cf
                have j65 : (j : Int) < 65 := by omega
                have j0 : (0 : Int) ≤ (j : Int) := by omega
                have m4 := M4i.out j
                have fbj := FB.out j hjl
                have gbj := GB.out j hjl
                generalize g M j = mj at *
                generalize fr F j = fj at *
                have DJ := Hid.intro dj
                clear dj
                by_cases hf : fj < fi
                · have m5 := m4 hf
                  have q3 : decide (fi > fj) = true := by simpa using hf
                  have q4 : decide ((m1 : Int) < (mj : Int)) = false := by simp; have := HM1.out; omega
                  have h5 : (mj : Int) ≤ (m1 : Int) := by have := HM1.out; omega
                  clear m4 m5
                  go_wp2_with fail
                  go_quiet (fail)
                  go_wp2_with fail
                  go_roundw
                  case rel => exact ⟨j + 1, by omega, by go_num, below_drewN DJ.out _⟩
                  case measure => simp [intOf]; omega
                · have q3 : decide (fi > fj) = false := by simp; omega
                  clear m4 hf
                  go_wp2_with fail
                  go_quiet (fail)
                  go_wp2_with fail
                  go_roundw
                  case rel => exact ⟨j + 1, by omega, by go_num, below_drewN DJ.out _⟩
                  case measure => simp [intOf]; omega
              · go_wp2_with fail
                go_roundw
                case rel => exact ⟨i + 1, by omega, by go_num, dj⟩
                case measure => simp [intOf]; omega
        · obtain rfl : i = 65 := by omega
          have MY := may_any (some ⟨b1, 0, none⟩) 65 c1 (M.map Int.ofNat) K wr (own_ri' (own_later OV9.out d1)) (by omega)
          rw [M1.out] at MY
          have D1 := Hid.intro (B9.out.trans (d1.mono B9.out.size))
          clear d1
          go_wp2_with fail
          with_reducible refine MY.mono ?_
          rintro e w10 ⟨rfl, b10⟩
          clear MY
          have D2 := Hid.intro (D1.out.trans (b10.mono D1.out.size))
          clear b10
          go_wp2_with fail
          with_reducible refine (AW.out _).mono ?_
          rintro e w11 ⟨rfl, b11⟩
          have D3 := Hid.intro (D2.out.trans (b11.mono D2.out.size))
          clear b11
          go_wp2_with fail
          go_ret
          exact ⟨rfl, D3.out⟩
end Go.Proofs.Ytplalkhjjndffaa
