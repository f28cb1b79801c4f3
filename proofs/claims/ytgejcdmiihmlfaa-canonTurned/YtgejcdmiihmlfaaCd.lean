/-
  Codes: of whatever lengths, or the error.
-/
import Derived.Test.YtgejcdmiihmlfaaCb
import Derived.BigRegion
import Derived.Deep.RegionHeld3
namespace Go.Proofs.Ytgejcdmiihmlfaa
open Go.ChangeShapes Go.WideShapes Go.ChangeAt Go.RowKit
open Go.ChangeMaps (open_string shut_string)

theorem nonneg_fi {f : List Int} (hb : ∀ z ∈ f, 0 ≤ z ∧ z ≤ 15) : FI f := fun z hz => by have := hb z hz; omega
theorem pop_sorted {f : List Int} (hb : ∀ z ∈ f, 0 ≤ z ∧ z ≤ 15) {all out l : List Nat} (h : PopInv (ltl f) all out l) : out.Pairwise (fun a b => at0 (nat f) a ≤ at0 (nat f) b) := by
  refine h.2.1.imp ?_
  intro a b hab
  unfold ltl at hab
  rw [nat_at f hb, nat_at f hb] at hab
  omega
theorem pop_ahead {f : List Int} (hb : ∀ z ∈ f, 0 ≤ z ∧ z ≤ 15) {all out l : List Nat} (h : PopInv (ltl f) all out l) (c : Nat) (hc : c ∈ l) : ∀ a ∈ out, at0 (nat f) a ≤ at0 (nat f) c := by
  intro a ha
  have := h.2.2.1 a ha c hc
  unfold ltl at this
  rw [nat_at f hb, nat_at f hb] at this
  omega
theorem pop_mem {f : List Int} {n : Nat} {out l : List Nat} (h : PopInv (ltl f) (places f n) out l) (c : Nat) (hc : c ∈ l) : c < n := by
  have : c ∈ places f n := h.1.mem_iff.1 (List.mem_append.2 (.inr hc))
  exact ((places_mem f n c).1 this).1
theorem pop_len {f : List Int} {out l : List Nat} (h : PopInv (ltl f) (places f 65) out l) : out.length + l.length ≤ 65 := by
  have h1 := h.1.length_eq
  have h2 := places_le f 65
  rw [List.length_append] at h1
  omega
def qlen (Q : Nat) (wr : World) : Nat :=
  match wr.cell? ⟨Q, 0, none⟩ with
  | some (.slice _ n _) => n
  | _ => 0
theorem qlen_of {Q : Nat} {wr : World} {a : Option Addr} {n cap : Nat} (h : wr.cell? ⟨Q, 0, none⟩ = some (.slice a n cap)) : qlen Q wr = n := by unfold qlen; rw [h]
def CoRel (f : List Int) (R F Q : Nat) (w wr : World) : Prop :=
  ∃ (v : Value) (out l : List Nat), Qu wr Q v f l ∧ PopInv (ltl f) (places f 65) out l ∧
    Blk wr F #[.int .i64 ((foldC (nat f) out).1 : Nat), .int .i64 ((foldC (nat f) out).2.1 : Nat)] 40 ∧
    wr.ownsRow 0 40 2 (.slice (some ⟨R, 0, none⟩) 65 65) 65 (cvs (foldC (nat f) out).2.2) ∧ From (F + 1) v ∧ Below w.heap.size w wr
theorem foot_far {R F Q : Nat} {v : Value} (h1 : R < F) (h2 : F < Q) (hv : From (F + 1) v) : (¬ foot Q v R) ∧ (¬ foot Q v F) := by
  constructor
  · rintro (e | e)
    · omega
    · have := hv R e; omega
  · rintro (e | e)
    · omega
    · have := hv F e; omega
set_option maxRecDepth 100000 in
set_option maxHeartbeats 1000000 in
theorem codes_no (a : Option Addr) (n cap : Nat) (f : List Int) (w : World) (h : RI w a n f) (hn : n ≤ 100000) (hm : mayL f = false) :
    Calls Try.prog 9 #[.slice a n cap] w fun e w' => e = .returned (.tuple #[.slice none 0 0, .int .i64 3]) ∧ w' = w := by
  have MA := may_any a n cap f w h hn
  rw [hm] at MA
  clear h hm
  go_enter Try.func9, Try.ntmps9
  go_wp2_with fail
  with_reducible refine MA.mono ?_
  rintro e w1 ⟨rfl, rfl⟩
  clear MA
  go_wp2_with fail
  go_ret2
  exact ⟨rfl, rfl⟩
set_option maxRecDepth 100000 in
set_option maxHeartbeats 2000000 in
theorem codes_yes (a : Option Addr) (n cap : Nat) (f : List Int) (w : World) (h : RI w a n f) (hm : mayL f = true) :
    Calls Try.prog 9 #[.slice a n cap] w fun e w' => ∃ v, e = .returned (.tuple #[v, .int .i64 0]) ∧ w'.ownsRow w.heap.size 40 2 v 65 (cvs (codesOf (nat f))) ∧ Below w.heap.size w w' := by
  obtain ⟨m1, m2, m3⟩ := mayL_yes hm
  have hn : n = 65 := by rw [← h.1]; exact m1
  subst hn
  have MA := may_any a 65 cap f w h (by omega)
  rw [hm] at MA
  have mk := make_codes w
  have om := own_made_codes w
  obtain ⟨w1, hw1⟩ : ∃ w1, w.alloc (.cells (madeCells #[.int .i64 0, .int .i64 0] 130) 40) = w1 := ⟨_, rfl⟩
  have sz1 : w1.heap.size = w.heap.size + 1 := by rw [← hw1]; simp
  have b1 : Below w.heap.size w w1 := by rw [← hw1]; exact (Below.refl _ _).alloc (Nat.le_refl _) _
  rw [hw1] at mk om
  have bn := blk_new w1 #[.int .i64 0, .int .i64 0] 40
  have om2 := World.ownsRow.alloc om (.cells #[.int .i64 0, .int .i64 0] 40)
  have b2 : Below w.heap.size w (w1.alloc (.cells #[.int .i64 0, .int .i64 0] 40)) := b1.alloc b1.size _
  have sz2 : (w1.alloc (.cells #[.int .i64 0, .int .i64 0] 40)).heap.size = w.heap.size + 2 := by simp [sz1]
  have QO := queueOf_any a 65 cap f _ (ri_below h b2) (nonneg_fi m2) (by omega)
  rw [sz2] at QO
  rw [sz1] at bn
  have M2 := Hid.intro m2
  have M1 := Hid.intro m1
  clear h hm m1 m2 m3 hw1 b1 om
  go_enter Try.func9, Try.ntmps9
  go_wp2_with fail
  with_reducible refine MA.mono ?_
  rintro e w2 ⟨rfl, rfl⟩
  clear MA
  go_wp2_with fail
  with_reducible refine QO.mono ?_
  rintro e w3 ⟨rfl, v, l, k1, k2, k3, k4, k5⟩
  obtain ⟨R, hR⟩ : ∃ R, w2.heap.size = R := ⟨_, rfl⟩
  obtain ⟨F, hF⟩ : ∃ F, R + 1 = F := ⟨_, rfl⟩
  obtain ⟨Q, hQ⟩ : ∃ Q, R + 2 + 1 = Q := ⟨_, rfl⟩
  simp only [hR] at bn om2 b2 k1 k4 k5 sz1 sz2 ⊢
  simp only [hF] at bn ⊢
  simp only [hQ] at k1 ⊢
  have hRF : R < F := by omega
  have hFQ : F < Q := by omega
  have ST : Hid (CoRel f R F Q w2 w3) := by
    refine ⟨v, [], l, k1, ⟨by simpa using k2, List.Pairwise.nil, fun a ha => by simp at ha, k3⟩, blk_below bn k5 (by omega), own_below (own_low om2 (Nat.zero_le _)) k5 (fun k hk => by simp [Value.ownBlock] at hk; omega), fun k hk => by have := k4 k hk; omega, ?_⟩
    rw [hR]
    exact b2.trans (k5.mono (by omega))
  have HR := Hid.intro hR
  have HF := Hid.intro hF
  clear QO k1 k2 k3 k4 k5 bn om2 b2 sz1 sz2 mk hQ hF hR
  go_wp2_with fail
  go_loopw [7] (fun _ wr => CoRel f R F Q w2 wr) (fun _ wr => qlen Q wr)
  case atStart => exact ST.out
  case round =>
    clear ST
    obtain ⟨v, out, l, d1, d2, d3, d4, d5, d6⟩ := hrel
    obtain ⟨c0, f0⟩ := qu_cell d1
    obtain ⟨av, capv, rfl, hcv, hav⟩ := qu_val d1
    have hpl := pop_len d2
    have LN := len_q av l.length capv wr
    have QL := Hid.intro (qlen_of c0)
    by_cases hz : l.length = 0
    · obtain rfl : l = [] := List.eq_nil_of_length_eq_zero hz
      simp only [List.length_nil] at LN c0
      have OB := Hid.intro (out_one M2.out d2)
      have OW := Hid.intro (own_up (B := w2.heap.size) d4 (fun k hk => by simp [Value.ownBlock] at hk; have := HR.out; omega))
      have B9 := Hid.intro d6
      clear d1 d2 d3 d4 d5 d6 hpl
      go_wp2_with fail
      with_reducible refine LN.mono ?_
      rintro e w5 ⟨rfl, rfl⟩
      clear LN
      go_wp2_with fail
      go_ret2
      exact ⟨_, rfl, by rw [show codesOf (nat f) = (foldC (nat f) out).2.2 by rw [OB.out]; rfl]; exact OW.out, B9.out⟩
    · obtain ⟨m, hm⟩ : ∃ m, l.length = m + 1 := ⟨l.length - 1, by omega⟩
      obtain ⟨bb, rfl⟩ := hav (by omega)
      rw [hm] at d1 c0 LN hcv d5 hpl QL
      have NX := next_any Q bb capv m f _ out l wr d1 hm (by omega) d2
      have hA := blk_lt d1.1
      have hmem := g_mem l 0 (by omega)
      have hs := pop_sorted M2.out d2
      have ha := pop_ahead M2.out d2 (g l 0) hmem
      have h65 := pop_mem d2 (g l 0) hmem
      have nb := next_bd (nat f) out (g l 0) hs ha (nat_bd f M2.out)
      have fl := foldC_le (nat f) out _ ha
      have fb := foldC_bd (nat f) out hs (nat_bd f M2.out)
      have n15 := nat_bd f M2.out (g l 0)
      have fz := foldC_snoc (nat f) out (g l 0)
      rw [nat_at f M2.out (g l 0)] at NX
      obtain ⟨ff, fq⟩ := foot_far hRF hFQ d5
      generalize g l 0 = p at *
      unfold stepC at fz
      obtain ⟨b, hb⟩ : ∃ b, (foldC (nat f) out).1 = b := ⟨_, rfl⟩
      obtain ⟨ln, hln⟩ : ∃ ln, (foldC (nat f) out).2.1 = ln := ⟨_, rfl⟩
      obtain ⟨cl, hcl⟩ : ∃ cl, (foldC (nat f) out).2.2 = cl := ⟨_, rfl⟩
      rw [hb, hln, hcl] at fz
      rw [hb, hln] at nb d3
      rw [hln] at fl
      rw [hb] at fb
      rw [hcl] at d4
      obtain ⟨nn, hnn⟩ : ∃ nn, at0 (nat f) p = nn := ⟨_, rfl⟩
      rw [hnn] at NX nb fl n15 fz
      obtain ⟨k, hk⟩ : ∃ k, nn - ln = k := ⟨_, rfl⟩
      obtain ⟨x, hx⟩ : ∃ x, b * 2 ^ k = x := ⟨_, rfl⟩
      rw [hk, hx] at nb fz
      have hki : (nn : Int) - (ln : Int) = (k : Int) := by omega
      have hxi : (b : Int) * 2 ^ k = (x : Int) := by rw [← hx]; simp
      have hk16 : k < 16 := by omega
      have FZ := Hid.intro fz
      clear hm hz hav hmem hs ha hb hln hcl hnn hk hx fz
      go_wp2_with fail
      with_reducible refine LN.mono ?_
      rintro e w3 ⟨rfl, rfl⟩
      clear LN
      go_wp2_with fail
      with_reducible refine NX.mono ?_
      rintro e w4 ⟨rfl, l3, j1, j2, j3, j4⟩
      have o4 := own_kept d4 j4 (fun k hk => by simp [Value.ownBlock] at hk; subst hk; exact ff)
      have f4 := blk_kept d3 j4 fq
      clear NX c0 f0 d1 d2 d3 d4
      obtain ⟨E, hE⟩ : ∃ E, w4.heap.size = E := ⟨_, rfl⟩
      have hQE : Q < E := by rw [← hE]; exact blk_lt j1.1
      have e5 := blk_new w4 #[.int .i64 (p : Int), .int .i64 (nn : Int)] 50
      have f5 := blk_alloc f4 (.cells #[.int .i64 (p : Int), .int .i64 (nn : Int)] 50)
      have o5 := World.ownsRow.alloc o4 (.cells #[.int .i64 (p : Int), .int .i64 (nn : Int)] 50)
      have q5 := qu_no j1 (chg_alloc (chg_refl _ _) (.cells #[.int .i64 (p : Int), .int .i64 (nn : Int)] 50))
      have j5 : Chg (foot Q (.slice (some ⟨bb, 0, none⟩) (m + 1) capv)) w3 (w4.alloc (.cells #[.int .i64 (p : Int), .int .i64 (nn : Int)] 50)) := chg_alloc j4 _
      rw [hE] at e5
      clear o4 f4 j1 j4
      go_wp2_with fail
      generalize w4.alloc (.cells #[.int .i64 (p : Int), .int .i64 (nn : Int)] 50) = w5 at *
      clear hE
      have a0 : w5.cell? ⟨F, 0, none⟩ = some (.int .i64 (b : Int)) := by rw [blk_cell f5]; rfl
      have a1 : w5.cell? ⟨F, 1, none⟩ = some (.int .i64 (ln : Int)) := by rw [blk_cell f5]; rfl
      have a2 := blk_free f5 0
      have a3 := blk_free f5 1
      have a4 : w5.cell? ⟨E, 0, none⟩ = some (.int .i64 (p : Int)) := by rw [blk_cell e5]; rfl
      have a5 : w5.cell? ⟨E, 1, none⟩ = some (.int .i64 (nn : Int)) := by rw [blk_cell e5]; rfl
      have wk : IntKind.i64.wrap (k : Int) = (k : Int) := by rw [IntKind.wrap_i64]; omega
      have wx : IntKind.i64.wrap (x : Int) = (x : Int) := by rw [IntKind.wrap_i64]; omega
      have k0 : (0 : Int) ≤ (k : Int) := by omega
      go_region
      all_goals
        have c6 : Chg (· = F) w5 ((w5.setCell ⟨F, 0, none⟩ (.int .i64 (x : Int))).setCell ⟨F, 1, none⟩ (.int .i64 (nn : Int))).drew := chg_drew (chg_in (chg_in (chg_refl _ _) _ _) _ _)
        have f6 : Blk ((w5.setCell ⟨F, 0, none⟩ (.int .i64 (x : Int))).setCell ⟨F, 1, none⟩ (.int .i64 (nn : Int))).drew F #[.int .i64 (x : Int), .int .i64 (nn : Int)] 40 := blk_drew (blk_set (blk_set f5 0 _) 1 _)
        generalize ((w5.setCell ⟨F, 0, none⟩ (.int .i64 (x : Int))).setCell ⟨F, 1, none⟩ (.int .i64 (nn : Int))).drew = w6 at *
        have e6 := blk_kept e5 c6 (by omega)
        have o6 := own_kept o5 c6 (fun k hk => by simp [Value.ownBlock] at hk; omega)
        have q6 := qu_kept q5 c6 (fun k hk e => fq (by rw [← e]; exact hk))
        have j6 : Chg (fun k => foot Q (.slice (some ⟨bb, 0, none⟩) (m + 1) capv) k ∨ k = F) w3 w6 := chg_trans (chg_mono j5 (fun _ _ h => .inl h)) c6 (fun _ _ h => .inr h)
        clear a0 a1 a2 a3 a4 a5 e5 f5 o5 q5 j5 c6 hki hxi wk wx k0
        have a0 : w6.cell? ⟨F, 0, none⟩ = some (.int .i64 (x : Int)) := by rw [blk_cell f6]; rfl
        have a1 : w6.cell? ⟨F, 1, none⟩ = some (.int .i64 (nn : Int)) := by rw [blk_cell f6]; rfl
        have a2 := blk_free f6 0
        have a3 := blk_free f6 1
        have a4 : w6.cell? ⟨E, 0, none⟩ = some (.int .i64 (p : Int)) := by rw [blk_cell e6]; rfl
        obtain ⟨g1, g2, g3, g4⟩ := cv_cells o6 p h65
        go_wp2_with fail
        have c7 : Chg (· = R) w6 ((w6.setCell ⟨R, p * 2, none⟩ (.int .i64 (x : Int))).setCell ⟨R, p * 2 + 1, none⟩ (.int .i64 (nn : Int))) := chg_in (chg_in (chg_refl _ _) _ _) _ _
        have o7 := own_set (own_set o6 (p * 2) (.int .i64 (x : Int))) (p * 2 + 1) (.int .i64 (nn : Int))
        rw [cvs_set] at o7
        generalize (w6.setCell ⟨R, p * 2, none⟩ (.int .i64 (x : Int))).setCell ⟨R, p * 2 + 1, none⟩ (.int .i64 (nn : Int)) = w7 at *
        have f7 := blk_set (blk_kept f6 c7 (by omega)) 0 (.int .i64 ((x : Int) + 1))
        have c8 : Chg (· = F) w7 (w7.setCell ⟨F, 0, none⟩ (.int .i64 ((x : Int) + 1))) := chg_in (chg_refl _ _) _ _
        generalize w7.setCell ⟨F, 0, none⟩ (.int .i64 ((x : Int) + 1)) = w8 at *
        have q8 := qu_kept (qu_kept q6 c7 (fun k hk e => ff (by rw [← e]; exact hk))) c8 (fun k hk e => fq (by rw [← e]; exact hk))
        have o8 := own_kept o7 c8 (fun k hk => by simp [Value.ownBlock] at hk; omega)
        have j8 : Chg (fun k => foot Q (.slice (some ⟨bb, 0, none⟩) (m + 1) capv) k ∨ k = F ∨ k = R) w3 w8 := chg_trans (chg_trans (chg_mono j6 (fun _ _ h => h.elim .inl (fun e => .inr (.inl e)))) c7 (fun _ _ h => .inr (.inr h))) c8 (fun _ _ h => .inr (.inl h))
        obtain ⟨y1, _⟩ := qu_cell q8
        refine ⟨⟨_, out ++ [p], l3, q8, j3, ?_, ?_, d5, ?_⟩, ?_⟩
        · rw [FZ.out]; simpa using f7
        · rw [FZ.out]; exact o8
        · refine d6.trans (chg_below j8 d6.size (fun k hk => ?_))
          have := HR.out
          rcases hk with hk | hk | hk
          · rcases hk with e | e
            · omega
            · have := d5 k e; omega
          · omega
          · omega
        · rw [QL.out, qlen_of y1]; omega
end Go.Proofs.Ytgejcdmiihmlfaa
