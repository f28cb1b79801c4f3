/-
  The reference's Canon: codes of whatever lengths, or the error.
-/
import Derived.Test.YtlkebkchbgpnpaaCd
import Derived.Test.YtlkebkchbgpnpaaAl
import Derived.Test.YtlkebkchbgpnpaaPush
import Derived.BigRegion
import Derived.Deep.RegionHeld3
namespace Go.Proofs.Ytlkebkchbgpnpaa
open Go.ChangeShapes Go.WideShapes Go.ChangeAt Go.RowKit
open Go.ChangeMaps (open_string shut_string)

/-! ### the order, class by class -/
def pre2 (L : List Nat) (n i : Nat) : List Nat := byLen L n ++ row L (n + 1) i
theorem pre2_zero (L : List Nat) (n : Nat) : pre2 L n 0 = byLen L n := by unfold pre2 row; simp
theorem pre2_all (L : List Nat) (n : Nat) : pre2 L n 65 = byLen L (n + 1) := rfl
theorem pre2_succ (L : List Nat) (n i : Nat) : pre2 L n (i + 1) = if at0 L i = n + 1 then pre2 L n i ++ [i] else pre2 L n i := by
  unfold pre2
  rw [row_succ]
  split
  · rw [List.append_assoc]
  · rfl
theorem pre2_sorted (L : List Nat) (n i : Nat) (_hi : i ≤ 65) : (pre2 L n i).Pairwise (lt2 L) := by
  unfold pre2
  rw [List.pairwise_append]
  refine ⟨byLen_sorted L n, row_sorted L (n + 1) i, fun a ha b hb => ?_⟩
  have h1 := (byLen_mem L n a).1 ha
  have h2 := (row_mem L (n + 1) i b).1 hb
  exact .inl (by omega)
theorem pre2_mem (L : List Nat) (n i c : Nat) (h : c ∈ pre2 L n i) : 1 ≤ at0 L c ∧ at0 L c ≤ n + 1 := by
  unfold pre2 at h
  rcases List.mem_append.1 h with h | h
  · have := (byLen_mem L n c).1 h; omega
  · have := (row_mem L (n + 1) i c).1 h; omega
theorem row_len (L : List Nat) (n m : Nat) : (row L n m).length ≤ m := by
  have := List.length_filter_le (fun c => decide (at0 L c = n)) (List.range m)
  simpa [row] using this
theorem byLen_le (L : List Nat) : ∀ n, (byLen L n).length ≤ n * 65
  | 0 => by simp [byLen]
  | n + 1 => by
    have h1 := byLen_le L n
    have h2 := row_len L (n + 1) 65
    rw [byLen, List.length_append]; omega
theorem pre2_len (L : List Nat) (n i : Nat) (hi : i ≤ 65) (hn : n ≤ 15) : (pre2 L n i).length ≤ 1040 := by
  have h1 := byLen_le L n
  have h2 := row_len L (n + 1) i
  unfold pre2
  rw [List.length_append]; omega
theorem fold_pos (L : List Nat) : ∀ (p : List Nat) (s : Nat × Nat × List (Nat × Nat)), (∀ c ∈ p, 1 ≤ at0 L c) → p ≠ [] → 1 ≤ (p.foldl (stepC L) s).1 ∧ 1 ≤ (p.foldl (stepC L) s).2.1
  | [], _, _, h => absurd rfl h
  | [c], s, h, _ => ⟨Nat.le_add_left _ _, h c List.mem_cons_self⟩
  | c :: d :: p, s, h, _ => by
    rw [List.foldl_cons]
    exact fold_pos L (d :: p) _ (fun x hx => h x (List.mem_cons_of_mem _ hx)) (by simp)
/-- Nothing yet, or a length above nought and bits that were counted on. -/
theorem foldC_form (L p : List Nat) (h : ∀ c ∈ p, 1 ≤ at0 L c) : ((foldC L p).1 = 0 ∧ (foldC L p).2.1 = 0) ∨ (1 ≤ (foldC L p).1 ∧ 1 ≤ (foldC L p).2.1) := by
  by_cases e : p = []
  · subst e; exact .inl ⟨rfl, rfl⟩
  · exact .inr (fold_pos L p _ h e)
def KSt (L p : List Nat) (R : Nat) (w : World) (nv lv : Value) (wr : World) : Prop :=
  nv = .int .i64 ((foldC L p).1 - 1 : Nat) ∧ lv = .int .i64 ((foldC L p).2.1 : Nat) ∧ wr.ownsRow 0 68 2 (.slice (some ⟨R, 0, none⟩) 65 65) 65 (cvs (foldC L p).2.2) ∧ Blk wr w.heap.size #[.slice none 0 0, .int .i64 0] 74 ∧ Below w.heap.size w wr
def KoRel (L : List Nat) (R : Nat) (w : World) (nv lv cv : Value) (wr : World) : Prop := ∃ n : Nat, n ≤ 15 ∧ cv = .int .i64 ((n + 1 : Nat) : Int) ∧ KSt L (byLen L n) R w nv lv wr
def KiRel (L : List Nat) (n R : Nat) (w : World) (nv lv iv : Value) (wr : World) : Prop := ∃ i : Nat, i ≤ 65 ∧ iv = .int .i64 i ∧ KSt L (pre2 L n i) R w nv lv wr
set_option maxRecDepth 100000 in
set_option maxHeartbeats 1000000 in
theorem rcanon_no (a : Option Addr) (n cap : Nat) (f : List Int) (w : World) (h : RI w a n f) (hn : n ≤ 100000) (hm : mayL f = false) :
    Calls Try.prog 29 #[.slice a n cap] w fun e w' => e = .returned (.agg #[.slice none 0 0, .int .i64 3]) ∧ Below w.heap.size w w' := by
  have b1 : Below w.heap.size w (w.alloc (.cells #[.slice none 0 0, .int .i64 0] 74)) := (Below.refl _ _).alloc (Nat.le_refl _) _
  have ML := mayl_any a n cap f _ (ri_below h b1) hn
  rw [hm] at ML
  have HB : Hid (Below w.heap.size w (w.alloc (.cells #[.slice none 0 0, .int .i64 3] 74))) := (Below.refl _ _).alloc (Nat.le_refl _) _
  clear h hm b1
  go_enter Try.func29, Try.ntmps29
  go_wp2_with fail
  with_reducible refine ML.mono ?_
  rintro e w1 ⟨rfl, hw⟩
  rw [hw]
  clear ML hw
  go_wp2_with fail
  go_returns
  exact ⟨rfl, HB.out⟩
set_option maxRecDepth 100000 in
set_option maxHeartbeats 2000000 in
theorem rcanon_yes (a : Option Addr) (n cap : Nat) (f : List Int) (w : World) (h : RI w a n f) (hm : mayL f = true) :
    Calls Try.prog 29 #[.slice a n cap] w fun e w' => ∃ v, e = .returned (.agg #[v, .int .i64 0]) ∧ w'.ownsRow w.heap.size 68 2 v 65 (cvs (codesOf (nat f))) ∧ Below w.heap.size w w' := by
  obtain ⟨m1, m2, m3⟩ := mayL_yes hm
  clear m3
  have hn : n = 65 := by rw [← h.1]; exact m1
  subst hn
  have b1 : Below w.heap.size w (w.alloc (.cells #[.slice none 0 0, .int .i64 0] 74)) := (Below.refl _ _).alloc (Nat.le_refl _) _
  have ML := mayl_any a 65 cap f _ (ri_below h b1) (by omega)
  rw [hm] at ML
  have bk := blk_new w #[.slice none 0 0, .int .i64 0] 74
  have sz1 : (w.alloc (.cells #[.slice none 0 0, .int .i64 0] 74)).heap.size = w.heap.size + 1 := by simp
  have mk := make_codes (w.alloc (.cells #[.slice none 0 0, .int .i64 0] 74))
  have om := own_made_codes (w.alloc (.cells #[.slice none 0 0, .int .i64 0] 74))
  rw [sz1] at mk om
  obtain ⟨w1, hw1⟩ : ∃ w1, w.alloc (.cells #[.slice none 0 0, .int .i64 0] 74) = w1 := ⟨_, rfl⟩
  rw [hw1] at b1 ML bk mk om sz1
  obtain ⟨w2, hw2⟩ : ∃ w2, w1.alloc (.cells (madeCells #[.int .i64 0, .int .i64 0] 130) 68) = w2 := ⟨_, rfl⟩
  rw [hw2] at mk om
  have b2 : Below w.heap.size w w2 := by rw [← hw2]; exact b1.alloc b1.size _
  have bk2 : Blk w2 w.heap.size #[.slice none 0 0, .int .i64 0] 74 := by rw [← hw2]; exact blk_alloc bk _
  obtain ⟨R, hR⟩ : ∃ R, w.heap.size + 1 = R := ⟨_, rfl⟩
  rw [hR] at mk om
  have ST : Hid (KoRel (nat f) R w (.int .i64 0) (.int .i64 0) (.int .i64 1) w2) := ⟨0, by omega, rfl, rfl, rfl, own_low om (Nat.zero_le _), bk2, b2⟩
  have HX := Hid.intro h
  have HA := Hid.intro (nat_at f m2)
  have HB := Hid.intro (nat_bd f m2)
  obtain ⟨L, hL⟩ : ∃ L, nat f = L := ⟨_, rfl⟩
  rw [hL] at HA HB ST ⊢
  have HR := Hid.intro hR
  obtain ⟨cod, hcod⟩ : ∃ cod, cvs (codesOf L) = cod := ⟨_, rfl⟩
  rw [hcod]
  have HC : Unit → cvs (codesOf L) = cod := fun _ => hcod
  clear h hm b1 bk om b2 bk2 m1 m2 hL hw2 hcod
  go_enter Try.func29, Try.ntmps29
  go_wp2_with fail
  with_reducible refine ML.mono ?_
  rintro e w3 ⟨rfl, hw⟩
  rw [hw]
  clear ML hw
  go_wp2_with fail
  clear mk hw1 sz1 hR
  go_loopw [4, 5, 6] (fun nv lv cv wr => KoRel L R w nv lv cv wr) (fun _ _ cv _ => 17 - (intOf cv).toNat)
  case atStart => exact ST.out
  case round =>
    clear ST
    obtain ⟨n, hn, rfl, hst⟩ := hrel
    by_cases hlt : n < 15
    · have ST2 : Hid (KiRel L n R w u4 u5 (.int .i64 0) wr) := ⟨0, by omega, rfl, by rw [pre2_zero]; exact hst⟩
      clear hst
      obtain ⟨n1, hn1⟩ : ∃ n1 : Nat, n + 1 = n1 := ⟨_, rfl⟩
      simp only [hn1]
      have hn15 : n1 ≤ 15 := by omega
      have HN1 := Hid.intro hn1
      clear hn1 hlt hn

      go_wp2_with fail

      go_loopw [4, 5, 7] (fun nv lv iv wr => KiRel L n R w nv lv iv wr) (fun _ _ iv _ => 65 - (intOf iv).toNat)
      case atStart => exact ST2.out
      case round =>
        clear ST2
        obtain ⟨i, hi, rfl, rfl, rfl, d3, d4, d5⟩ := hrel
        by_cases hlt2 : i < 65
        · obtain ⟨x, rfl, cx0⟩ := ri_at HX.out i hlt2
          have cx : wr.cell? (x.add i) = some (.int .i64 (fr f i)) := by rw [d5.cell (World.block_lt_of_cell? _ _ cx0)]; exact cx0
          rw [HA.out i] at cx
          have hfo := foldC_form L (pre2 L n i) (fun c hc => (pre2_mem L n i c hc).1)
          have hs := sorted_le (pre2_sorted L n i hi)
          have hpl := pre2_len L n i hi (by have := HN1.out; omega)
          have ps := pre2_succ L n i
          by_cases he : at0 L i = n1
          · have ha : ∀ c ∈ pre2 L n i, at0 L c ≤ at0 L i := fun c hc => by rw [he, ← HN1.out]; exact (pre2_mem L n i c hc).2
            have nb := next_bd L _ i hs ha HB.out
            have fl := foldC_le L _ _ ha
            have fb := foldC_bd L _ hs HB.out
            have fz := foldC_snoc L (pre2 L n i) i
            rw [if_pos (by rw [he, HN1.out])] at ps
            rw [← ps] at fz
            unfold stepC at fz
            rw [he] at nb fl cx fz
            clear ha he
            obtain ⟨b, hb⟩ : ∃ b, (foldC L (pre2 L n i)).1 = b := ⟨_, rfl⟩
            obtain ⟨ln, hln⟩ : ∃ ln, (foldC L (pre2 L n i)).2.1 = ln := ⟨_, rfl⟩
            obtain ⟨cl, hcl⟩ : ∃ cl, (foldC L (pre2 L n i)).2.2 = cl := ⟨_, rfl⟩
            rw [hb, hln, hcl] at fz
            rw [hb, hln] at nb hfo ⊢
            rw [hln] at fl
            rw [hb] at fb
            rw [hcl] at d3
            obtain ⟨k, hk⟩ : ∃ k, n1 - ln = k := ⟨_, rfl⟩
            obtain ⟨x2, hx2⟩ : ∃ x, b * 2 ^ k = x := ⟨_, rfl⟩
            rw [hk, hx2] at nb fz
            have hxb : x2 ≤ 40000000 := by omega
            have hbb : b ≤ 40000000 := by omega
            clear nb fb
            have FZ : Unit → foldC L (pre2 L n (i + 1)) = (x2 + 1, n1, cl.set i (x2, n1)) := fun _ => fz
            obtain ⟨g1, g2, g3, g4⟩ := cv_cells d3 i hlt2
            have o7 := own_set (own_set d3 (i * 2) (.int .i64 (x2 : Int))) (i * 2 + 1) (.int .i64 (n1 : Int))
            rw [cvs_set] at o7
            have c7 : Chg (· = R) wr ((wr.setCell ⟨R, i * 2, none⟩ (.int .i64 (x2 : Int))).setCell ⟨R, i * 2 + 1, none⟩ (.int .i64 (n1 : Int))) := chg_in (chg_in (chg_refl _ _) _ _) _ _
            have d7 := blk_kept d4 c7 (by have := HR.out; omega)
            have b7 := d5.trans (chg_below c7 d5.size (fun x hx => by have := HR.out; omega))
            have e7 : ((n1 : Int) == (n1 : Int)) = true := by simp
            clear fz hs hpl ps d4 d5 c7 cx0 hb hln hcl d3
            rcases hfo with ⟨rfl, rfl⟩ | ⟨hb1, hl1⟩
            · have hx0 : x2 = 0 := by rw [← hx2]; simp
              subst hx0
              clear hx2
              go_wp2_with fail
              go_roundw
              case rel => exact ⟨i + 1, by omega, by go_num, by rw [FZ ()]; rfl, by rw [FZ ()], by rw [FZ ()]; exact o7, d7, b7⟩
              case measure => simp [intOf]; omega
            · obtain ⟨c, hc⟩ : ∃ c, b - 1 = c := ⟨_, rfl⟩
              rw [hc]
              have hci : (c : Int) + 1 = (b : Int) := by omega
              have hki : (n1 : Int) - (ln : Int) = (k : Int) := by omega
              have hxi : (b : Int) * 2 ^ k = (x2 : Int) := by rw [← hx2]; simp
              have hk16 : k < 16 := by omega
              clear hx2 hk hc hb1
              go_wp2_with fail
              go_roundw
              case rel => exact ⟨i + 1, by omega, by go_num, by rw [FZ ()]; rfl, by rw [FZ ()], by rw [FZ ()]; exact o7, d7, b7⟩
              case measure => simp [intOf]; omega
          · rw [if_neg (by rw [HN1.out]; exact he)] at ps
            have PS : Unit → pre2 L n (i + 1) = pre2 L n i := fun _ => ps
            have fb := foldC_bd L _ hs HB.out
            obtain ⟨b, hb⟩ : ∃ b, (foldC L (pre2 L n i)).1 - 1 = b := ⟨_, rfl⟩
            obtain ⟨ln, hln⟩ : ∃ ln, (foldC L (pre2 L n i)).2.1 = ln := ⟨_, rfl⟩
            rw [hb, hln]
            have KS : Unit → KSt L (pre2 L n (i + 1)) R w (.int .i64 (b : Int)) (.int .i64 (ln : Int)) wr := fun _ => by rw [PS ()]; exact ⟨by rw [hb], by rw [hln], d3, d4, d5⟩
            generalize at0 L i = z at *
            have t1 : ((z : Int) == (n1 : Int)) = false := by simp; omega
            clear ps PS fb hb hln d3 d4 d5 hs hfo hpl cx0
            go_wp2_with fail
            go_roundw
            case rel => exact ⟨i + 1, by omega, by go_num, KS ()⟩
            case measure => simp [intOf]; omega
        · obtain rfl : i = 65 := by omega
          have KS : Unit → KoRel L R w (.int .i64 ((foldC L (pre2 L n 65)).1 - 1 : Nat)) (.int .i64 ((foldC L (pre2 L n 65)).2.1 : Nat)) (.int .i64 ((n1 + 1 : Nat) : Int)) wr := fun _ => ⟨n1, hn15, rfl, by rw [← HN1.out, ← pre2_all]; exact ⟨rfl, rfl, d3, d4, d5⟩⟩
          generalize (foldC L (pre2 L n 65)).1 - 1 = b at *
          generalize (foldC L (pre2 L n 65)).2.1 = ln at *
          clear d3 d4 d5
          go_wp2_with fail
          go_roundw
          case rel => exact KS ()
          case measure => simp [intOf]; omega
    · obtain rfl : n = 15 := by omega
      obtain ⟨rfl, rfl, d3, d4, d5⟩ := hst
      have O9 : Unit → wr.ownsRow w.heap.size 68 2 (.slice (some ⟨R, 0, none⟩) 65 65) 65 cod := fun _ => by
        rw [← HC ()]
        exact own_up d3 (fun k hk => by simp [Value.ownBlock] at hk; have := HR.out; omega)
      generalize (foldC L (byLen L 15)).1 - 1 = b at *
      generalize (foldC L (byLen L 15)).2.1 = ln at *
      have r0 : wr.cell? ⟨w.heap.size, 0, none⟩ = some (.slice none 0 0) := by rw [blk_cell d4]; rfl
      have r1 : wr.cell? ⟨w.heap.size, 1, none⟩ = some (.int .i64 0) := by rw [blk_cell d4]; rfl
      have f0 := blk_free d4 0
      have f1 := blk_free d4 1
      clear d3
      go_wp2_with fail
      have q0 : (wr.setCell ⟨w.heap.size, 0, none⟩ (.slice (some ⟨R, 0, none⟩) 65 65)).cell? ⟨w.heap.size, 0, none⟩ = some (.slice (some ⟨R, 0, none⟩) 65 65) := by rw [blk_cell (blk_set d4 0 _)]; rfl
      have q1 : ((wr.setCell ⟨w.heap.size, 0, none⟩ (.slice (some ⟨R, 0, none⟩) 65 65)).setCell ⟨w.heap.size, 1, none⟩ (.int .i64 0)).cell? ⟨w.heap.size, 1, none⟩ = some (.int .i64 0) := by rw [blk_cell (blk_set (blk_set d4 0 _) 1 _)]; rfl
      have c2 : Chg (· = w.heap.size) wr ((wr.setCell ⟨w.heap.size, 0, none⟩ (.slice (some ⟨R, 0, none⟩) 65 65)).setCell ⟨w.heap.size, 1, none⟩ (.int .i64 0)) := chg_in (chg_in (chg_refl _ _) _ _) _ _
      refine bodyPost_ret (v := .agg #[.slice (some ⟨R, 0, none⟩) 65 65, .int .i64 0]) (by simp [results, Try.results29, go_sem, q0, q1]) rfl ⟨_, rfl, own_kept (O9 ()) c2 (fun k hk => by simp [Value.ownBlock] at hk; have := HR.out; omega), d5.trans (chg_below c2 d5.size (fun k hk => by omega))⟩
end Go.Proofs.Ytlkebkchbgpnpaa
