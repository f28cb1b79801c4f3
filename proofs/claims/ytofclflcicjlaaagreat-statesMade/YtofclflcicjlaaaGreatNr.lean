/-
  The reference's answer of any frequencies; each condition stands at its theorem.
-/
import Derived.Test.YtofclflcicjlaaaGreatRn
import Derived.Test.YtofclflcicjlaaaGreatRf
import Derived.Test.YtofclflcicjlaaaGreatRo
import Derived.BigRegion
import Derived.BigQuiet
import Derived.Deep.QuietTactic
import Derived.Deep.RegionWith
import Derived.OwnWalk
namespace Go.Proofs.YtofclflcicjlaaaGreat
open Go.ChangeShapes Go.WideShapes Go.ChangeAt Go.RowKit
open Go.ChangeMaps (open_string shut_string)

theorem blk_below {W W' : World} {A B : Nat} {cs : Array Value} {t : TypeId} (h : Blk W A cs t) (g : Below B W W') (hB : A < B) : Blk W' A cs t := (g.block A hB).trans h
theorem norm_fr {f : List Int} {z : Int} (h : lgB z = false ∨ frB f = false) : normA f z = (1, []) := by
  rcases h with h | h
  · exact norm_no (.inl h)
  · unfold frB at h
    by_cases h2 : okC 16777216 f = true
    · rw [h2, Bool.true_and] at h
      obtain ⟨a, b⟩ := (okC_iff _ _).1 h2
      refine norm_no (.inr (.inr ?_))
      have := sm_bd 16777216 f (fun z hz => b z hz) f.length (Nat.le_refl _)
      rw [sm_all f _ (Nat.le_refl _)] at this
      have h' : ¬ 0 < f.sum := by simpa using h
      omega
    · exact norm_no (.inr (.inl (by simpa using h2)))
def RnPost (A : Nat × List Nat) (w : World) (e : Ending) (w' : World) : Prop :=
  ∃ v, e = .returned (.agg #[v, .int .i64 (A.1 : Nat)]) ∧ w'.ownsRow w.heap.size 3 1 v A.2.length (nis A.2) ∧ Below w.heap.size w w'
theorem rn_no {w w' : World} {A : Nat × List Nat} (h : A = (1, [])) (b : Below w.heap.size w w') : RnPost A w (.returned (.agg #[.slice none 0 0, .int .i64 1])) w' := by
  subst h
  exact ⟨_, rfl, World.ownsRow_nil _ _ _ _, b⟩
def ps (P : Nat → Nat) (F : List Nat) (i : Nat) : Nat := ((F.take i).map P).sum
theorem ps_succ (P : Nat → Nat) (F : List Nat) (i : Nat) (h : i < F.length) : ps P F (i + 1) = ps P F i + P (g F i) := by
  unfold ps; rw [List.take_succ_eq_append_getElem h, List.map_append, List.sum_append, g_eq F i h]; simp
theorem ps_bd (P : Nat → Nat) (F : List Nat) (m : Nat) (h : ∀ x ∈ F, P x ≤ m) (i : Nat) (hi : i ≤ F.length) : ps P F i ≤ i * m := by
  induction i with
  | zero => simp [ps]
  | succ i ih =>
    rw [ps_succ P F i (by omega), Nat.succ_mul]
    have := h (g F i) (g_mem F i (by omega))
    have := ih (by omega)
    omega
/-- The reference's row, and the block of its result. -/
def Rr (S : Nat) (w w0 : World) (l : List Nat) (wr : World) : Prop :=
  Blk wr S #[.slice none 0 0, .int .i64 0] 45 ∧ wr.ownsRow (S + 1) 3 1 (.slice (some ⟨S + 1, 0, none⟩) 65 65) 65 (nis l) ∧ Below S w wr ∧ Below w0.heap.size w0 wr
def NrRel1 (f : List Int) (n : Nat) (w : World) (tv iv : Value) (wr : World) : Prop :=
  ∃ i : Nat, i ≤ n ∧ iv = .int .i64 i ∧ tv = .int .i64 (sm f i) ∧ wr = w
def NrRel2 (F : List Nat) (P : Nat → Nat) (S : Nat) (w w0 : World) (tv iv : Value) (wr : World) : Prop :=
  ∃ i : Nat, i ≤ 65 ∧ iv = .int .i64 i ∧ tv = .int .i64 (ps P F i : Nat) ∧ Rr S w w0 ((F.take i).map P ++ List.replicate (65 - i) 0) wr
def NrRel3 (L : List Nat) (t m S : Nat) (w w0 : World) (tv : Value) (wr : World) : Prop :=
  ∃ i j : Nat, i ≤ m ∧ j + i = t ∧ tv = .int .i64 (j : Int) ∧ Rr S w w0 (decN i L) wr
def NrT (t : Nat) (w : World) (tv : Value) (wr : World) : Prop := tv = .int .i64 (t : Int) ∧ wr = w
theorem rr_set {S k v : Nat} {w w0 wr : World} {l : List Nat} (h : Rr S w w0 l wr) (_hk : k < l.length) (hz : w0.heap.size = S + 1) : Rr S w w0 (l.set k v) (wr.setCell ⟨S + 1, k, none⟩ (.int .i64 (v : Int))) := by
  obtain ⟨h1, h2, h3, h4⟩ := h
  refine ⟨blk_set_other h1 _ _ (by show S ≠ S + 1; omega), ?_, h3.setCell (p := ⟨S + 1, k, none⟩) (by show S ≤ S + 1; omega) _, h4.setCell (p := ⟨S + 1, k, none⟩) (by show w0.heap.size ≤ S + 1; omega) _⟩
  have := own_set h2 k (.int .i64 (v : Int))
  rw [nis_map, ivs_set] at this
  rw [nis_map, List.map_set]
  exact this
theorem rr_later {S : Nat} {w w0 wr w' : World} {l : List Nat} (h : Rr S w w0 l wr) (k : Below wr.heap.size wr w') (hS : w.heap.size = S) : Rr S w w0 l w' := by
  obtain ⟨h1, h2, h3, h4⟩ := h
  exact ⟨blk_below h1 k (blk_lt h1), own_later h2 k, h3.trans (k.mono (by have := h3.size; omega)), h4.trans (k.mono h4.size)⟩
theorem rr_drew {S : Nat} {w w0 wr : World} {l : List Nat} (h : Rr S w w0 l wr) : Rr S w w0 l wr.drew := ⟨h.1, own_drew h.2.1, h.2.2.1.drew, h.2.2.2.drew⟩
theorem rr_cells {S : Nat} {w w0 wr : World} {l : List Nat} (h : Rr S w w0 l wr) : wr.cell? ⟨S, 0, none⟩ = some (.slice none 0 0) ∧ wr.cell? ⟨S, 1, none⟩ = some (.int .i64 0) ∧ wr.frozen? ⟨S, 0, none⟩ = false ∧ wr.frozen? ⟨S, 1, none⟩ = false :=
  ⟨by rw [blk_cell h.1]; rfl, by rw [blk_cell h.1]; rfl, blk_free h.1 0, blk_free h.1 1⟩
theorem rr_end {S : Nat} {w w0 wr : World} {A : Nat × List Nat} (h : Rr S w w0 A.2 wr) (hS : w.heap.size = S) (h0 : A.1 = 0) (hl : A.2.length = 65) :
    RnPost A w (.returned (.agg #[.slice (some ⟨S + 1, 0, none⟩) 65 65, .int .i64 0])) ((wr.setCell ⟨S, 0, none⟩ (.slice (some ⟨S + 1, 0, none⟩) 65 65)).setCell ⟨S, 1, none⟩ (.int .i64 0)) := by
  obtain ⟨h1, h2, h3, h4⟩ := h
  refine ⟨_, by rw [h0]; rfl, ?_, ?_⟩
  · rw [hl, hS]
    exact own_low (own_kept (S := (· = S)) h2 (chg_in (chg_in (chg_refl _ wr) 0 _) 1 _) (fun k hk e => by simp [Value.ownBlock] at hk; omega)) (by omega)
  · rw [hS]
    exact (h3.setCell (p := ⟨S, 0, none⟩) (Nat.le_refl _) _).setCell (p := ⟨S, 1, none⟩) (Nat.le_refl _) _
set_option maxRecDepth 100000 in
set_option maxHeartbeats 8000000 in
/-- The reference's answer of any frequencies. -/
theorem rnorm_any (a : Option Addr) (n cap : Nat) (f : List Int) (z : Int) (w : World) (h : RI w a n f) (hn : n ≤ 1000) :
    Calls Tryz.prog 14 #[.slice a n cap, .int .i64 z] w fun e w' => RnPost (normA f z) w e w' := by
  have IL := islog_any z
  have hl := h.1
  have b0 : Below w.heap.size w (w.alloc (.cells #[.slice none 0 0, .int .i64 0] 45)) := (Below.refl _ _).alloc (Nat.le_refl _) _
  by_cases h2 : n = 65
  · subst h2
    have t1 : (((65 : Nat) : Int) != 65) = false := rfl
    have FQ := rfreqs_any a 65 cap f _ (ri_below h b0) hn
    by_cases h3 : frB f = true
    · rw [h3] at FQ
      by_cases h1 : lgB z = true
      · rw [h1] at IL
        obtain ⟨s, e1, e2, s1, s2, e3, k12⟩ := one_shl z h1
        obtain ⟨z7, z12⟩ := (lgB_iff z).1 h1
        unfold frB at h3
        rw [Bool.and_eq_true, decide_eq_true_eq] at h3
        obtain ⟨h3, h4⟩ := h3
        obtain ⟨fl, fb⟩ := (okC_iff _ _).1 h3
        have hb := toNat_back (fun x hx => (fb x hx).1)
        obtain ⟨F, hF⟩ : ∃ F, f.map Int.toNat = F := ⟨_, rfl⟩
        rw [hF] at hb
        subst hb
        have Fl : F.length = 65 := by simpa using fl
        have Fb : ∀ x ∈ F, x ≤ 16777216 := fun x hx => by have := (fb _ (List.mem_map_of_mem hx)).2; have e : (Int.ofNat x) = (x : Int) := rfl; omega
        rw [sum_ofNat] at h4
        have h0' : 0 < F.sum := by omega
        have N := norm_yes (z := z) h1 Fl Fb h0'
        have LL := shares_len z.toNat F
        have LB := shares_bd (F := F) k12
        have NM := nrm_much (log := z.toNat) (F := F)
        have NK := nrm_lack (log := z.toNat) (F := F)
        rw [e2] at NM NK
        rw [Fl] at LL
        have LS := sum_le 4096 _ LB
        rw [LL] at LS
        have SD : shares z.toNat F = F.map (share z.toNat F.sum) := rfl
        have SP : ∀ x, share z.toNat F.sum x = if x = 0 then 0 else max 1 (x * 2 ^ z.toNat / F.sum) := fun x => rfl
        rw [e2] at SP
        have PBd : ∀ x ∈ F, share z.toNat F.sum x ≤ 4096 := fun x hx => LB _ (by rw [SD]; exact List.mem_map_of_mem hx)
        generalize share z.toNat F.sum = P at *
        generalize shares z.toNat F = L at *
        have PT : ps P F 65 = L.sum := by unfold ps; rw [List.take_of_length_le (by omega), ← SD]
        have hsb := sm_bd 16777216 (F.map Int.ofNat) (fun x hx => fb x hx)
        have OT : Hid (∀ (M : List Nat), M.length = 65 → 0 < M.sum → ∀ o, Ordered (M.map Int.ofNat) 65 o → ∃ r, o = topOf M :: r) := fun M hM h0 o ho => by
          rw [← hM] at ho
          have hne : M ≠ [] := by rintro rfl; simp at h0
          cases o with
          | nil =>
            have := (ordered_mem ho (topOf M)).2 ⟨topOf_lt M hne, by rw [fr_map, topOf_get]; have := mx_pos h0; omega⟩
            simp at this
          | cons k r => exact ⟨r, by rw [ordered_top ho]⟩
        have OR0 : Hid (∀ W, Below (w.alloc (.cells #[.slice none 0 0, .int .i64 0] 45)).heap.size (w.alloc (.cells #[.slice none 0 0, .int .i64 0] 45)) W → Calls Tryz.prog 42 #[.slice a 65 cap] W fun e w' => ∃ v r, e = .returned v ∧ w'.ownsRow W.heap.size 3 1 v (topOf F :: r).length (nis (topOf F :: r)) ∧ Below W.heap.size W w') := fun W hW => by
          refine (rorder_any a 65 cap (F.map Int.ofNat) W (ri_below (ri_below h b0) hW) (fun x hx => by have := ofNat_bd Fb x hx; omega) hn).mono ?_
          rintro e w' ⟨v, o, rfl, ho, k1, k2⟩
          obtain ⟨r, rfl⟩ := OT.out F Fl h0' o ho
          exact ⟨v, r, rfl, k1, k2⟩
        have bk0 := blk_new w #[.slice none 0 0, .int .i64 0] 45
        have z0 : (w.alloc (.cells #[.slice none 0 0, .int .i64 0] 45)).heap.size = w.heap.size + 1 := by simp
        have HX := Hid.intro (ri_below h b0)
        obtain ⟨w0, hw0⟩ : ∃ w0, w.alloc (.cells #[.slice none 0 0, .int .i64 0] 45) = w0 := ⟨_, rfl⟩
        rw [hw0] at OR0 HX FQ b0 bk0 z0
        have mk := make_ints 23 3 Tryz.underlying23 info3 65 (by omega) w0
        rw [show ((65 : Nat) : Int) = 65 from rfl] at mk
        have om := own_made_ints w0 3 65 (by omega)
        have bm : Below w0.heap.size w0 (w0.alloc (.cells (madeCells #[.int .i64 0] 65) 3)) := (Below.refl _ _).alloc (Nat.le_refl _) _
        obtain ⟨w1, hw1⟩ : ∃ w1, w0.alloc (.cells (madeCells #[.int .i64 0] 65) 3) = w1 := ⟨_, rfl⟩
        rw [hw1] at mk om bm
        obtain ⟨S, hS⟩ : ∃ S, w.heap.size = S := ⟨_, rfl⟩
        have HS := Hid.intro hS
        rw [hS] at bk0 b0 z0
        have ST : Hid (NrRel2 F P S w w0 (.int .i64 0) (.int .i64 0) w1) := ⟨0, by omega, rfl, by simp [ps], blk_below bk0 bm (by omega), by
          have e : nis ((F.take 0).map P ++ List.replicate (65 - 0) 0) = ivs (List.replicate 65 0) := by rw [nis_map]; simp
          rw [e]; rw [z0] at om; exact om, b0.trans (bm.mono (by omega)), bm⟩
        have HZ0 := Hid.intro z0
        rw [z0] at mk
        have SS := Hid.intro (sm_succ (F.map Int.ofNat))
        have SA := Hid.intro (sm_all (F.map Int.ofNat) 65 (by simp; omega))
        have SB := Hid.intro hsb
        have S0 : Hid (sm (F.map Int.ofNat) 0 = 0) := by show _ = _; simp [sm]
        have HFl := Hid.intro Fl
        have HFb := Hid.intro Fb
        have HSP := Hid.intro SP
        have HPT := Hid.intro PT
        have HPB := Hid.intro PBd
        have HPS := Hid.intro (ps_succ P F)
        have HPB2 := Hid.intro (ps_bd P F 4096 PBd)
        have HLL := Hid.intro LL
        have HLB := Hid.intro LB
        have HSD := Hid.intro SD
        have SQ := sum_ofNat F
        obtain ⟨A, hA⟩ : ∃ A, F.sum = A := ⟨_, rfl⟩
        rw [hA] at SQ h0' HSP h4
        have HSQ := Hid.intro SQ
        have Ab : A ≤ 65 * 16777216 := by
          have := sum_le 16777216 F Fb
          rw [Fl, hA] at this; exact this
        obtain ⟨t, ht⟩ : ∃ t, L.sum = t := ⟨_, rfl⟩
        have Ht := Hid.intro ht
        rw [ht] at NM NK LS
        have HN := Hid.intro N
        have HNM := Hid.intro NM
        have HNK := Hid.intro NK
        rw [ht] at HPT
        have eA : ((A : Int) == 0) = false := by simp; omega
        have h0A : 0 < A := h0'
        clear b0 bm om bk0 z0 hw1 hsb Fl Fb SP PT PBd LL LB SD SQ N NM NK h4 h3 fl fb hF h1 h hl hA ht h0'
        go_enter Tryz.func14, Tryz.ntmps14
        go_wp2_with fail
        try simp only [hw0, hS]
        clear hS
        with_reducible refine FQ.mono ?_
        rintro e wx ⟨rfl, hwx⟩
        subst hwx
        go_wp2_with fail
        with_reducible refine (IL _).mono ?_
        rintro e wx ⟨rfl, hwx⟩
        subst hwx
        clear FQ
        go_wp2_with fail
        go_loopw [5, 7] (fun tv iv wr => NrRel1 (F.map Int.ofNat) 65 wx tv iv wr) (fun _ iv _ => 65 - (intOf iv).toNat)
        case atStart => exact ⟨0, by omega, rfl, by rw [S0.out], rfl⟩
        case round =>
          obtain ⟨i, hi, rfl, rfl, rfl⟩ := hrel
          have hiF : i ≤ (F.map Int.ofNat).length := by rw [List.length_map, HFl.out]; exact hi
          have sb := SB.out i hiF
          have sb2 : (i * 16777216 : Nat) ≤ 65 * 16777216 := Nat.mul_le_mul_right _ hi
          have sb0 := sb.1
          have sb1 : sm (F.map Int.ofNat) i ≤ 65 * 16777216 := by omega
          clear sb sb2
          by_cases hlt : i < 65
          · have hif : i < (F.map Int.ofNat).length := by rw [List.length_map, HFl.out]; exact hlt
            obtain ⟨x, rfl, cx⟩ := ri_fr HX.out i hlt
            have sc := SS.out i hif
            rw [← fr_at _ i hif, fr_map] at sc
            rw [fr_map] at cx
            have cx' : wr.cell? (x.add i) = some (.int .i64 (g F i : Nat)) := cx
            have gb := HFb.out (g F i) (g_mem F i (by rw [HFl.out]; exact hlt))
            have SC : Hid (sm (F.map Int.ofNat) (i + 1) = sm (F.map Int.ofNat) i + (g F i : Nat)) := sc
            clear sc cx
            generalize g F i = y at *
            generalize sm (F.map Int.ofNat) i = u at *
            go_wp2_with fail
            go_roundw
            case rel => exact ⟨i + 1, by omega, by go_num, by rw [SC.out], rfl⟩
            case measure => simp [intOf]; omega
          · obtain rfl : i = 65 := by omega
            rw [SA.out, HSQ.out]
            clear sb0 sb1 hiF
            go_wp2_with fail
            clear mk hw0
            generalize wr = wa at *
            go_loopw [6, 9] (fun tv iv wr => NrRel2 F P S w wa tv iv wr) (fun _ iv _ => 65 - (intOf iv).toNat)
            case atStart => exact ST.out
            case round =>
              clear ST
              obtain ⟨i, hi, rfl, rfl, hR⟩ := hrel
              have pb := HPB2.out i (by rw [HFl.out]; exact hi)
              have pb2 : i * 4096 ≤ 65 * 4096 := Nat.mul_le_mul_right _ hi
              by_cases hlt : i < 65
              · have hif : i < F.length := by rw [HFl.out]; exact hlt
                obtain ⟨x, rfl, cx⟩ := ri_fr HX.out i hlt
                rw [fr_map] at cx
                have cx' : wr.cell? (x.add i) = some (.int .i64 (g F i : Nat)) := by
                  rw [hR.2.2.2.cell (World.block_lt_of_cell? _ _ cx)]; exact cx
                have gb := HFb.out (g F i) (g_mem F i hif)
                have PX := HSP.out (g F i)
                have FS := fill_step P 0 F i hif
                have FZ := fill_same P 0 F i hif
                have PS1 := HPS.out i hif
                rw [← g_eq F i hif] at FS FZ
                rw [HFl.out] at FS FZ
                obtain ⟨-, s9, f9⟩ := own_there hR.2.1 i (by omega)
                obtain ⟨u9, c9⟩ := Option.isSome_iff_exists.1 s9
                have rs := fun v => rr_set (v := v) hR (k := i) (by simp; omega) HZ0.out
                have HR := Hid.intro hR
                clear cx s9 hR
                generalize g F i = y at *
                generalize hu : ps P F i = u at *
                by_cases hy : y = 0
                · have FZ' := Hid.intro (FZ (by rw [PX, if_pos hy]))
                  have PS2 : Hid (ps P F (i + 1) = u) := by show _ = _; rw [PS1, PX, if_pos hy]; rfl
                  clear FZ FS PX PS1 rs
                  subst hy
                  go_wp2_with fail
                  go_roundw
                  case rel => exact ⟨i + 1, by omega, by go_num, by rw [PS2.out], by rw [← FZ'.out]; exact HR.out⟩
                  case measure => simp [intOf]; omega
                · rw [if_neg hy] at PX
                  obtain ⟨q, hq⟩ : ∃ q, y * s / A = q := ⟨_, rfl⟩
                  obtain ⟨r, hr⟩ : ∃ r, max 1 q = r := ⟨_, rfl⟩
                  rw [hq, hr] at PX
                  have ys : y * s ≤ 16777216 * 4096 := Nat.mul_le_mul gb s1
                  have qb : q ≤ 16777216 * 4096 := by rw [← hq]; exact Nat.le_trans (Nat.div_le_self _ _) ys
                  have d1 : ((y : Int) * (s : Int)).tdiv (A : Int) = (q : Int) := by
                    rw [Int.tdiv_eq_ediv_of_nonneg (by have := Int.natCast_nonneg (y * s); rw [Int.natCast_mul] at this; exact this), ← hq]
                    push_cast
                    rfl
                  have y0 : 0 < y := by omega
                  have d0 : IntKind.i64.wrap ((y : Int) * (s : Int)) = (y : Int) * (s : Int) := by
                    have h1 : (y : Int) * (s : Int) = ((y * s : Nat) : Int) := by push_cast; rfl
                    rw [h1, IntKind.wrap_i64]; omega
                  have em : max 1 (q : Int) = (r : Int) := by omega
                  have rb : r ≤ 16777216 * 4096 := by omega
                  have R2 := rs r
                  rw [PX] at FS PS1
                  rw [FS] at R2
                  have HR2 := Hid.intro R2
                  have PS2 : Hid (ps P F (i + 1) = u + r) := PS1
                  clear hq ys FS FZ R2 rs hr PX hy PS1
                  go_wp2_with fail
                  go_roundw
                  case rel => exact ⟨i + 1, by omega, by go_num, by rw [PS2.out]; go_num, HR2.out⟩
                  case measure => simp [intOf]; omega
              · obtain rfl : i = 65 := by omega
                have hL : (F.take 65).map P ++ List.replicate (65 - 65) 0 = L := by rw [List.take_of_length_le (by rw [HFl.out]; exact Nat.le_refl _), HSD.out]; simp
                rw [hL] at hR
                rw [HPT.out]
                have HR := Hid.intro hR
                clear hL pb pb2
                by_cases hts : t < s
                · obtain ⟨d, hd⟩ : ∃ d, s - t = d := ⟨_, rfl⟩
                  have N2 : Hid (normA (F.map Int.ofNat) z = (0, L.set (topOf F) (L.getD (topOf F) 0 + d))) := by
                    have := HN.out
                    rw [HNK.out (by omega), hd] at this
                    exact this
                  have O1 := OR0.out wr hR.2.2.2
                  have k65 : topOf F < 65 := by
                    rw [← HFl.out]
                    exact topOf_lt F (by intro e; have := HFl.out; rw [e] at this; simp at this)
                  have hgl : L.getD (topOf F) 0 ≤ 4096 := HLB.out _ (g_mem L _ (by rw [HLL.out]; exact k65))
                  obtain ⟨k, hk⟩ : ∃ k, topOf F = k := ⟨_, rfl⟩
                  rw [hk] at O1 k65 hgl N2
                  clear hR hk
                  go_wp2_with fail
                  with_reducible refine O1.mono ?_
                  rintro e w3 ⟨v3, r3, rfl, o3, b3⟩
                  clear O1
                  obtain ⟨b, cb, rfl⟩ := own_slice o3 (by simp)
                  have cb0 : w3.cell? ⟨b, 0, none⟩ = some (.int .i64 (k : Nat)) := nis_cell o3 0 (by simp)
                  have lk : ((0 : Int) < ((k :: r3).length : Nat)) := by simp
                  have R3 := rr_later HR.out b3 HS.out
                  have ck : w3.cell? ⟨S + 1, k, none⟩ = some (.int .i64 (L.getD k 0 : Nat)) := nis_cell R3.2.1 k (by rw [HLL.out]; exact k65)
                  have fk := (own_there R3.2.1 k (by omega)).2.2
                  obtain ⟨y, hy⟩ : ∃ y, L.getD k 0 = y := ⟨_, rfl⟩
                  rw [hy] at ck hgl N2
                  have R4 := rr_set (v := y + d) R3 (k := k) (by rw [HLL.out]; exact k65) HZ0.out
                  have R4' : Hid (Rr S w wa (L.set k (y + d)) (w3.setCell ⟨S + 1, k, none⟩ (.int .i64 ((y + d : Nat) : Int)))) := R4
                  obtain ⟨yd, hyd⟩ : ∃ yd, y + d = yd := ⟨_, rfl⟩
                  rw [hyd] at R4' N2
                  have a1 : (y : Int) + (s : Int) = ((y + s : Nat) : Int) := by push_cast; rfl
                  have a2 : ((y + s : Nat) : Int) - (t : Int) = (yd : Int) := by omega
                  have a3 : IntKind.i64.wrap ((y + s : Nat) : Int) = ((y + s : Nat) : Int) := by rw [IntKind.wrap_i64]; omega
                  have a4 : IntKind.i64.wrap (yd : Int) = (yd : Int) := by rw [IntKind.wrap_i64]; omega
                  obtain ⟨ysm, hysm⟩ : ∃ q, y + s = q := ⟨_, rfl⟩
                  rw [hysm] at a1 a2 a3
                  have kI : (k : Int) < 65 := by omega
                  have k0 : (0 : Int) ≤ (k : Int) := by omega
                  generalize (k :: r3).length = lr at *
                  clear o3 b3 R3 R4 hy hyd hysm
                  go_wp2_with fail
                  go_region
                  all_goals
                    have R5 := Hid.intro (rr_drew R4'.out)
                    clear R4' cb0 ck fk
                    generalize (w3.setCell ⟨S + 1, k, none⟩ (.int .i64 (yd : Int))).drew = w4 at *
                    obtain ⟨c0, c1, f0, f1⟩ := rr_cells R5.out
                    have hst : (t : Int) ≤ (s : Int) := by omega
                    go_wp2_with fail
                    go_loopw [6] (fun tv wr => NrT t w4 tv wr) (fun _ _ => 0)
                    case atStart => exact ⟨rfl, rfl⟩
                    case round =>
                      obtain ⟨rfl, rfl⟩ := hrel
                      go_wp2_with fail
                      exact bodyPost_ret (v := .agg #[.slice (some ⟨S + 1, 0, none⟩) 65 65, .int .i64 0]) (by simp [results, Tryz.results14, go_sem, c0, c1]) rfl
                        (rr_end (A := normA (F.map Int.ofNat) z) (by rw [N2.out]; exact R5.out) HS.out (by rw [N2.out]) (by rw [N2.out, List.length_set, HLL.out]))
                · obtain ⟨m, hm⟩ : ∃ m, t - s = m := ⟨_, rfl⟩
                  have N2 : Hid (normA (F.map Int.ofNat) z = (0, decN m L)) := by
                    have := HN.out
                    rw [HNM.out (by omega), hm] at this
                    exact this
                  have hmt : s + m = t := by omega
                  clear hR
                  go_wp2_with fail
                  simp only [show ((65 : Nat) : Int) = 65 from rfl]
                  go_loopw [6] (fun tv wr => NrRel3 L t m S w wa tv wr) (fun tv _ => (intOf tv).toNat)
                  case atStart => exact ⟨0, t, by omega, rfl, rfl, HR.out⟩
                  case round =>
                    clear HR
                    obtain ⟨i, j, hi3, hj, rfl, hR⟩ := hrel
                    have HR := Hid.intro hR
                    by_cases hlt3 : i < m
                    · have ML := Hid.intro (show (decN i L).length = 65 by rw [decN_length]; exact HLL.out)
                      have sum1 := decN_sum i L (by rw [HLL.out, Ht.out]; omega)
                      rw [Ht.out] at sum1
                      have MS : Hid ((decN i L).length < (decN i L).sum) := by show _ < _; rw [ML.out]; omega
                      have DS := Hid.intro (decN_succ i L)
                      have MB : ∀ x ∈ decN i L, x ≤ 65 * 4096 := fun x hx => by have := le_sum _ x hx; omega
                      generalize hM : decN i L = M at *
                      have O1 := rorder_any (some ⟨S + 1, 0, none⟩) 65 65 (M.map Int.ofNat) wr (own_ri' hR.2.1) (fun x hx => by have := ofNat_bd MB x hx; omega) (by omega)
                      have k65 : topOf M < 65 := by have := topOf_lt M (ne_of_sum MS.out); rw [ML.out] at this; exact this
                      have hm2 := mx_two MS.out
                      have gM : g M (topOf M) = mxOf M := topOf_get M
                      have mb : mxOf M ≤ 65 * 4096 := by rw [← gM]; exact MB _ (g_mem M _ (by rw [ML.out]; exact k65))
                      have DD : Hid (dec M = M.set (topOf M) (mxOf M - 1)) := by show _ = _; unfold dec; rw [topOf_get]
                      have OTM := Hid.intro (OT.out M ML.out (by have := MS.out; omega))
                      clear hR MB hM sum1
                      obtain ⟨k, hk⟩ : ∃ k, topOf M = k := ⟨_, rfl⟩
                      rw [hk] at k65 gM DD OTM
                      obtain ⟨y, hy⟩ : ∃ y, mxOf M = y := ⟨_, rfl⟩
                      rw [hy] at gM DD hm2 mb
                      clear hk hy
                      obtain ⟨y1, hy1⟩ : ∃ y1 : Nat, (y : Int) - 1 = (y1 : Int) := ⟨y - 1, by omega⟩
                      have Y1 : Hid (y - 1 = y1) := by show _ = _; omega
                      obtain ⟨j1, hj1⟩ : ∃ j1 : Nat, (j : Int) - 1 = (j1 : Int) := ⟨j - 1, by omega⟩
                      have hsj : (s : Int) < (j : Int) := by omega
                      go_wp2_with fail
                      with_reducible refine O1.mono ?_
                      rintro e w3 ⟨v3, o, rfl, ho, o3, b3⟩
                      clear O1
                      obtain ⟨r3, rfl⟩ := OTM.out o ho
                      obtain ⟨b, cb, rfl⟩ := own_slice o3 (by simp)
                      have cb0 : w3.cell? ⟨b, 0, none⟩ = some (.int .i64 (k : Nat)) := nis_cell o3 0 (by simp)
                      have lk : ((0 : Int) < ((k :: r3).length : Nat)) := by simp
                      have R3 := rr_later HR.out b3 HS.out
                      have ck := nis_cell R3.2.1 k (by rw [ML.out]; exact k65)
                      rw [gM] at ck
                      have fk := (own_there R3.2.1 k (by omega)).2.2
                      have R4 := rr_set (v := y1) R3 (k := k) (by rw [ML.out]; exact k65) HZ0.out
                      have R5 : Hid (Rr S w wa (decN (i + 1) L) (w3.setCell ⟨S + 1, k, none⟩ (.int .i64 (y1 : Int)))) := by
                        show Rr _ _ _ _ _
                        rw [DS.out, DD.out, Y1.out]; exact R4
                      have kI : (k : Int) < 65 := by omega
                      have k0 : (0 : Int) ≤ (k : Int) := by omega
                      generalize (k :: r3).length = lr at *
                      clear o3 b3 R3 R4 ho gM HR
                      go_wp2_with fail
                      go_roundw
                      case rel => exact ⟨i + 1, j1, by omega, by omega, rfl, R5.out⟩
                      case measure => simp [intOf]; omega
                    · obtain rfl : i = m := by omega
                      have hsj : (j : Int) ≤ (s : Int) := by omega
                      obtain ⟨c0, c1, f0, f1⟩ := rr_cells hR
                      clear hR
                      go_wp2_with fail
                      exact bodyPost_ret (v := .agg #[.slice (some ⟨S + 1, 0, none⟩) 65 65, .int .i64 0]) (by simp [results, Tryz.results14, go_sem, c0, c1]) rfl
                        (rr_end (A := normA (F.map Int.ofNat) z) (by rw [N2.out]; exact HR.out) HS.out (by rw [N2.out]) (by rw [N2.out]; show (decN i L).length = 65; rw [decN_length, HLL.out]))
      · have hf : lgB z = false := by simpa using h1
        have N := Hid.intro (norm_fr (f := f) (.inl hf))
        rw [hf] at IL
        clear h h1 hf h3
        go_enter Tryz.func14, Tryz.ntmps14
        go_wp2_with fail
        with_reducible refine FQ.mono ?_
        rintro e w1 ⟨rfl, hw1⟩
        subst hw1
        go_wp2_with fail
        with_reducible refine (IL _).mono ?_
        rintro e w1 ⟨rfl, hw1⟩
        subst hw1
        go_wp2_with fail
        exact bodyPost_ret (v := .agg #[.slice none 0 0, .int .i64 1]) (by simp [results, Tryz.results14, go_sem]) rfl (rn_no N.out ((Below.refl _ _).alloc (Nat.le_refl _) _))
    · have hf : frB f = false := by simpa using h3
      have N := Hid.intro (norm_fr (f := f) (z := z) (.inr hf))
      rw [hf] at FQ
      clear h h3 hf
      go_enter Tryz.func14, Tryz.ntmps14
      go_wp2_with fail
      with_reducible refine FQ.mono ?_
      rintro e w1 ⟨rfl, hw1⟩
      subst hw1
      go_wp2_with fail
      exact bodyPost_ret (v := .agg #[.slice none 0 0, .int .i64 1]) (by simp [results, Tryz.results14, go_sem]) rfl (rn_no N.out ((Below.refl _ _).alloc (Nat.le_refl _) _))
  · have N : Hid (normA f z = (1, [])) := norm_no (.inr (.inl (by unfold okC; simp; intro k; omega)))
    have t1 : ((n : Int) != 65) = true := by simp; omega
    clear h h2
    go_enter Tryz.func14, Tryz.ntmps14
    go_wp2_with fail
    exact bodyPost_ret (v := .agg #[.slice none 0 0, .int .i64 1]) (by simp [results, Tryz.results14, go_sem]) rfl (rn_no N.out ((Below.refl _ _).alloc (Nat.le_refl _) _))
end Go.Proofs.YtofclflcicjlaaaGreat
