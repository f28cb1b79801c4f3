/-
  The walk over the places; Spread, of whatever numbers.
-/
import Derived.Test.YtofclflcicjlaaaGreatIo
import Derived.Test.YtofclflcicjlaaaGreatSc
import Derived.Deep.QuietTactic
import Derived.Deep.RegionWith
import Derived.OwnWalk
import Derived.BigQuiet
namespace Go.Proofs.YtofclflcicjlaaaGreat
open Go.ChangeShapes Go.WideShapes Go.ChangeAt Go.RowKit
open Go.ChangeMaps (open_string shut_string)

theorem chg_size {S : Nat → Prop} {a b : World} (h : Chg S a b) : a.heap.size ≤ b.heap.size := h.2.2.2.1
theorem chg_trans {S T : Nat → Prop} {a b c : World} (h : Chg S a b) (g : Chg T b c) (hT : ∀ k, k < a.heap.size → T k → S k) : Chg S a c :=
  ⟨g.1.trans h.1, g.2.1.trans h.2.1, g.2.2.1.trans h.2.2.1, Nat.le_trans h.2.2.2.1 g.2.2.2.1,
   fun k hk hS => (g.2.2.2.2 k (Nat.lt_of_lt_of_le hk h.2.2.2.1) (fun t => hS (hT k hk t))).trans (h.2.2.2.2 k hk hS)⟩
theorem chg_same {S : Nat → Prop} {a b c : World} (h : Chg S a b) (g : Chg S b c) : Chg S a c := chg_trans h g (fun _ _ s => s)
theorem chg_mono {S T : Nat → Prop} {a b : World} (h : Chg S a b) (hT : ∀ k, k < a.heap.size → S k → T k) : Chg T a b :=
  ⟨h.1, h.2.1, h.2.2.1, h.2.2.2.1, fun k hk hS => h.2.2.2.2 k hk (fun t => hS (hT k hk t))⟩
theorem chg_alloc {S : Nat → Prop} {a b : World} (h : Chg S a b) (o : Obj) : Chg S a (b.alloc o) :=
  ⟨h.1, h.2.1, h.2.2.1, by simp; exact Nat.le_trans h.2.2.2.1 (Nat.le_succ _), fun k hk hS => (Below.heap_alloc _ _ _ (Nat.lt_of_lt_of_le hk h.2.2.2.1)).trans (h.2.2.2.2 k hk hS)⟩
/-- The walk over the places: its block, and the row of its classes, m of them laid. -/
def Wk (W : World) (A B cap k : Nat) (cl : List Nat) (m : Nat) : Prop :=
  Blk W A #[.slice (some ⟨B, 0, none⟩) (2 ^ k) cap, .int .i64 (plc k m : Nat)] 139 ∧ W.ownsRow 0 3 1 (.slice (some ⟨B, 0, none⟩) (2 ^ k) cap) (2 ^ k) (nis (fill k 0 cl m)) ∧ A ≠ B
theorem nis_set (l : List Nat) (i x : Nat) : (nis l).set i (.int .i64 (x : Int)) = nis (l.set i x) := by
  unfold nis; rw [ivs_set, List.map_set]; rfl
theorem stp_eq (k : Nat) (h7 : 7 ≤ k) (h12 : k ≤ 12) : ∃ s h2 h8 : Nat, 2 ^ k = s ∧ (s : Int).tdiv 2 = (h2 : Int) ∧ (s : Int).tdiv 8 = (h8 : Int) ∧ stp k = h2 + h8 + 3 ∧ 128 ≤ s ∧ s ≤ 4096 ∧ h2 ≤ 2048 ∧ h8 ≤ 512 := by
  have a := pow_bd k h12
  have b : 2 ^ 7 ≤ 2 ^ k := Nat.pow_le_pow_right (by omega) h7
  refine ⟨2 ^ k, 2 ^ k / 2, 2 ^ k / 8, rfl, ?_, ?_, rfl, by omega, a, by omega, by omega⟩
  · generalize 2 ^ k = x; rw [Int.tdiv_eq_ediv_of_nonneg (by omega)]; rfl
  · generalize 2 ^ k = x; rw [Int.tdiv_eq_ediv_of_nonneg (by omega)]; rfl
theorem plc_step {k m s h2 h8 p : Nat} (hs : 2 ^ k = s) (he : stp k = h2 + h8 + 3) (hp : plc k m = p) (_h0 : 0 < s) : ∃ q : Nat, plc k (m + 1) = q ∧ ((p : Int) + (h2 : Int) + (h8 : Int) + 3).tmod (s : Int) = (q : Int) ∧ q < s := by
  have a := plc_next k m
  have b := plc_lt k (m + 1)
  rw [hp, he, hs] at a
  rw [hs] at b
  refine ⟨plc k (m + 1), rfl, ?_, b⟩
  rw [← a, Int.tmod_eq_emod_of_nonneg (by omega)]
  rw [show (p : Int) + (h2 : Int) + (h8 : Int) + 3 = ((p + (h2 + h8 + 3) : Nat) : Int) from by omega]
  rfl
set_option maxRecDepth 100000 in
set_option maxHeartbeats 1000000 in
theorem lay_any (A B cap k : Nat) (cl : List Nat) (m c : Nat) (W : World) (h : Wk W A B cap k cl m) (h7 : 7 ≤ k) (h12 : k ≤ 12) (hc : g cl m = c) :
    Calls Tryz.prog 72 #[.pointer (some ⟨A, 0, none⟩), .int .i64 (c : Int)] W fun e W' => e = .returned (.tuple #[]) ∧ Wk W' A B cap k cl (m + 1) ∧ Chg (fun j => j = A ∨ j = B) W W' := by
  obtain ⟨h1, h2, h3⟩ := h
  obtain ⟨s, hs2, hs8, es, e2, e8, eS, sl, su, u2, u8⟩ := stp_eq k h7 h12
  obtain ⟨p, hp⟩ : ∃ p, plc k m = p := ⟨_, rfl⟩
  obtain ⟨q, hq, eq, hqs⟩ := plc_step es eS hp (by omega)
  have hps : p < s := by rw [← hp, ← es]; exact plc_lt k m
  have F : Hid (fill k 0 cl (m + 1) = (fill k 0 cl m).set p c) := by show _ = _; simp only [fill]; rw [hp, ← hc]; rfl
  have ES := Hid.intro es
  have HQ := Hid.intro hq
  rw [hp, es] at h1
  rw [es] at h2
  clear hp hq es eS hc
  obtain ⟨xs, hxs⟩ : ∃ xs, nis (fill k 0 cl m) = xs := ⟨_, rfl⟩
  rw [hxs] at h2
  have HX := Hid.intro hxs
  obtain ⟨-, i1, f1⟩ := own_there h2 p (by omega)
  obtain ⟨i1, cB⟩ : ∃ u, W.cell? ⟨B, p, none⟩ = some u := Option.isSome_iff_exists.1 i1
  have a0 : W.cell? ⟨A, 0, none⟩ = some (.slice (some ⟨B, 0, none⟩) s cap) := by rw [blk_cell h1]; rfl
  have a1 : W.cell? ⟨A, 1, none⟩ = some (.int .i64 (p : Int)) := by rw [blk_cell h1]; rfl
  have z1 := blk_free h1 1
  have H1 := Hid.intro h1
  have H2 := Hid.intro h2
  have p0 : (0 : Int) ≤ (p : Int) := by omega
  have ps : (p : Int) < (s : Int) := by omega
  have s0 : ((s : Int) == 0) = false := by simp; omega
  clear h1 h2 hxs
  go_enter Tryz.func72, Tryz.ntmps72
  go_wp2_with fail
  go_region
  all_goals
    have G1 : Blk (W.setCell ⟨B, p, none⟩ (.int .i64 (c : Int))).drew A #[.slice (some ⟨B, 0, none⟩) s cap, .int .i64 (p : Int)] 139 := blk_drew (blk_set_other H1.out ⟨B, p, none⟩ _ h3)
    have G2 := own_drew (own_set H2.out p (.int .i64 (c : Int)))
    have G3 : Hid (Chg (fun j => j = A ∨ j = B) W (W.setCell ⟨B, p, none⟩ (.int .i64 (c : Int))).drew) := chg_drew (chg_set (chg_refl _ _) ⟨B, p, none⟩ _ (fun _ => Or.inr rfl))
    clear a0 a1 z1 cB f1 H1 H2 i1
    generalize (W.setCell ⟨B, p, none⟩ (.int .i64 (c : Int))).drew = w1 at *
    have a0 : w1.cell? ⟨A, 0, none⟩ = some (.slice (some ⟨B, 0, none⟩) s cap) := by rw [blk_cell G1]; rfl
    have a1 : w1.cell? ⟨A, 1, none⟩ = some (.int .i64 (p : Int)) := by rw [blk_cell G1]; rfl
    have z1 := blk_free G1 1
    have G1' := Hid.intro G1
    have G2' := Hid.intro G2
    clear G1 G2
    go_wp2_with fail
    go_returns
    refine ⟨rfl, ⟨?_, ?_, h3⟩, chg_set G3.out ⟨A, 1, none⟩ _ (fun _ => Or.inl rfl)⟩
    · have := blk_set G1'.out 1 (.int .i64 (q : Int))
      rw [ES.out, HQ.out]
      simpa using this
    · rw [ES.out, F.out, ← nis_set, HX.out]
      exact own_kept (S := (· = A)) G2'.out (chg_set (chg_refl _ _) ⟨A, 1, none⟩ _ (fun _ => rfl)) (fun k hk e => by simp [Value.ownBlock] at hk; exact h3 (by rw [← e, ← hk]))
theorem nis_get (l : List Nat) (i : Nat) (h : i < l.length) : (nis l)[i]? = some (.int .i64 (g l i : Nat)) := by
  rw [g_eq l i h]; simp [nis, ivs, iv, h]
theorem nis_at {W : World} {base b n cap : Nat} {l : List Nat} (h : W.ownsRow base 3 1 (.slice (some ⟨b, 0, none⟩) n cap) n (nis l)) (i : Nat) (hi : i < n) : W.cell? ⟨b, i, none⟩ = some (.int .i64 (g l i : Nat)) := by
  have hl : l.length = n := by have := h.1; rw [nis_len] at this; omega
  exact (own_there h i (by omega)).1.trans (nis_get l i (by omega))
def EcRel (A B cap k : Nat) (cl : List Nat) (w : World) (sv : Value) (wr : World) : Prop :=
  ∃ i : Nat, i ≤ 2 ^ k ∧ sv = .int .i64 i ∧ Wk wr A B cap k cl i ∧ Chg (fun j => j = A ∨ j = B) w wr
set_option maxRecDepth 100000 in
set_option maxHeartbeats 1000000 in
theorem each_any (A B cap k b c1 base : Nat) (cl : List Nat) (W : World) (h : Wk W A B cap k cl 0) (h7 : 7 ≤ k) (h12 : k ≤ 12) (ho : W.ownsRow base 3 1 (.slice (some ⟨b, 0, none⟩) (2 ^ k) c1) (2 ^ k) (nis cl)) (hbA : b ≠ A) (hbB : b ≠ B) :
    Calls Tryz.prog 70 #[.pointer (some ⟨A, 0, none⟩), .slice (some ⟨b, 0, none⟩) ((2 ^ k : Nat)) c1, .func (.func 72) #[] #[]] W fun e W' => e = .returned (.tuple #[]) ∧ Wk W' A B cap k cl (2 ^ k) ∧ Chg (fun j => j = A ∨ j = B) W W' := by
  have pb := pow_bd k h12
  have ST : Hid (EcRel A B cap k cl W (.int .i64 0) W) := ⟨0, Nat.zero_le _, rfl, h, chg_refl _ _⟩
  have HO : Hid (∀ wr, Chg (fun j => j = A ∨ j = B) W wr → ∀ i, i < 2 ^ k → wr.cell? ⟨b, i, none⟩ = some (.int .i64 (g cl i : Nat))) := fun wr hw i hi => nis_at (own_kept ho hw (fun j hj e => by simp [Value.ownBlock] at hj; subst hj; exact e.elim hbA hbB)) i hi
  have LA : Hid (∀ m wr, Wk wr A B cap k cl m → Calls Tryz.prog 72 #[.pointer (some ⟨A, 0, none⟩), .int .i64 (g cl m : Nat)] wr fun e W' => e = .returned (.tuple #[]) ∧ Wk W' A B cap k cl (m + 1) ∧ Chg (fun j => j = A ∨ j = B) wr W') := fun m wr hw => lay_any A B cap k cl m _ wr hw h7 h12 rfl
  obtain ⟨s, es⟩ : ∃ s, 2 ^ k = s ∧ s = s := ⟨_, rfl, rfl⟩
  have ES := Hid.intro es.1
  rw [es.1] at HO pb ⊢
  clear h ho es
  go_enter Tryz.func70, Tryz.ntmps70
  go_wp2_with fail
  go_loopw [10] (fun sv wr => EcRel A B cap k cl W sv wr) (fun sv _ => s - (intOf sv).toNat)
  case atStart => exact ST.out
  case round =>
    clear ST
    obtain ⟨i, hi, rfl, d1, d2⟩ := hrel
    rw [ES.out] at hi
    by_cases hlt : i < s
    · have cx := HO.out wr d2 i hlt
      have LY := LA.out i wr d1
      have hii : (i : Int) < (s : Int) := by omega
      generalize g cl i = c at *
      have D2 := Hid.intro d2
      clear d1 d2
      go_wp2_with fail
      with_reducible refine LY.mono ?_
      rintro e w1 ⟨rfl, k1, k2⟩
      clear LY
      go_wp2_with fail
      go_roundw
      case rel => exact ⟨i + 1, by rw [ES.out]; omega, by go_num, k1, chg_same D2.out k2⟩
      case measure => simp [intOf]; omega
    · obtain rfl : i = s := by omega
      go_wp2_with fail
      go_returns
      exact ⟨rfl, d1, d2⟩
def SpPost (A : Nat × List Nat) (w : World) (e : Ending) (w' : World) : Prop :=
  ∃ v, e = .returned (.tuple #[v, .int .i64 (A.1 : Nat)]) ∧ w'.ownsRow w.heap.size 3 1 v A.2.length (nis A.2) ∧ Below w.heap.size w w'
theorem nis_zero (n : Nat) : ivs (List.replicate n 0) = nis (List.replicate n 0) := by unfold nis; rw [List.map_replicate]; rfl
theorem ri_len {w : World} {a : Option Addr} {n : Nat} {f : List Int} (h : RI w a n f) : f.length = n := h.1
set_option maxRecDepth 100000 in
set_option maxHeartbeats 1000000 in
theorem spread_any (a : Option Addr) (n cap : Nat) (f : List Int) (z : Int) (w : World) (h : RI w a n f) (hn : n ≤ 1000) :
    Calls Tryz.prog 43 #[.slice a n cap, .int .i64 z] w fun e w' => SpPost (sprA f z) w e w' := by
  have MA := may_any a n cap f z w h hn
  by_cases hm : may z f = true
  · obtain ⟨k, L, rfl, rfl, e3, e4, sp⟩ := may_spd hm
    rw [sprA_yes hm, e3, e4]
    rw [hm] at MA
    have hn65 : n = 65 := by rw [← ri_len h, List.length_map, sp.len]
    subst hn65
    obtain ⟨s, hs2, hs8, es, -, -, -, sl, su, -, -⟩ := stp_eq k sp.k7 sp.k12
    have HN := Hid.intro h
    have K7 := sp.k7
    have K12 := sp.k12
    have HSP := Hid.intro sp
    have sk : (2 : Int) ^ k = (s : Int) := by rw [← es, Int.natCast_pow]; rfl
    have wk : IntKind.i64.wrap (s : Int) = (s : Int) := by rw [IntKind.wrap_i64]; omega
    clear h hm sp e3 e4
    go_enter Tryz.func43, Tryz.ntmps43
    go_wp2_with fail
    with_reducible refine MA.mono ?_
    rintro e w1 ⟨rfl, b1⟩
    clear MA
    have mk := make_ints 23 3 Tryz.underlying23 info3 s (by omega) w1
    have om := own_made_ints w1 3 s (by omega)
    go_wp2_with fail
    obtain ⟨B, hB⟩ : ∃ B, w1.heap.size = B := ⟨_, rfl⟩
    rw [hB] at om ⊢
    obtain ⟨w2, hw2⟩ : ∃ w2, (w1.alloc (.cells (madeCells #[.int .i64 0] s) 3)).alloc (.cells #[.slice (some ⟨B, 0, none⟩) s s, .int .i64 0] 139) = w2 := ⟨_, rfl⟩
    have z2 : w2.heap.size = B + 2 := by rw [← hw2, ← hB]; simp
    have b2 : Below B w1 w2 := by rw [← hw2, ← hB]; exact ((Below.refl _ _).alloc (Nat.le_refl _) _).alloc (by simp) _
    have bk : Blk w2 (B + 1) #[.slice (some ⟨B, 0, none⟩) s s, .int .i64 0] 139 := by
      have := blk_new (w1.alloc (.cells (madeCells #[.int .i64 0] s) 3)) #[.slice (some ⟨B, 0, none⟩) s s, .int .i64 0] 139
      rw [hw2, show (w1.alloc (.cells (madeCells #[.int .i64 0] s) 3)).heap.size = B + 1 from by rw [← hB]; simp] at this
      exact this
    have o2 : w2.ownsRow B 3 1 (.slice (some ⟨B, 0, none⟩) s s) s (ivs (List.replicate s 0)) := by
      rw [← hw2]; exact World.ownsRow.alloc om _
    rw [hw2]
    have wk2 : Hid (Wk w2 (B + 1) B s k (cls 0 L) 0) := by
      refine ⟨?_, ?_, by omega⟩
      · rw [es, show plc k 0 = 0 from by unfold plc; simp]; exact bk
      · show World.ownsRow _ _ _ _ _ _ _
        simp only [fill]
        rw [es, ← nis_zero]
        exact own_low o2 (Nat.zero_le _)
    have B2 : Hid (Below w.heap.size w w2) := b1.trans (b2.mono (by have := b1.size; omega))
    have IO := inorder_any a cap s L w2 (ri_below HN.out B2.out) (by rw [HSP.out.sum, es]; exact su) su
    rw [HSP.out.sum, es] at IO
    have BW : Hid (w.heap.size ≤ B) := by show _ ≤ _; rw [← hB]; exact b1.size
    clear hw2 om mk bk o2 b1 b2 hB
    have Z2 := Hid.intro z2
    clear z2
    with_reducible refine IO.mono ?_
    rintro e w3 ⟨v, rfl, o3, b3⟩
    clear IO
    obtain ⟨b, c1, rfl⟩ := own_slice o3 (by omega)
    have hb := (o3.lt b rfl).1
    have Z3 : Hid (B + 2 ≤ b) := by show _ ≤ _; have := Z2.out; omega
    have wk3 : Wk w3 (B + 1) B s k (cls 0 L) 0 := ⟨blk_below wk2.out.1 b3 (by have := Z2.out; omega), own_later wk2.out.2.1 b3, wk2.out.2.2⟩
    have EC := each_any (B + 1) B s k b c1 _ (cls 0 L) w3 wk3 K7 K12 (by rw [es]; exact o3) (by have := Z3.out; omega) (by have := Z3.out; omega)
    rw [es] at EC
    have B3 : Hid (Below w.heap.size w w3) := B2.out.trans (b3.mono B2.out.size)
    clear wk3 o3 b3 hb
    go_wp2_with fail
    with_reducible refine EC.mono ?_
    rintro e w4 ⟨rfl, ⟨k1, k2, k3⟩, k4⟩
    clear EC
    rw [es] at k1 k2
    have a0 : w4.cell? ⟨B + 1, 0, none⟩ = some (.slice (some ⟨B, 0, none⟩) s s) := by rw [blk_cell k1]; rfl
    have B4 : Hid (Below w.heap.size w w4) := B3.out.trans (chg_below k4 B3.out.size (fun j hj => by have := BW.out; omega))
    have R : Hid (w4.ownsRow w.heap.size 3 1 (.slice (some ⟨B, 0, none⟩) s s) (spr k L).length (nis (spr k L))) := by
      show World.ownsRow _ _ _ _ _ _ _
      rw [HSP.out.all, es]
      have := own_up (B := w.heap.size) k2 (fun j hj => by simp [Value.ownBlock] at hj; have := BW.out; omega)
      unfold spr
      rw [es]
      exact this
    clear k1 k2 k3 k4
    go_wp2_with fail
    go_ret2
    exact ⟨_, rfl, R.out, B4.out⟩
  · have hm' : may z f = false := by simpa using hm
    rw [sprA_no hm']
    rw [hm'] at MA
    clear h hm
    go_enter Tryz.func43, Tryz.ntmps43
    go_wp2_with fail
    with_reducible refine MA.mono ?_
    rintro e w1 ⟨rfl, b1⟩
    clear MA
    go_wp2_with fail
    go_ret2
    exact ⟨_, rfl, World.ownsRow_nil _ _ _ _, b1⟩
end Go.Proofs.YtofclflcicjlaaaGreat
