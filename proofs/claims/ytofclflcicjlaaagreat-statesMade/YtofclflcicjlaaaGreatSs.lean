/-
  The sources of all classes, each row sorted.
-/
import Derived.Test.YtofclflcicjlaaaGreatSo
import Derived.Test.YtofclflcicjlaaaGreatWp
import Derived.WalkKit
import Derived.ProofKit
import Derived.OpenShut
import Derived.Deep.QuietTactic
import Derived.Deep.RegionWith
import Derived.Deep.RegionHeld3
import Derived.OwnWalk
import Derived.ChangeOld
import Derived.Below
import Derived.BigQuiet
import Derived.Deep.RegionLaw
import Derived.ArgAppend
import Derived.Deep.AppendLies
namespace Go.Proofs.YtofclflcicjlaaaGreat
set_option maxRecDepth 100000
open Go.ChangeShapes Go.WideShapes Go.ChangeAt Go.RowKit
open Go.ChangeMaps (open_string shut_string)
set_option linter.unusedVariables false
theorem info107 : (Tryz.prog.info? 107).map (fun i => (i.zero, i.size, i.bytes)) = some (some (.slice none 0 0), 1, 24) := by kernel_rfl
theorem info109 : (Tryz.prog.info? 109).map (fun i => (i.zero, i.size, i.bytes)) = some (some (.agg #[.int .i64 0, .int .i64 0, .int .i64 0, .int .i64 0]), 4, 32) := by kernel_rfl
theorem make59 (W : World) : (Instr.makeSlice 54 (.int .i64 65) (.int .i64 65)).run Tryz.prog W = .ok (.slice (some ⟨W.heap.size, 0, none⟩) 65 65) (W.alloc (.cells (madeCells #[.slice none 0 0] 65) 107)) :=
  run_make_row' 54 107 (.slice none 0 0) 24 Tryz.underlying54 info107 rfl .i64 .i64 65 (by omega) (by omega) W
theorem made_nil : (madeCells #[Value.slice none 0 0] 65).toList = List.replicate 65 (Value.slice none 0 0) := by
  apply List.ext_getElem?
  intro i
  simp only [madeCells, Array.toList_map, Array.toList_range, List.getElem?_map, List.getElem?_replicate]
  by_cases h : i < 65
  · simp [h, Nat.mod_one]
  · simp [h]
/-- The rows of all classes, in one. -/
def Fam (S0 : Nat) (W : World) (B : Nat) (vs : List Value) (xs : Nat → List Src) : Prop :=
  W.ownsRow 0 107 1 (.slice (some ⟨B, 0, none⟩) 65 65) 65 vs ∧ S0 ≤ B ∧ (∀ (c : Nat) (v : Value), vs[c]? = some v → W.ownsRow 0 109 4 v (xs c).length (ens (xs c)) ∧ From S0 v ∧ v.ownBlock ≠ some B) ∧ ∀ (c d : Nat) (v u : Value), c ≠ d → vs[c]? = some v → vs[d]? = some u → Dj v u
theorem fam_later {S0 B : Nat} {W W' : World} {vs : List Value} {xs : Nat → List Src} (h : Fam S0 W B vs xs) (b : Below W.heap.size W W') : Fam S0 W' B vs xs :=
  ⟨own_later h.1 b, h.2.1, fun c v hv => ⟨own_later (h.2.2.1 c v hv).1 b, (h.2.2.1 c v hv).2⟩, h.2.2.2⟩
theorem fam_len {S0 B : Nat} {W : World} {vs : List Value} {xs : Nat → List Src} (h : Fam S0 W B vs xs) : vs.length = 65 := by have := h.1.1; omega
theorem fam_push {S0 B c : Nat} {W W1 W2 : World} {vs : List Value} {xs : Nat → List Src} {v v2 : Value} {x : Src} (h : Fam S0 W B vs xs) (hc : vs[c]? = some v) (hS : S0 ≤ W.heap.size) (b : Below W.heap.size W W1) (o : W2.ownsRow 0 109 4 v2 ((xs c).length + 1) (ens (xs c) ++ enS x)) (g : W1.grownBy W2 v.ownBlock) (m : Moved W1 v v2) :
    Fam S0 (W2.setCell ⟨B, c, none⟩ v2) B (vs.set c v2) (fun d => if d = c then xs c ++ [x] else xs d) ∧ Below S0 W (W2.setCell ⟨B, c, none⟩ v2) := by
  obtain ⟨h1, h2, h3, h4⟩ := fam_later h b
  obtain ⟨c1, c2, c3⟩ := h3 c v hc
  have hlen : c < vs.length := (List.getElem?_eq_some_iff.1 hc).1
  have hB : B < W1.heap.size := (h1.lt B rfl).2
  have n2 : ∀ q, v2.ownBlock = some q → q ≠ B := fun q hq e => by
    rcases m q hq with r | r
    · exact c3 (by rw [r, e])
    · omega
  have o1 := own_keepG (u := .slice (some ⟨B, 0, none⟩) 65 65) g (fun q hq e => c3 (by rw [e]; exact hq.symm)) h1
  have z := chg_set (S := (· = B)) (chg_refl _ W2) ⟨B, c, none⟩ v2 (fun _ => rfl)
  refine ⟨⟨own_set o1 c v2, h2, fun d u hu => ?_, fun d e u t hde hu ht => ?_⟩, ?_⟩
  · by_cases hd : d = c
    · subst hd
      rw [List.getElem?_set_self hlen] at hu
      obtain rfl := Option.some.inj hu
      dsimp only
      rw [if_pos rfl, ens_snoc, List.length_append]
      exact ⟨own_kept o z (fun j hj e => n2 j hj e), from_moved c2 m (Nat.le_trans hS b.size), fun e => n2 B e rfl⟩
    · rw [List.getElem?_set_ne (Ne.symm hd)] at hu
      obtain ⟨d1, d2, d3⟩ := h3 d u hu
      dsimp only
      rw [if_neg hd]
      exact ⟨own_kept (own_keepG g (fun q hq e => h4 c d v u (Ne.symm hd) hc hu q e hq) d1) z (fun j hj e => d3 (by rw [hj, e])), d2, d3⟩
  · intro q hq hq2
    have hnew : ∀ d u, d ≠ c → vs[d]? = some u → ∀ q, v2.ownBlock = some q → u.ownBlock ≠ some q := fun d u hd hu q hq hq2 => by
      rcases m q hq with r | r
      · exact h4 c d v u (Ne.symm hd) hc hu q r hq2
      · have := ((h3 d u hu).1.lt q hq2).2; omega
    by_cases hd : d = c
    · subst hd
      rw [List.getElem?_set_self hlen] at hu
      obtain rfl := Option.some.inj hu
      rw [List.getElem?_set_ne hde] at ht
      exact hnew e t (Ne.symm hde) ht q hq hq2
    · rw [List.getElem?_set_ne (Ne.symm hd)] at hu
      by_cases he : e = c
      · subst he
        rw [List.getElem?_set_self hlen] at ht
        obtain rfl := Option.some.inj ht
        exact hnew d u hd hu q hq2 hq
      · rw [List.getElem?_set_ne (Ne.symm he)] at ht
        exact h4 d e u t hde hu ht q hq hq2
  · exact (below_grown (b.mono hS) g (Nat.le_trans hS b.size) (fun j hj => c2 j hj)).setCell (p := ⟨B, c, none⟩) h2 _
theorem four_new (w : World) (x y z t : Value) (ty : TypeId) : ∀ j u, [x, y, z, t][j]? = some u → (w.alloc (.cells #[x, y, z, t] ty)).cell? ((⟨w.heap.size, 0, none⟩ : Addr).add j) = some u := by
  intro j u hj
  rw [Addr.add_lit, blk_cell (blk_new w #[x, y, z, t] ty), ← hj]
  simp
/-! ### what is read of them -/
def RS (W : World) (v : Value) (d : List Src) : Prop :=
  (v = .slice none 0 0 ∧ d = []) ∨ ∃ b cap, v = .slice (some ⟨b, 0, none⟩) (d.length : Nat) cap ∧ b < W.heap.size ∧ Go.Sort.HoldsK enS 4 W b 0 d.toArray
theorem rs_own {W : World} {v : Value} {d : List Src} (h : W.ownsRow 0 109 4 v d.length (ens d)) : RS W v d := by
  rcases h.2 with ⟨h1, h2⟩ | ⟨b, cap, cur, rfl, -, hg, -⟩
  · exact .inl ⟨h1, List.eq_nil_of_length_eq_zero h2⟩
  · exact .inr ⟨b, cap, rfl, (Array.getElem?_eq_some_iff.1 hg).1, holds_own h⟩
theorem holds_kept {W W' : World} {S : Nat → Prop} {b : Nat} {d : Array Src} (h : Go.Sort.HoldsK enS 4 W b 0 d) (hb : b < W.heap.size) (g : Chg S W W') (hS : ¬ S b) : Go.Sort.HoldsK enS 4 W' b 0 d := by
  intro j hj
  obtain ⟨h1, h2⟩ := h j hj
  have e := g.2.2.2.2 b hb hS
  refine ⟨?_, ?_⟩
  · rw [← h1]; simp only [World.cell?, e]
  · rw [← h2]; simp only [World.frozen?, e]
theorem rs_kept {W W' : World} {S : Nat → Prop} {v : Value} {d : List Src} (h : RS W v d) (g : Chg S W W') (hS : ∀ j, v.ownBlock = some j → ¬ S j) : RS W' v d := by
  rcases h with h | ⟨b, cap, rfl, hb, hh⟩
  · exact .inl h
  · exact .inr ⟨b, cap, rfl, Nat.lt_of_lt_of_le hb (chg_size g), holds_kept hh hb g (hS b rfl)⟩
def SO (W : World) (B : Nat) (k : Nat) (L cs : List Nat) : Prop :=
  ∃ (vs : List Value) (D : Nat → List Src), B < W.heap.size ∧ vs.length = 65 ∧ ∀ (c : Nat) (v : Value), vs[c]? = some v → W.cell? ⟨B, c, none⟩ = some v ∧ RS W v (D c) ∧ Sr k L cs c (D c) ∧ Asc (D c) ∧ (D c).length ≤ 100000
theorem so_later {W W' : World} {B k : Nat} {L cs : List Nat} (h : SO W B k L cs) (b : Below W.heap.size W W') : SO W' B k L cs := by
  obtain ⟨vs, D, hB, hl, hr⟩ := h
  refine ⟨vs, D, Nat.lt_of_lt_of_le hB b.size, hl, fun c v hv => ?_⟩
  obtain ⟨r1, r2, r3⟩ := hr c v hv
  refine ⟨(b.cell (p := ⟨B, c, none⟩) hB).trans r1, ?_, r3⟩
  rcases r2 with h | ⟨q, cap, rfl, hq, hh⟩
  · exact .inl h
  · refine .inr ⟨q, cap, rfl, Nat.lt_of_lt_of_le hq b.size, fun j hj => ?_⟩
    obtain ⟨h1, h2⟩ := hh j hj
    exact ⟨(b.cell (p := ⟨q, 0 + j, none⟩) hq).trans h1, (b.frozen (p := ⟨q, 0 + j, none⟩) hq).trans h2⟩
/-! ### the call -/
def S1 (k : Nat) (L cs : List Nat) (S0 B : Nat) (w : World) (iv : Value) (wr : World) : Prop :=
  ∃ (m : Nat) (vs : List Value), m ≤ 2 ^ k ∧ iv = .int .i64 m ∧ Fam S0 wr B vs (fun c => rowS k L cs c m) ∧ Below S0 w wr
def S2 (k : Nat) (L cs : List Nat) (S0 B : Nat) (vs : List Value) (w : World) (iv : Value) (wr : World) : Prop :=
  ∃ (i : Nat) (D : Nat → List Src), i ≤ 65 ∧ iv = .int .i64 i ∧ B < wr.heap.size ∧ (∀ (c : Nat) (v : Value), vs[c]? = some v → wr.cell? ⟨B, c, none⟩ = some v ∧ RS wr v (D c) ∧ (D c).Perm (rowS k L cs c (2 ^ k)) ∧ (c < i → Asc (D c)) ∧ From S0 v ∧ v.ownBlock ≠ some B) ∧ Below S0 w wr
set_option maxRecDepth 100000 in
set_option maxHeartbeats 4000000 in
theorem sourcesOf_any (b cap base s : Nat) (k : Nat) (L cs : List Nat) (w : World) (hs : Spd k L cs) (he : 2 ^ k = s) (ho : w.ownsRow base 77 3 (.slice (some ⟨b, 0, none⟩) s cap) s (cvs (tab k L cs s))) :
    Calls Tryz.prog 17 #[.slice (some ⟨b, 0, none⟩) s cap] w fun e w' => ∃ B, e = .returned (.slice (some ⟨B, 0, none⟩) 65 65) ∧ SO w' B k L cs ∧ Below w.heap.size w w' := by
  have MK := make59
  have s4 : s ≤ 4096 := by rw [← he]; exact pow_bd k hs.k12
  have HO := Hid.intro ho
  have HS := Hid.intro hs
  obtain ⟨i91, hi, hz, hsz, hby⟩ := info_all info109
  clear ho hs
  go_enter Tryz.func17, Tryz.ntmps17
  go_wp2_with fail
  obtain ⟨B, hB⟩ : ∃ B, w.heap.size = B := ⟨_, rfl⟩
  rw [hB]
  have ST : Hid (S1 k L cs w.heap.size B w (.int .i64 0) (w.alloc (.cells (madeCells #[.slice none 0 0] 65) 107))) := by
    refine ⟨0, List.replicate 65 (.slice none 0 0), Nat.zero_le _, rfl, ⟨⟨rfl, .inr ⟨B, 65, _, rfl, Nat.zero_le _, by rw [← hB]; exact blk_new _ _ _, Nat.le_refl _, by decide, by simp [madeCells], by rw [made_nil]; rfl⟩⟩, by omega, fun c v hv => ?_, fun c d v u _ hv _ => ?_⟩, (Below.refl _ _).alloc (Nat.le_refl _) _⟩
    · obtain rfl := (List.mem_replicate.1 (List.mem_of_getElem? hv)).2
      exact ⟨World.ownsRow_nil _ _ _ _, fun q hq => by simp [Value.ownBlock] at hq, by simp [Value.ownBlock]⟩
    · obtain rfl := (List.mem_replicate.1 (List.mem_of_getElem? hv)).2
      exact fun q hq => by simp [Value.ownBlock] at hq
  generalize w.alloc (.cells (madeCells #[.slice none 0 0] 65) 107) = w1 at *
  clear MK
  go_loopw [11] (fun iv wr => S1 k L cs w.heap.size B w iv wr) (fun iv _ => 4097 - (intOf iv).toNat)
  case atStart => exact ST.out
  case round =>
    clear ST
    obtain ⟨m, vs, hm, rfl, d1, d2⟩ := hrel
    rw [he] at hm
    by_cases hlt : m < s
    · obtain ⟨c, bb, ee, hcel, hg, hc65, hbk, hee, -⟩ := cel_bd HS.out m (by rw [he]; exact hlt)
      have oc := own_below HO.out d2 (fun j hj => (HO.out.lt j hj).2)
      obtain ⟨x0, x1, x2⟩ := cv_cells oc m hlt
      rw [tab_get k L cs s m hlt, hcel] at x0 x1 x2
      simp only at x0 x1 x2
      obtain ⟨v, hv⟩ : ∃ v, vs[c]? = some v := ⟨_, List.getElem?_eq_getElem (by rw [fam_len d1]; exact hc65)⟩
      have NX : Hid ((fun d => if d = c then rowS k L cs c m ++ [(m, c, bb, ee)] else rowS k L cs d m) = fun d => rowS k L cs d (m + 1)) := by
        show _ = _
        funext d
        by_cases hd : d = c
        · subst hd; rw [if_pos rfl, rowS_yes k L cs d m hg, hcel]
        · rw [if_neg hd, rowS_no k L cs d m (fun e => hd (by rw [← e, hg]))]
      have RL : Hid ((rowS k L cs c m).length ≤ 4096) := Nat.le_trans (rowS_len k L cs c m) (by omega)
      have hmz : (m : Int) < (s : Int) := by omega
      have hcz : (c : Int) < 65 := by omega
      have hc0 : (0 : Int) ≤ (c : Int) := by omega
      have F1 := Hid.intro d1
      have D2 := Hid.intro d2
      have HV := Hid.intro hv
      have BL : Hid (B < wr.heap.size) := (d1.1.lt B rfl).2
      clear d1 d2 oc hcel hg hbk hee hv
      go_wp2_with fail
      have n0 := blk_new wr #[.int .i64 (c : Int), .int .i64 (bb : Int), .int .i64 (ee : Int)] 77
      have b1 : Below wr.heap.size wr (wr.alloc (.cells #[.int .i64 (c : Int), .int .i64 (bb : Int), .int .i64 (ee : Int)] 77)) := (Below.refl _ _).alloc (Nat.le_refl _) _
      generalize wr.alloc (.cells #[.int .i64 (c : Int), .int .i64 (bb : Int), .int .i64 (ee : Int)] 77) = w2 at *
      obtain ⟨A, hA⟩ : ∃ A, wr.heap.size = A := ⟨_, rfl⟩
      rw [hA] at n0 ⊢
      have F2 := Hid.intro (fam_later F1.out b1)
      have O2 := Hid.intro ((F2.out.2.2.1 c v HV.out).1)
      have y0 : w2.cell? ⟨A, 0, none⟩ = some (.int .i64 (c : Int)) := by rw [blk_cell n0]; rfl
      have y1 : w2.cell? ⟨A, 1, none⟩ = some (.int .i64 (bb : Int)) := by rw [blk_cell n0]; rfl
      have y2 : w2.cell? ⟨A, 2, none⟩ = some (.int .i64 (ee : Int)) := by rw [blk_cell n0]; rfl
      have y3 : ∀ o, (w2.alloc o).cell? ⟨A, 0, none⟩ = some (.int .i64 (c : Int)) := fun o => by rw [blk_cell (blk_alloc n0 o)]; rfl
      have z0 : w2.cell? ⟨B, c, none⟩ = some v := (own_there F2.out.1 c (by omega)).1.trans HV.out
      have z1 : ∀ o, (w2.alloc o).cell? ⟨B, c, none⟩ = some v := fun o => (own_there (World.ownsRow.alloc F2.out.1 o) c (by omega)).1.trans HV.out
      have N0 := Hid.intro n0
      have B1 := Hid.intro b1
      have HAlt : Hid (A < w2.heap.size) := blk_lt n0
      have HA := Hid.intro hA
      clear n0 b1 x0 x1 x2 hA
      go_region_law (refine step_pushT rfl (.tmp 23) (.tmp 27) 107 rfl 109 i91 (.agg #[.int .i64 0, .int .i64 0, .int .i64 0, .int .i64 0]) 4 32 Tryz.underlying107 hi hz hsz hby rfl (by decide) (by decide) v (rowS k L cs c m).length (ens (rowS k L cs c m)) rfl (World.ownsRow.alloc (own_drew O2.out) _) ⟨w2.heap.size, 0, none⟩ 1 1 [.int .i64 (m : Int), .int .i64 (c : Int), .int .i64 (bb : Int), .int .i64 (ee : Int)] rfl rfl (four_new _ _ _ _ _ _) (by intro u hu; simp at hu; rcases hu with rfl | rfl | rfl | rfl <;> rfl) (by have := RL.out; omega) ?_; intro v2 w3 g1 g2 g3; obtain ⟨q1, q2⟩ := fam_push (x := (m, c, bb, ee)) F2.out HV.out (Nat.le_trans D2.out.size B1.out.size) (((Below.refl _ _).alloc (Nat.le_refl _) _).drew) g1 g2 g3; have g4 := own_keepG (u := .slice (some ⟨B, 0, none⟩) 65 65) g2 (fun q hq e => (F2.out.2.2.1 c v HV.out).2.2 (by rw [e]; exact hq.symm)) (own_drew (World.ownsRow.alloc F2.out.1 _)); have g5 : w3.cell? ⟨B, c, none⟩ = some v := ((own_there g4 c (by omega)).1.trans HV.out); have g6 := (own_there g4 c (by omega)).2.2; have g7 := blk_grown (blk_drew (blk_alloc N0.out _)) g2 (fun e => by have := ((F1.out.2.2.1 c v HV.out).1.lt A e.symm).2; have := HA.out; omega); have g8 := blk_cell g7 0; have Q1 := Hid.intro q1; have Q2 := Hid.intro q2; obtain ⟨vb, vc, rfl⟩ := own_slice g1 (Nat.succ_pos _); clear g1 g2 g3 g4 g7 q1 q2)
      all_goals
        go_wp2_with fail
        go_roundw
        case rel =>
          refine ⟨m + 1, vs.set c (.slice (some ⟨vb, 0, none⟩) ((rowS k L cs c m).length + 1) vc), by rw [he]; omega, by go_num, ?_, D2.out.trans ((B1.out.mono D2.out.size).trans Q2.out)⟩
          rw [← NX.out]
          exact Q1.out
        case measure => simp [intOf]; omega
    · obtain rfl : m = s := by omega
      have hvl := fam_len d1
      have ST2 : Hid (S2 k L cs w.heap.size B vs w (.int .i64 0) wr) := by
        refine ⟨0, fun c => rowS k L cs c (2 ^ k), Nat.zero_le _, rfl, (d1.1.lt B rfl).2, fun c v hv => ?_, d2⟩
        obtain ⟨r1, r2, r3⟩ := d1.2.2.1 c v hv
        have hc := (List.getElem?_eq_some_iff.1 hv).1
        refine ⟨(own_there d1.1 c (by omega)).1.trans hv, ?_, List.Perm.refl _, fun e => absurd e (Nat.not_lt_zero _), r2, r3⟩
        rw [he]; exact rs_own r1
      have DJ : Hid (∀ (c d : Nat) (v u : Value), c ≠ d → vs[c]? = some v → vs[d]? = some u → Dj v u) := d1.2.2.2
      have HVL := Hid.intro hvl
      clear d1 d2 hlt hvl
      go_wp2_with fail
      have hd0 : decide ((m : Int) < (m : Int)) = false := by simp
      try simp only [hd0]
      clear hd0
      generalize hw6 : wr = w6 at *
      clear hw6
      go_loopw [33] (fun iv wq => S2 k L cs w.heap.size B vs w iv wq) (fun iv _ => 66 - (intOf iv).toNat)
      case atStart => exact ST2.out
      case round =>
        clear ST2
        obtain ⟨i, D, hi65, rfl, hBl, hr, d2⟩ := hrel
        have HR := Hid.intro hr
        have D2 := Hid.intro d2
        have HBl := Hid.intro hBl
        clear hr d2 hBl
        by_cases hlt : i < 65
        · obtain ⟨v, hv⟩ : ∃ v, vs[i]? = some v := ⟨_, List.getElem?_eq_getElem (by rw [HVL.out]; exact hlt)⟩
          obtain ⟨r1, r2, r3, r4, r5, r6⟩ := HR.out i v hv
          have hlz : (i : Int) < 65 := by omega
          have hl0 : (0 : Int) ≤ (i : Int) := by omega
          rcases r2 with ⟨rfl, hnil⟩ | ⟨b', cap', rfl, hb', hh⟩
          · have SN := sort_none none 0 wr
            have HN := Hid.intro hnil
            clear hv r3 r4 r5 r6 hnil
            go_wp2_with fail
            with_reducible refine SN.mono ?_
            rintro e w7 ⟨rfl, rfl⟩
            clear SN
            go_wp2_with fail
            go_roundw
            case rel =>
              refine ⟨i + 1, D, by omega, by go_num, HBl.out, fun c v hv => ?_, D2.out⟩
              obtain ⟨s1, s2, s3, s4, s5⟩ := HR.out c v hv
              refine ⟨s1, s2, s3, fun hc => ?_, s5⟩
              by_cases e : c = i
              · rw [e, HN.out]; exact List.Pairwise.nil
              · exact s4 (by omega)
            case measure => simp [intOf]; omega
          · have dl : (D i).length ≤ 100000 := by have := r3.length_eq; have := rowS_len k L cs i (2 ^ k); omega
            have SA := sort_any b' cap' (D i) wr hh hb' dl
            have HV := Hid.intro hv
            have R3 := Hid.intro r3
            have R5 := Hid.intro r5
            have R6 := Hid.intro r6
            have HB' := Hid.intro hb'
            clear hv r3 r4 r5 r6 hh dl hb'
            generalize hdn : (D i).length = dn at *
            have HDN := Hid.intro hdn
            clear hdn
            go_wp2_with fail
            with_reducible refine SA.mono ?_
            rintro e w7 ⟨rfl, d', p1, p2, p3, p4⟩
            have P1 := Hid.intro p1
            have P2 := Hid.intro p2
            have P3 := Hid.intro p3
            have P4 := Hid.intro p4
            clear SA p1 p2 p3 p4
            go_wp2_with fail
            go_roundw
            case rel =>
              have hbn : b' ≠ B := fun e => R6.out (by rw [e]; rfl)
              refine ⟨i + 1, fun c => if c = i then d' else D c, by omega, by go_num, Nat.lt_of_lt_of_le HBl.out (chg_size P4.out), fun c v hv => ?_, below_one D2.out P4.out (R5.out b' rfl)⟩
              obtain ⟨s1, s2, s3, s4, s5⟩ := HR.out c v hv
              have c1 : w7.cell? ⟨B, c, none⟩ = some v := by
                rw [← s1]
                have := P4.out.2.2.2.2 B HBl.out (fun e => hbn e.symm)
                simp only [World.cell?, this]
              by_cases e : c = i
              · subst e
                dsimp only
                rw [if_pos rfl]
                have hve := hv.symm.trans HV.out
                obtain rfl := Option.some.inj hve
                refine ⟨c1, .inr ⟨b', cap', ?_, Nat.lt_of_lt_of_le HB'.out (chg_size P4.out), P3.out⟩, P1.out.trans s3, fun _ => P2.out, s5⟩
                rw [P1.out.length_eq, HDN.out]
              · dsimp only
                rw [if_neg e]
                exact ⟨c1, rs_kept s2 P4.out (fun j hj ej => DJ.out c i _ _ e hv HV.out j hj (by subst ej; rfl)), s3, fun hc => s4 (by omega), s5⟩
            case measure => simp [intOf]; omega
        · obtain rfl : i = 65 := by omega
          have FIN : Hid (SO wr B k L cs) := by
            refine ⟨vs, D, HBl.out, HVL.out, fun c v hv => ?_⟩
            obtain ⟨s1, s2, s3, s4, s5⟩ := HR.out c v hv
            have hc := (List.getElem?_eq_some_iff.1 hv).1
            have := s3.length_eq
            have := rowS_len k L cs c (2 ^ k)
            exact ⟨s1, s2, sr_perm s3 (rowS_sr k L cs c), s4 (by have := HVL.out; omega), by omega⟩
          go_wp2_with fail
          go_ret
          exact ⟨B, rfl, FIN.out, D2.out⟩
end Go.Proofs.YtofclflcicjlaaaGreat
