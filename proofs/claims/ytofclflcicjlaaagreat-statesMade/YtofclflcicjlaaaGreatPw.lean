/-
  Laid ahead (scratch seat, in no claim): the reference's PutStates gives the document's bytes by states, or its errors.
-/
import Derived.Test.YtofclflcicjlaaaGreatSw
import Derived.Test.YtofclflcicjlaaaGreatRt
import Derived.Test.YtofclflcicjlaaaGreatSc
import Derived.Test.YtofclflcicjlaaaGreatPuh
import Derived.Test.YtofclflcicjlaaaGreatRpyh
import Derived.Test.YtofclflcicjlaaaGreatRefSb
import Derived.Test.YtofclflcicjlaaaGreatRefBvw
import Derived.Deep.QuietTactic
import Derived.Deep.RegionWith
import Derived.Deep.RegionHeld3
import Derived.OwnWalk
import Derived.ChangeOld
import Derived.Below
import Derived.BigQuiet
namespace Go.Proofs.YtofclflcicjlaaaGreat
open Go.ChangeShapes Go.WideShapes Go.ChangeAt Go.RowKit
open Go.ChangeMaps (open_string shut_string)
set_option linter.unusedVariables false
def okPS (L : List Nat) (p : Int × Int) : Bool := jok p.1 p.2 && decide (0 < g L p.1.toNat)
def toNP (p : Int × Int) : Nat × Nat := (p.1.toNat, p.2.toNat)
/-- The document's Put of parts by states: the error, the bytes. -/
def putS (f : List Int) (z : Int) (ps : List (Int × Int)) : Nat × List UInt8 :=
  if may z f then (if ps.all (okPS (f.map Int.toNat)) then (0, putB z.toNat (f.map Int.toNat) (spr z.toNat (f.map Int.toNat)) (ps.map toNP)) else (1, [])) else (3, [])
theorem okPS_is {L : List Nat} {c r : Int} (hr : 0 ≤ r) (h : okPS L (c, r) = true) : ∃ k q : Nat, c = (k : Int) ∧ r = (q : Int) ∧ k < 65 ∧ 0 < g L k ∧ q < 2 ^ (k - 1) ∧ (k = 0 → q = 0) := by
  unfold okPS at h
  rw [Bool.and_eq_true, decide_eq_true_eq] at h
  obtain ⟨h1, h2⟩ := h
  by_cases h0 : c < 0 ∨ 64 < c
  · rw [jokOut c r h0] at h1; cases h1
  · obtain ⟨q, rfl⟩ : ∃ q : Nat, r = (q : Int) := ⟨r.toNat, by omega⟩
    obtain ⟨k, rfl⟩ : ∃ k : Nat, c = (k : Int) := ⟨c.toNat, by omega⟩
    refine ⟨k, q, rfl, rfl, by omega, by simpa using h2, ?_, ?_⟩
    · by_cases hk : k < 2
      · rw [jokLow (k : Int) (q : Int) (by omega) (by omega) hr] at h1
        have : q = 0 := by simpa using h1
        rw [this]; exact Nat.two_pow_pos _
      · rw [jokHigh (k : Int) (q : Int) (by omega) (by omega) hr] at h1
        have h3 : (q : Int) / 2 ^ (k - 1) = 0 := by simpa using h1
        have h4 : ((q / 2 ^ (k - 1) : Nat) : Int) = 0 := by rw [Int.natCast_ediv, Int.natCast_pow]; exact h3
        have h5 : q / 2 ^ (k - 1) = 0 := by omega
        rcases Nat.lt_or_ge q (2 ^ (k - 1)) with e | e
        · exact e
        · have := Nat.div_pos e (Nat.two_pow_pos (k - 1)); omega
    · intro hk
      subst hk
      have h1' : jok 0 (q : Int) = true := h1
      rw [jokLow 0 (q : Int) (by omega) (by omega) hr] at h1'
      simpa using h1'
/-! ### rows of numbers of 64 bits -/
def uvs (l : List Nat) : List Value := l.map (fun (n : Nat) => Value.int .u64 (n : Int))
theorem uvs_snoc (l : List Nat) (x : Nat) : uvs l ++ [.int .u64 (x : Int)] = uvs (l ++ [x]) := by simp [uvs]
theorem uvs_len (l : List Nat) : (uvs l).length = l.length := by simp [uvs]
theorem uvs_get (l : List Nat) (i : Nat) (h : i < l.length) : (uvs l)[i]? = some (.int .u64 ((l.getD i 0 : Nat) : Int)) := by
  rw [List.getD_eq_getElem?_getD]; simp [uvs, h]
theorem info64 : (Tryz.prog.info? 64).map (fun i => (i.zero, i.size, i.bytes)) = some (some (.int .u64 0), 1, 8) := by kernel_rfl
theorem rest_small {L : List Nat} {ps : List (Int × Int)} (hf : ∀ p ∈ ps, 0 ≤ p.2 ∧ p.2 ≤ 18446744073709551615) : ∀ i, i ≤ ps.length → (ps.take i).all (okPS L) = true → szs (vK (rstV (ps.map toNP))) i ≤ 64 * i := by
  intro i
  induction i with
  | zero => intro _ _; simp [szs]
  | succ i ih =>
    intro hi h
    rw [take_snoc ps i (by omega), List.all_append, Bool.and_eq_true] at h
    have := ih (by omega) h.1
    obtain ⟨-, q2⟩ := rst_at (ps.map toNP) i (by rw [List.length_map]; omega)
    rw [List.getD_eq_getElem?_getD, List.getElem?_map, List.getElem?_eq_getElem (by omega)] at q2
    have hm := List.getElem_mem (l := ps) (n := i) (by omega)
    have hk := h.2
    simp only [List.all_cons, List.all_nil, Bool.and_true] at hk
    generalize ps[i] = p at *
    obtain ⟨c, r⟩ := p
    obtain ⟨k, q, e1, -, hk65, -⟩ := okPS_is (hf _ hm).1 hk
    subst e1
    rw [szs, q2]
    show _ + ((k : Int).toNat - 1) ≤ _
    omega
def Rt1 (L : List Nat) (ps : List (Int × Int)) (A : Nat) (w1 : World) (iv : Value) (wr : World) : Prop :=
  ∃ (i : Nat) (v : Value), i ≤ ps.length ∧ iv = .int .i64 i ∧ (ps.take i).all (okPS L) = true ∧ Ro wr A v (szs (vK (rstV (ps.map toNP))) i) (num (vX (rstV (ps.map toNP))) (vK (rstV (ps.map toNP))) i) ∧ Up w1.heap.size A v ∧ Below w1.heap.size w1 wr
/-! ### the two rows of what is put -/
def Dj (v u : Value) : Prop := ∀ q, v.ownBlock = some q → u.ownBlock ≠ some q
def VL (wr : World) (B : Nat) (vv lv : Value) (V : List (Nat × Nat)) : Prop :=
  wr.ownsRow 0 64 1 vv V.length (uvs (V.map Prod.fst)) ∧ wr.ownsRow 0 3 1 lv V.length (nis (V.map Prod.snd)) ∧ From B vv ∧ From B lv ∧ Dj vv lv
theorem vl_later {wr w' : World} {B : Nat} {vv lv : Value} {V : List (Nat × Nat)} (h : VL wr B vv lv V) (g : Below wr.heap.size wr w') : VL w' B vv lv V :=
  ⟨own_later h.1 g, own_later h.2.1 g, h.2.2⟩
theorem vl_nil (wr : World) (B : Nat) : VL wr B (.slice none 0 0) (.slice none 0 0) [] :=
  ⟨World.ownsRow_nil _ _ _ _, World.ownsRow_nil _ _ _ _, fun q hq => by simp [Value.ownBlock] at hq, fun q hq => by simp [Value.ownBlock] at hq, fun q hq => by simp [Value.ownBlock] at hq⟩
/-- One number more in the first row. -/
theorem vl_one {wr w1 w2 : World} {B x : Nat} {vv lv v2 : Value} {V : List (Nat × Nat)} (h : VL wr B vv lv V) (hB : B ≤ wr.heap.size) (b : Below wr.heap.size wr w1) (g1 : w2.ownsRow 0 64 1 v2 (V.length + 1) (uvs (V.map Prod.fst) ++ [.int .u64 (x : Int)])) (g2 : w1.grownBy w2 vv.ownBlock) (g3 : Moved w1 vv v2) :
    w2.ownsRow 0 64 1 v2 (V.length + 1) (uvs (V.map Prod.fst ++ [x])) ∧ w2.ownsRow 0 3 1 lv V.length (nis (V.map Prod.snd)) ∧ From B v2 ∧ Dj v2 lv ∧ Below B w1 w2 := by
  obtain ⟨h1, h2, h3, h4, h5⟩ := h
  have k2 := own_later h2 b
  refine ⟨by rw [uvs_snoc] at g1; exact g1, own_kept (S := fun j => some j = vv.ownBlock) k2 (chg_grown (chg_refl _ _) g2 (fun j hj _ => hj.symm)) (fun j hj e => h5 j e.symm hj), from_moved h3 g3 (Nat.le_trans hB b.size), fun q hq e => ?_, below_grown (Below.refl _ _) g2 (Nat.le_trans hB b.size) (fun j hj => h3 j hj)⟩
  rcases g3 q hq with d | d
  · exact h5 q d e
  · have := (k2.lt q e).2; omega
/-- And one in the second. -/
theorem vl_two {w2 w3 w4 : World} {B x y n : Nat} {vs ls : List Nat} {v2 lv l2 : Value} (o1 : w2.ownsRow 0 64 1 v2 (n + 1) (uvs (vs ++ [x]))) (o2 : w2.ownsRow 0 3 1 lv n (nis ls)) (f1 : From B v2) (f2 : From B lv) (d : Dj v2 lv) (hB : B ≤ w2.heap.size) (b : Below w2.heap.size w2 w3)
    (g1 : w4.ownsRow 0 3 1 l2 (n + 1) (nis ls ++ [.int .i64 (y : Int)])) (g2 : w3.grownBy w4 lv.ownBlock) (g3 : Moved w3 lv l2) :
    w4.ownsRow 0 64 1 v2 (n + 1) (uvs (vs ++ [x])) ∧ w4.ownsRow 0 3 1 l2 (n + 1) (nis (ls ++ [y])) ∧ From B l2 ∧ Dj v2 l2 ∧ Below B w3 w4 := by
  have k1 := own_later o1 b
  refine ⟨own_kept (S := fun j => some j = lv.ownBlock) k1 (chg_grown (chg_refl _ _) g2 (fun j hj _ => hj.symm)) (fun j hj e => d j hj e.symm), by rw [nis_snoc] at g1; exact g1, from_moved f2 g3 (Nat.le_trans hB b.size), fun q hq e => ?_, below_grown (Below.refl _ _) g2 (Nat.le_trans hB b.size) (fun j hj => f2 j hj)⟩
  rcases g3 q e with h | h
  · exact d q hq h
  · have := (k1.lt q hq).2; omega
def R2 (k : Nat) (L cs : List Nat) (P : List (Nat × Nat)) (w6 : World) (vv lv sv iv : Value) (wr : World) : Prop :=
  ∃ (j : Nat) (z : Int), j ≤ P.length ∧ iv = .int .i64 z ∧ z + 1 = (j : Int) ∧ sv = .int .i64 (sts k L cs ((P.drop j).map Prod.fst) : Nat) ∧ VL wr w6.heap.size vv lv (vls k L cs ((P.drop j).map Prod.fst)) ∧ Below w6.heap.size w6 wr
def R3 (p B : Nat) (V : List (Nat × Nat)) (w6 : World) (st : Nat) (vv lv sv cv : Value) (wr : World) : Prop :=
  ∃ c : Nat, c ≤ p ∧ sv = .int .i64 (st : Int) ∧ cv = .int .i64 c ∧ VL wr B vv lv V ∧ Below w6.heap.size w6 wr
theorem w64_in (n : Int) (h : -9223372036854775808 ≤ n ∧ n ≤ 9223372036854775807) : wrap64 n = n := by unfold wrap64; omega
theorem sh_test (st ee bb : Nat) (pb : 2 ^ bb ≤ 4096) (he : ee ≤ 4096) : decide ((st : Int) < wrap64 ((ee : Int) + wrap64 ((2 : Int) ^ bb))) = decide (st < ee + 2 ^ bb) := by
  have e : ((2 : Int) ^ bb) = ((2 ^ bb : Nat) : Int) := by rw [Int.natCast_pow]; rfl
  rw [e]
  generalize 2 ^ bb = n at *
  rw [w64_in (n : Int) (by omega), w64_in _ (by omega)]
  by_cases h : st < ee + n
  · rw [decide_eq_true h, decide_eq_true (by omega)]
  · rw [decide_eq_false h, decide_eq_false (by omega)]
theorem vX_map (V : List (Nat × Nat)) (i : Nat) : (V.map Prod.fst).getD i 0 = vX V i := by
  unfold vX; rw [List.getD_eq_getElem?_getD, List.getD_eq_getElem?_getD, List.getElem?_map]; cases V[i]? <;> rfl
theorem vK_map (V : List (Nat × Nat)) (i : Nat) : (V.map Prod.snd).getD i 0 = vK V i := by
  unfold vK; rw [List.getD_eq_getElem?_getD, List.getD_eq_getElem?_getD, List.getElem?_map]; cases V[i]? <;> rfl
theorem us_own {w : World} {b n cap : Nat} {V : List (Nat × Nat)} (h : w.ownsRow 0 64 1 (.slice (some ⟨b, 0, none⟩) n cap) n (uvs (V.map Prod.fst))) (hl : V.length = n) (hb : ∀ i, vX V i < 18446744073709551616) : Us w (some ⟨b, 0, none⟩) n (vX V) := fun _ =>
  ⟨_, rfl, fun i hi => ⟨by rw [Addr.add_lit, Nat.zero_add, (own_there h i (by omega)).1, uvs_get _ i (by rw [List.length_map]; omega), vX_map], hb i⟩⟩
theorem nis_get2 (l : List Nat) (i : Nat) (h : i < l.length) : (nis l)[i]? = some (.int .i64 ((l.getD i 0 : Nat) : Int)) := by
  rw [List.getD_eq_getElem?_getD]; simp [nis, ivs, iv, h]
theorem ls_own {w : World} {b n cap : Nat} {V : List (Nat × Nat)} (h : w.ownsRow 0 3 1 (.slice (some ⟨b, 0, none⟩) n cap) n (nis (V.map Prod.snd))) (hl : V.length = n) (hb : ∀ i, vK V i ≤ 64) : Ls w (some ⟨b, 0, none⟩) n (fun i => (vK V i : Int)) := fun _ =>
  ⟨_, rfl, fun i hi => ⟨by rw [Addr.add_lit, Nat.zero_add, (own_there h i (by omega)).1, nis_get2 _ i (by rw [List.length_map]; omega), vK_map], by have := hb i; show _ ≤ (vK V i : Int); omega, by have := hb i; show (vK V i : Int) ≤ _; omega⟩⟩
theorem all_bdi {k : Nat} {L cs : List Nat} (h : Spd k L cs) (l : List Nat) (hl : ∀ c ∈ l, 0 < g L c) (i : Nat) : vX (allV k L cs l) i < 2 ^ k ∧ vK (allV k L cs l) i ≤ k := by
  unfold vX vK
  rw [List.getD_eq_getElem?_getD]
  cases hv : (allV k L cs l)[i]? with
  | none => exact ⟨Nat.two_pow_pos k, Nat.zero_le _⟩
  | some v =>
    have hm := List.mem_of_getElem? hv
    unfold allV at hm
    rcases List.mem_append.1 hm with e | e
    · obtain ⟨h1, h2⟩ := vls_bd h l hl v e
      exact ⟨Nat.lt_of_lt_of_le h1 (Nat.pow_le_pow_right (by decide) h2), h2⟩
    · rw [List.mem_singleton] at e
      subst e
      exact ⟨sts_lt h l hl, Nat.le_refl _⟩
theorem grown_blk {W W1 : World} {v : Value} {A : Nat} {cs : Array Value} {t : TypeId} (h : Blk W A cs t) (g : W.grownBy W1 v.ownBlock) (hne : ∀ q, v.ownBlock = some q → q ≠ A) : Blk W1 A cs t :=
  blk_kept (S := fun j => some j = v.ownBlock) h (chg_grown (chg_refl _ _) g (fun j hj _ => hj.symm)) (fun e => hne A e.symm rfl)
theorem vl_set {w : World} {B d b : Nat} {v l : Value} {V : List (Nat × Nat)} (h1 : w.ownsRow 0 64 1 v (V.length + 1) (uvs (V.map Prod.fst ++ [d]))) (h2 : w.ownsRow 0 3 1 l (V.length + 1) (nis (V.map Prod.snd ++ [b]))) (h3 : From B v) (h4 : From B l) (h5 : Dj v l) : VL w B v l (V ++ [(d, b)]) := by
  unfold VL
  rw [List.map_append, List.map_append, List.length_append]
  exact ⟨h1, h2, h3, h4, h5⟩
set_option maxHeartbeats 8000000 in
set_option maxRecDepth 100000 in
theorem rputs_any (al : Option Addr) (nl capl : Nat) (ps : List (Int × Int)) (a : Option Addr) (n0 cap : Nat) (f : List Int) (z : Int) (w : World) (hp : RP w al nl ps) (hf : ∀ p ∈ ps, 0 ≤ p.2 ∧ p.2 ≤ 18446744073709551615) (hnl : nl ≤ 900) (h : RI w a n0 f) (hn0 : n0 ≤ 1000) :
    Calls Tryz.prog 7 #[.slice al nl capl, .slice a n0 cap, .int .i64 z] w fun e w' => e = .returned (.agg #[.string (bs (putS f z ps).2), .int .i64 ((putS f z ps).1 : Nat)]) ∧ Below w.heap.size w w' := by
  have b1 : Below w.heap.size w (w.alloc (.cells #[.string ⟨#[]⟩, .int .i64 0] 29)) := (Below.refl _ _).alloc (Nat.le_refl _) _
  have bk := blk_new w #[.string ⟨#[]⟩, .int .i64 0] 29
  have sz1 : (w.alloc (.cells #[.string ⟨#[]⟩, .int .i64 0] 29)).heap.size = w.heap.size + 1 := by simp
  have RT := rtable_any a n0 cap f z _ (ri_below h b1) hn0
  by_cases hm : may z f = true
  · obtain ⟨k, L, rfl, rfl, e3, e4, sp⟩ := may_spd hm
    have GN : Unit → ps.all (okPS L) = false → putS (L.map Int.ofNat) k ps = (1, []) := fun _ q => by unfold putS; rw [if_pos hm, e4, if_neg (by rw [q]; decide)]
    have GY : Unit → ps.all (okPS L) = true → putS (L.map Int.ofNat) k ps = (0, putB k L (spr k L) (ps.map toNP)) := fun _ q => by unfold putS; rw [if_pos hm, e3, e4, if_pos q]
    rw [tabA_yes hm, e3, e4] at RT
    have hn65 : n0 = 65 := by rw [← ri_len h, List.length_map, sp.len]
    subst hn65
    obtain ⟨s, hs2, hs8, es, -, -, -, sl, su, -, -⟩ := stp_eq k sp.k7 sp.k12
    have HRI := Hid.intro h
    have HSP := Hid.intro sp
    have K12 := sp.k12
    generalize putS (L.map Int.ofNat) k ps = gg at *
    obtain ⟨i5, hi5, hz5, hs5, hb5⟩ := info_all info64
    obtain ⟨i3, hi3, hz3, hs3, hb3⟩ := info_all info3
    have HX : Hid (0 < nl → ∃ x, al = some x ∧ ∀ i (h : i < ps.length), w.cell? (x.add (i * 2)) = some (.int .i64 ps[i].1) ∧ w.cell? (x.add (i * 2 + 1)) = some (.int .u64 ps[i].2)) := hp.2
    have HN : Hid (ps.length = nl) := hp.1
    have HF := Hid.intro hf
    have B1 := Hid.intro b1
    have BK := Hid.intro bk
    have SZ1 := Hid.intro sz1
    obtain ⟨cs, hcs⟩ : ∃ cs, spr k L = cs := ⟨_, rfl⟩
    rw [hcs] at HSP RT GY
    clear h hm hp hf b1 bk sz1 e3 e4 sp hcs
    go_enter Tryz.func7, Tryz.ntmps7
    go_wp2_with fail
    with_reducible refine RT.mono ?_
    rintro e w2 ⟨v, rfl, k1, k2⟩
    simp only at k1
    rw [tab_len, es] at k1
    obtain ⟨b, cp, rfl⟩ := own_slice k1 (by omega)
    have c7 := blk_new w2 #[.slice (some ⟨b, 0, none⟩) s cp, .int .i64 0] 67
    have o3 := World.ownsRow.alloc (own_low k1 (Nat.zero_le _)) (.cells #[.slice (some ⟨b, 0, none⟩) s cp, .int .i64 0] 67)
    have rb := blk_alloc (blk_below BK.out k2 (by rw [SZ1.out]; omega)) (.cells #[.slice (some ⟨b, 0, none⟩) s cp, .int .i64 0] 67)
    have hb2 := B1.out.trans (k2.mono B1.out.size)
    have hb3 := hb2.alloc hb2.size (.cells #[.slice (some ⟨b, 0, none⟩) s cp, .int .i64 0] 67)
    have hlt2 : w.heap.size < w2.heap.size := by have := k2.size; have := SZ1.out; omega
    have x1 : (w2.alloc (.cells #[.slice (some ⟨b, 0, none⟩) s cp, .int .i64 0] 67)).cell? ⟨w2.heap.size, 1, none⟩ = some (.int .i64 0) := by rw [blk_cell c7]; rfl
    have x2 := blk_free c7 1
    obtain ⟨C7, hC7⟩ : ∃ C7, w2.heap.size = C7 := ⟨_, rfl⟩
    rw [hC7] at c7 x1 x2 hlt2
    clear RT k1 k2 hb2
    have sz3 : Hid ((w2.alloc (.cells #[.slice (some ⟨b, 0, none⟩) s cp, .int .i64 0] 67)).heap.size = C7 + 1) := by show _ = _; rw [← hC7]; simp
    have C7B := Hid.intro c7
    have O3 := Hid.intro o3
    have RB := Hid.intro rb
    have HB3 := Hid.intro hb3
    clear c7 o3 rb hb3
    go_wp2_with fail
    generalize w2.alloc (.cells #[.slice (some ⟨b, 0, none⟩) s cp, .int .i64 0] 67) = w3 at *
    obtain ⟨A, hA⟩ : ∃ A, w3.heap.size = A := ⟨_, rfl⟩
    have HA := Hid.intro hA
    have hAC : C7 + 1 = A := by rw [← hA]; exact sz3.out.symm
    rw [hAC]
    have ST : Hid (Rt1 L ps A w3 (.int .i64 0) (w3.alloc (.cells #[.slice none 0 0] 71))) :=
      ⟨0, .slice none 0 0, Nat.zero_le _, rfl, rfl, ⟨by rw [← hA]; exact blk_new _ _ _, World.ownsRow_nil _ _ _ _, by simp [Value.ownBlock], by simp [num, szs]⟩, up_nil _ _ (by omega), (Below.refl _ _).alloc (Nat.le_refl _) _⟩
    clear x1 x2 hA hC7 hAC
    go_loopw [9] (fun iv wr => Rt1 L ps A w3 iv wr) (fun iv _ => 1001 - (intOf iv).toNat)
    case atStart => exact ST.out
    case round =>
      clear ST
      obtain ⟨i, v, hi, rfl, d1, d2, d3, d4⟩ := hrel
      have hin : i ≤ nl := by rw [← HN.out]; exact hi
      have B0 : Below w.heap.size w wr := HB3.out.trans (d4.mono HB3.out.size)
      by_cases hlt : i < nl
      · obtain ⟨x, rfl, hx⟩ := HX.out (by omega)
        have hl : i < ps.length := by rw [HN.out]; exact hlt
        obtain ⟨x0', x1'⟩ := hx i hl
        obtain ⟨x0, x1⟩ := rp_cells2 B0 x0' x1'
        have hr := HF.out ps[i] (List.getElem_mem hl)
        have TK : Hid (ps.take (i + 1) = ps.take i ++ [ps[i]]) := take_snoc ps i hl
        have GF : Hid (okPS L ps[i] = false → ps.all (okPS L) = false) := fun h => by
          rw [List.all_eq_false]
          exact ⟨_, List.getElem_mem hl, by rw [h]; decide⟩
        have RA : Hid (vX (rstV (ps.map toNP)) i = ps[i].2.toNat ∧ vK (rstV (ps.map toNP)) i = ps[i].1.toNat - 1) := by
          obtain ⟨q1, q2⟩ := rst_at (ps.map toNP) i (by simpa using hl)
          rw [List.getD_eq_getElem?_getD, List.getElem?_map, List.getElem?_eq_getElem hl] at q1 q2
          exact ⟨q1, q2⟩
        obtain ⟨⟨c, r0⟩, hpp⟩ : ∃ p, ps[i] = p := ⟨_, rfl⟩
        rw [hpp] at x0 x1 x0' x1' hr TK GF RA
        simp only at x0 x1 x0' x1' hr RA
        obtain ⟨r, rfl⟩ : ∃ r : Nat, r0 = (r : Int) := ⟨r0.toNat, by omega⟩
        have hr64 : r < 18446744073709551616 := by omega
        have MP := mayPart_any c (r : Int) wr (by omega)
        have X0 := Hid.intro x0'
        have X1 := Hid.intro x1'
        have D1 := Hid.intro d1
        have D2 := Hid.intro d2
        have D3 := Hid.intro d3
        have D4 := Hid.intro d4
        have SL : Hid (szs (vK (rstV (ps.map toNP))) i ≤ 64 * 900) := by
          have := rest_small HF.out i hi d1
          show _ ≤ _
          omega
        clear hx hpp x0' x1' d1 d2 d3 d4 B0
        go_wp2_with fail
        with_reducible refine MP.mono ?_
        rintro e w4 ⟨rfl, hw4⟩
        have bw : Below wr.heap.size wr w4 := by rw [hw4]; exact (Below.refl _ _).alloc (Nat.le_refl _) _
        have D5 := Hid.intro (D4.out.trans (bw.mono D4.out.size))
        have B5 : Hid (Below w.heap.size w w4) := HB3.out.trans (D5.out.mono HB3.out.size)
        have R5 := Hid.intro (ro_kept (S := fun _ => False) D2.out (chg_of bw) (fun _ _ h => h))
        have rb5 := blk_below RB.out D5.out (by have := sz3.out; omega)
        have hlt4 : A < w4.heap.size := ro_lt R5.out A (.inl rfl)
        clear MP hw4 bw x0 x1 D2 D4
        cases hj : jok c (r : Int) with
        | false =>
          have G2 : Unit → gg = (1, []) := fun _ => GN () (GF.out (by unfold okPS; rw [hj]; rfl))
          obtain ⟨r0, r1, f0, f1⟩ := rb_cells rb5
          obtain ⟨q0, q1, q2⟩ := rb_end rb5 B5.out (.string ⟨#[]⟩) (.int .i64 1)
          have Q2 := Hid.intro q2
          clear GN GY GF rb5 q2
          go_wp2_with fail
          refine bodyPost_ret (v := .agg #[.string ⟨#[]⟩, .int .i64 1]) (by simp [results, Tryz.results7, go_sem, q0, q1]) rfl ?_
          rw [G2 ()]; exact ⟨rfl, Q2.out⟩
        | true =>
          obtain ⟨q, hck, hk⟩ : ∃ q : Nat, c = (q : Int) ∧ q < 65 := by
            by_cases h0 : c < 0 ∨ 64 < c
            · rw [jokOut c r h0] at hj; cases hj
            · exact ⟨c.toNat, by omega, by omega⟩
          subst hck
          obtain ⟨x0, x1⟩ := rp_cells2 B5.out X0.out X1.out
          obtain ⟨xl, rfl, cl1⟩ := ri_fr (ri_below HRI.out B5.out) q hk
          rw [fr_map] at cl1
          have OK : Hid (okPS L ((q : Int), (r : Int)) = decide (0 < L.getD q 0)) := by
            show _ = _
            unfold okPS
            rw [hj, Bool.true_and]; rfl
          have gle : L.getD q 0 ≤ 4096 := by have h1 := spd_le HSP.out q; rw [es] at h1; have : g L q = L.getD q 0 := rfl; omega
          generalize L.getD q 0 = n at *
          by_cases hn : n = 0
          · subst hn
            have G2 : Unit → gg = (1, []) := fun _ => GN () (GF.out (by rw [OK.out]; rfl))
            obtain ⟨r0, r1, f0, f1⟩ := rb_cells rb5
            obtain ⟨q0, q1, q2⟩ := rb_end rb5 B5.out (.string ⟨#[]⟩) (.int .i64 1)
            have Q2 := Hid.intro q2
            have cl2 : w4.cell? (xl.add q) = some (.int .i64 0) := cl1
            clear GN GY GF rb5 q2 hj cl1
            go_wp2_with fail
            refine bodyPost_ret (v := .agg #[.string ⟨#[]⟩, .int .i64 1]) (by simp [results, Tryz.results7, go_sem, q0, q1]) rfl ?_
            rw [G2 ()]; exact ⟨rfl, Q2.out⟩
          · have t1 : ((n : Int) == 0) = false := by simp; omega
            have hk65 : (q : Int) < 65 := by omega
            have hk0 : (0 : Int) ≤ (q : Int) := by omega
            have RW := rrest_own (w := w3) A v _ _ q r (q - 1) R5.out D3.out D5.out (by have := SL.out; omega) hr64 rfl (by omega) (szs (vK (rstV (ps.map toNP))) (i + 1)) (num (vX (rstV (ps.map toNP))) (vK (rstV (ps.map toNP))) (i + 1)) (by rw [szs, RA.out.2]; rfl) (by rw [num, RA.out.1, RA.out.2]; simp)
            have A1 : Hid ((ps.take (i + 1)).all (okPS L) = true) := by
              show _ = _
              rw [TK.out, List.all_append, D1.out]
              simp only [List.all_cons, List.all_nil, Bool.and_true, Bool.true_and]
              rw [OK.out]; simp; omega
            clear rb5 hj hlt4
            go_wp2_with fail
            with_reducible refine RW.mono ?_
            rintro e w5 ⟨rfl, v', g1, g2, g3⟩
            clear RW
            go_wp2_with fail
            go_roundw
            case rel => exact ⟨i + 1, v', by omega, by go_num, A1.out, g1, g2, g3⟩
            case measure => simp [intOf]; omega
      · obtain rfl : i = nl := by omega
        have hpl : ps.length = i := HN.out
        have AL : ps.all (okPS L) = true := by rw [← List.take_of_length_le (l := ps) (i := i) (by omega)]; exact d1
        have GG := GY () AL
        have ALL := Hid.intro AL
        have D2 := Hid.intro d2
        have D3 := Hid.intro d3
        have D4 := Hid.intro d4
        clear GY GN AL d1 d2 d3 d4 hlt B0
        subst GG
        go_wp2_with fail
        have hd0 : decide ((i : Int) < (i : Int)) = false := by simp
        try simp only [hd0]
        clear hd0
        obtain ⟨P, hP⟩ : ∃ P, ps.map toNP = P := ⟨_, rfl⟩
        have HPL : Hid (P.length = i) := by show _ = _; rw [← hP, List.length_map]; exact hpl
        have HPG : Hid (∀ p ∈ P, 0 < g L p.1) := fun p hp => by
          rw [← hP] at hp
          obtain ⟨⟨c, r⟩, hm, rfl⟩ := List.mem_map.1 hp
          obtain ⟨q, q2, e1, -, -, h3, -⟩ := okPS_is (HF.out _ hm).1 (List.all_eq_true.1 ALL.out _ hm)
          subst e1
          exact h3
        have HPA : Hid (∀ j (h : j < ps.length), ∃ q r : Nat, ps[j].1 = (q : Int) ∧ P.drop j = (q, r) :: P.drop (j + 1) ∧ q < 65) := fun j h => by
          obtain ⟨q, q2, e1, e2, h4, h3, -⟩ := okPS_is (c := ps[j].1) (r := ps[j].2) (HF.out _ (List.getElem_mem h)).1 (List.all_eq_true.1 ALL.out _ (List.getElem_mem h))
          refine ⟨q, q2, e1, ?_, h4⟩
          rw [List.drop_eq_getElem_cons (by rw [← hP, List.length_map]; exact h)]
          congr 1
          simp only [← hP, List.getElem_map, toNP]
          rw [e1, e2]; rfl
        have ST2 : Hid (R2 k L cs P wr (.slice none 0 0) (.slice none 0 0) (.int .i64 0) (.int .i64 ((i : Int) - 1)) wr) :=
          ⟨i, (i : Int) - 1, by rw [HPL.out]; exact Nat.le_refl _, rfl, by omega, by rw [List.drop_of_length_le (by rw [HPL.out]; exact Nat.le_refl _)]; rfl, by rw [List.drop_of_length_le (by rw [HPL.out]; exact Nat.le_refl _)]; exact vl_nil _ _, Below.refl _ _⟩
        have SZ6 : Hid (A < wr.heap.size ∧ C7 < wr.heap.size ∧ b < wr.heap.size) := ⟨ro_lt D2.out A (.inl rfl), Nat.lt_of_lt_of_le (blk_lt C7B.out) D4.out.size, Nat.lt_of_lt_of_le (O3.out.lt b rfl).2 D4.out.size⟩
        have HP := Hid.intro hP
        clear hP
        generalize hw6 : wr = w6 at *
        clear hw6
        go_loopw [10, 11, 12, 13] (fun vv lv sv iv w7 => R2 k L cs P w6 vv lv sv iv w7) (fun _ _ _ iv _ => ((intOf iv) + 1).toNat)
        case atStart => exact ST2.out
        case round =>
          clear ST2
          obtain ⟨j, zz, hj, rfl, hz, rfl, d1, d2⟩ := hrel
          rw [HPL.out] at hj
          have LS : Hid (∀ q, sts k L cs ((P.drop q).map Prod.fst) < s) := fun q => by
            have := sts_lt HSP.out ((P.drop q).map Prod.fst) (fun c hc => by obtain ⟨p, hp, rfl⟩ := List.mem_map.1 hc; exact HPG.out p (List.mem_of_mem_drop hp))
            rw [es] at this; exact this
          by_cases hj0 : 0 < j
          · obtain ⟨j', rfl⟩ : ∃ j', j = j' + 1 := ⟨j - 1, by omega⟩
            obtain rfl : zz = (j' : Int) := by omega
            have hjl : j' < ps.length := by rw [HN.out]; omega
            obtain ⟨q, r, hq1, hq2, hq65⟩ := HPA.out j' hjl
            have hqp : 0 < g L q := HPG.out (q, r) (by have : (q, r) ∈ P.drop j' := by rw [hq2]; simp
                                                       exact List.mem_of_mem_drop this)
            obtain ⟨x, rfl, hx⟩ := HX.out (by omega)
            obtain ⟨x0', -⟩ := hx j' hjl
            rw [hq1] at x0'
            have xlt := LS.out (j' + 1)
            have SQ : Hid (sts k L cs ((P.drop j').map Prod.fst) = fnd k L cs q (sts k L cs ((P.drop (j' + 1)).map Prod.fst))) := by show _ = _; rw [hq2]; rfl
            have VQ : Hid (∃ bb ee, cel k L cs (fnd k L cs q (sts k L cs ((P.drop (j' + 1)).map Prod.fst))) = (q, bb, ee) ∧ ee ≤ sts k L cs ((P.drop (j' + 1)).map Prod.fst) ∧ sts k L cs ((P.drop (j' + 1)).map Prod.fst) < ee + 2 ^ bb ∧ bb ≤ k ∧ ee + 2 ^ bb ≤ 2 ^ k ∧ vls k L cs ((P.drop j').map Prod.fst) = vls k L cs ((P.drop (j' + 1)).map Prod.fst) ++ [(sts k L cs ((P.drop (j' + 1)).map Prod.fst) - ee, bb)]) := by
              obtain ⟨bb, ee, c1, c2, c3, c4, c5⟩ := fnd_cel HSP.out hqp (by rw [es]; exact xlt : sts k L cs ((P.drop (j' + 1)).map Prod.fst) < 2 ^ k)
              refine ⟨bb, ee, c1, c2, c3, c4, c5, ?_⟩
              rw [hq2, List.map_cons]
              simp only [vls]
              rw [c1]
            have FI := Hid.intro (fnd_is HSP.out hqp (by rw [es]; exact xlt : sts k L cs ((P.drop (j' + 1)).map Prod.fst) < 2 ^ k))
            have VLN : Hid ((vls k L cs ((P.drop (j' + 1)).map Prod.fst)).length ≤ 900) := by show _ ≤ _; rw [vls_len, List.length_map, List.length_drop, HPL.out]; omega
            generalize sts k L cs ((P.drop (j' + 1)).map Prod.fst) = st at *
            generalize vls k L cs ((P.drop (j' + 1)).map Prod.fst) = V at *
            obtain ⟨p, hp⟩ : ∃ p, fnd k L cs q st = p := ⟨_, rfl⟩
            rw [hp] at SQ VQ FI
            have hps : p < s := by rw [← es]; exact FI.out.1
            have X0 := Hid.intro x0'
            have ST3 : Hid (R3 p w6.heap.size V w6 st u10 u11 (.int .i64 st) (.int .i64 0) wr) := ⟨0, Nat.zero_le _, rfl, rfl, d1, d2⟩
            have jz : (0 : Int) ≤ (j' : Int) := by omega
            clear d1 d2 hx x0' hp hq1 hq2
            go_wp2_with fail
            go_loopw [10, 11, 12, 14] (fun vv lv sv cv w7 => R3 p w6.heap.size V w6 st vv lv sv cv w7) (fun _ _ _ cv _ => 5000 - (intOf cv).toNat)
            case atStart => exact ST3.out
            case round =>
              clear ST3
              obtain ⟨c, hc, rfl, rfl, d1, d2⟩ := hrel
              have hcs : c < s := by omega
              have B37 := Hid.intro (D4.out.trans (d2.mono D4.out.size))
              have B7 := Hid.intro (HB3.out.trans (B37.out.mono HB3.out.size))
              have C7w := blk_below C7B.out B37.out (by have := sz3.out; omega)
              have y0 : wr.cell? ⟨C7, 0, none⟩ = some (.slice (some ⟨b, 0, none⟩) s cp) := by rw [blk_cell C7w]; rfl
              obtain ⟨c', bb, ee, hcel, hcs', -, hbb, hee, -⟩ := cel_bd HSP.out c (by rw [es]; exact hcs)
              obtain ⟨k0, k1, k2⟩ := cv_cells (own_later O3.out B37.out) c hcs
              rw [tab_get k L cs s c hcs, hcel] at k0 k1 k2
              simp only at k0 k1 k2
              have o1 := World.ownsRow.alloc (own_low d1.1 (Nat.zero_le _)) (.cells #[.int .i64 (c' : Int), .int .i64 (bb : Int), .int .i64 (ee : Int)] 77)
              have nb := blk_new wr #[.int .i64 (c' : Int), .int .i64 (bb : Int), .int .i64 (ee : Int)] 77
              have ab : Below wr.heap.size wr (wr.alloc (.cells #[.int .i64 (c' : Int), .int .i64 (bb : Int), .int .i64 (ee : Int)] 77)) := (Below.refl _ _).alloc (Nat.le_refl _) _
              have x0 : (wr.alloc (.cells #[.int .i64 (c' : Int), .int .i64 (bb : Int), .int .i64 (ee : Int)] 77)).cell? (x.add (j' * 2)) = some (.int .i64 (q : Int)) := by rw [← X0.out]; exact (B7.out.trans (ab.mono B7.out.size)).cell (World.block_lt_of_cell? _ _ X0.out)
              have e0 : (wr.alloc (.cells #[.int .i64 (c' : Int), .int .i64 (bb : Int), .int .i64 (ee : Int)] 77)).cell? ⟨wr.heap.size, 0, none⟩ = some (.int .i64 (c' : Int)) := by rw [blk_cell nb]; rfl
              have e1 : (wr.alloc (.cells #[.int .i64 (c' : Int), .int .i64 (bb : Int), .int .i64 (ee : Int)] 77)).cell? ⟨wr.heap.size, 1, none⟩ = some (.int .i64 (bb : Int)) := by rw [blk_cell nb]; rfl
              have e2 : (wr.alloc (.cells #[.int .i64 (c' : Int), .int .i64 (bb : Int), .int .i64 (ee : Int)] 77)).cell? ⟨wr.heap.size, 2, none⟩ = some (.int .i64 (ee : Int)) := by rw [blk_cell nb]; rfl
              have D1 := Hid.intro d1
              have D2' := Hid.intro d2
              have O1 := Hid.intro o1
              have AB := Hid.intro ab
              have NB := Hid.intro nb
              clear d1 d2 C7w o1 nb ab
              have NO : Hid (hits k L cs q st c = false → c + 1 ≤ p) := fun h => by
                rcases Nat.lt_or_ge c p with l | l
                · exact l
                · have : c = p := by omega
                  subst this; rw [FI.out.2.1] at h; cases h
              have YES : Hid (hits k L cs q st c = true → c = p) := fun h => FI.out.2.2 c (by rw [es]; exact hcs) h
              have HI : Hid (hits k L cs q st c = (decide (c' = q) && decide (ee ≤ st) && decide (st < ee + 2 ^ bb))) := by show _ = _; unfold hits; rw [hcel, hcs']
              have pb : 2 ^ bb ≤ 4096 := by have := pow_bd bb (by omega : bb ≤ 12); omega
              have jlt : j' < i := by omega
              go_wp2_with fail
              generalize wr.alloc (.cells #[.int .i64 (c' : Int), .int .i64 (bb : Int), .int .i64 (ee : Int)] 77) = w9 at *
              have TH : Hid (decide ((st : Int) < wrap64 ((ee : Int) + wrap64 ((2 : Int) ^ bb))) = decide (st < ee + 2 ^ bb)) := sh_test st ee bb pb (Nat.le_trans (Nat.le_trans (Nat.le_add_right _ _) hee) (by rw [es]; exact su))
              by_cases t1 : c' = q
              · by_cases t2 : ee ≤ st
                · have s1 : decide ((ee : Int) ≤ (st : Int)) = true := by simp; omega
                  have s0 : ((c' : Int) == (q : Int)) = true := by simp; omega
                  by_cases t3 : st < ee + 2 ^ bb
                  · have th : decide ((st : Int) < wrap64 ((ee : Int) + wrap64 ((2 : Int) ^ bb))) = true := by rw [TH.out]; simp [t3]
                    go_quiet (fail)
                    obtain ⟨w10, hw10⟩ : ∃ w10, w9.drewN nq = w10 := ⟨_, rfl⟩
                    have BA : Hid (Below wr.heap.size wr w10) := by show Below _ _ _; rw [← hw10]; exact below_drewN AB.out nq
                    have NC : Blk w10 wr.heap.size #[.int .i64 (c' : Int), .int .i64 (bb : Int), .int .i64 (ee : Int)] 77 := by rw [← hw10]; exact NB.out
                    have f2 : w10.cell? ⟨wr.heap.size, 2, none⟩ = some (.int .i64 (ee : Int)) := by rw [blk_cell NC]; rfl
                    rw [hw10]
                    obtain rfl := YES.out (by rw [HI.out]; simp [t1, t2, t3])
                    obtain ⟨bb', ee', hc2, v2, v3, v4, v5, v6⟩ := VQ.out
                    rw [hcel] at hc2
                    obtain ⟨hc3, hc4⟩ := Prod.mk.inj hc2
                    obtain ⟨hc5, hc6⟩ := Prod.mk.inj hc4
                    subst hc5 hc6
                    obtain ⟨d, hd⟩ : ∃ d : Nat, st - ee = d := ⟨_, rfl⟩
                    have hd2 : Hid ((st : Int) - (ee : Int) = (d : Int)) := by show _ = _; omega
                    rw [hd] at v6
                    have V6 := Hid.intro v6
                    have VB : Hid (V.length + 1 ≤ 100000) := by have := VLN.out; show _ ≤ _; omega
                    have hB : Hid (w6.heap.size ≤ wr.heap.size) := D2'.out.size
                    have OW : Hid (w10.ownsRow 0 64 1 u10 V.length (uvs (V.map Prod.fst))) := own_later D1.out.1 BA.out
                    have b1 : Below wr.heap.size wr (w10.alloc (.cells #[.int .u64 ((st : Int) - (ee : Int))] 64)) := BA.out.alloc BA.out.size _
                    have NC2 := Hid.intro (blk_alloc NC (.cells #[.int .u64 ((st : Int) - (ee : Int))] 64))
                    have B1w := Hid.intro b1
                    clear NO YES HI VQ AB NB NC e0 e1 e2 hw10 x0 y0 k0 k1 k2 v6 hc2 hc4 hc3 hd b1
                    go_wp2_with (at_builtin; refine wpList_push _ rfl (.tmp 99) (.tmp 105) 56 rfl 64 i5 (.int .u64 0) 1 8 Tryz.underlying56 hi5 hz5 hs5 hb5 rfl (by decide) (by decide) u10 V.length _ rfl (World.ownsRow.alloc OW.out _) ⟨w10.heap.size, 0, none⟩ 1 1 [.int .u64 _] rfl rfl (one_new _ _ _) (by intro u hu; simp at hu; subst hu; rfl) VB.out ?_)
                    intro v8 w11 o8 g8 m8
                    rw [hd2.out] at o8
                    obtain ⟨j1, j2, j3, j4, j5⟩ := vl_one D1.out hB.out B1w.out o8 g8 m8
                    have nd := grown_blk NC2.out g8 (fun q hq => by have := (D1.out.1.lt q hq).2; omega)
                    have f1 : w11.cell? ⟨wr.heap.size, 1, none⟩ = some (.int .i64 (bb : Int)) := by rw [blk_cell nd]; rfl
                    have sz11 : w6.heap.size ≤ w11.heap.size := by have h1 := j5.size; have h2 := B1w.out.size; have h3 := hB.out; omega
                    have J1 := Hid.intro j1
                    have J2 := Hid.intro j2
                    have J3 := Hid.intro j3
                    have J4 := Hid.intro j4
                    have J5 := Hid.intro (D2'.out.trans ((B1w.out.mono hB.out).trans j5))
                    have SZ11 := Hid.intro sz11
                    have b2 : Below w11.heap.size w11 (w11.alloc (.cells #[.int .i64 (bb : Int)] 3)) := (Below.refl _ _).alloc (Nat.le_refl _) _
                    have B2w := Hid.intro b2
                    clear f2 o8 g8 m8 j1 j2 j3 j4 j5 nd NC2 sz11 hd2 th b2 s0 s1
                    go_wp2_with (at_builtin; refine wpList_push _ rfl (.tmp 107) (.tmp 110) 23 rfl 3 i3 (.int .i64 0) 1 8 Tryz.underlying23 hi3 hz3 hs3 hb3 rfl (by decide) (by decide) u11 V.length _ rfl (World.ownsRow.alloc J2.out _) ⟨w11.heap.size, 0, none⟩ 1 1 [.int .i64 _] rfl rfl (one_new _ _ _) (by intro u hu; simp at hu; subst hu; rfl) VB.out ?_)
                    intro l8 w12 o9 g9 m9
                    obtain ⟨m1, m2, m3, m4, m5⟩ := vl_two J1.out J2.out J3.out D1.out.2.2.2.1 J4.out SZ11.out B2w.out o9 g9 m9
                    have M1 : Hid (R2 k L cs P w6 v8 l8 (.int .i64 (c : Int)) (.int .i64 ((j' : Int) - 1)) w12) :=
                      ⟨j', (j' : Int) - 1, by have := HPL.out; omega, rfl, by omega, by rw [SQ.out], by rw [V6.out]; exact vl_set m1 m2 J3.out m3 m4, J5.out.trans ((B2w.out.mono SZ11.out).trans m5)⟩
                    clear f1 o9 g9 m9 m1 m2 m3 m4 m5
                    go_wp2_with fail
                    go_roundw
                    case rel => exact M1.out
                    case measure => simp [intOf]
                  · have NO' := NO.out (by rw [HI.out]; simp [t3])
                    have th : decide ((st : Int) < wrap64 ((ee : Int) + wrap64 ((2 : Int) ^ bb))) = false := by rw [TH.out]; simp [t3]
                    go_quiet (fail)
                    go_wp2_with fail
                    go_roundw
                    case rel => exact ⟨c + 1, NO', rfl, by go_num, vl_later D1.out (below_drewN AB.out _), D2'.out.trans ((below_drewN AB.out _).mono D2'.out.size)⟩
                    case measure => simp [intOf]; omega
                · have NO' := NO.out (by rw [HI.out]; simp [t2])
                  have s1 : decide ((ee : Int) ≤ (st : Int)) = false := by simp; omega
                  have s0 : ((c' : Int) == (q : Int)) = true := by simp; omega
                  go_quiet (fail)
                  go_wp2_with fail
                  go_roundw
                  case rel => exact ⟨c + 1, NO', rfl, by go_num, vl_later D1.out (below_drewN AB.out _), D2'.out.trans ((below_drewN AB.out _).mono D2'.out.size)⟩
                  case measure => simp [intOf]; omega
              · have NO' := NO.out (by rw [HI.out]; simp [t1])
                have s0 : ((c' : Int) == (q : Int)) = false := by simp; omega
                go_quiet (fail)
                go_wp2_with fail
                go_roundw
                case rel => exact ⟨c + 1, NO', rfl, by go_num, vl_later D1.out (below_drewN AB.out _), D2'.out.trans ((below_drewN AB.out _).mono D2'.out.size)⟩
                case measure => simp [intOf]; omega
          · obtain rfl : j = 0 := by omega
            obtain rfl : zz = -1 := by omega
            rw [List.drop_zero] at d1
            obtain ⟨F1, F2⟩ : (∀ c ∈ P.map Prod.fst, 0 < g L c) ∧ P.length = i := ⟨fun c hc => by obtain ⟨p, hp, rfl⟩ := List.mem_map.1 hc; exact HPG.out p hp, HPL.out⟩
            have stl := sts_lt HSP.out _ F1
            have VLL : (vls k L cs (P.map Prod.fst)).length = i := by rw [vls_len, List.length_map]; exact F2
            have AV : Hid (allV k L cs (P.map Prod.fst) = vls k L cs (P.map Prod.fst) ++ [(sts k L cs (P.map Prod.fst), k)]) := (rfl : _ = _)
            have ABD := Hid.intro (all_bdi HSP.out _ F1)
            have TB : Hid (tailB k L cs P = byt (mk (vX (allV k L cs (P.map Prod.fst))) (vK (allV k L cs (P.map Prod.fst))) (i + 1)) (szs (vK (allV k L cs (P.map Prod.fst))) (i + 1) / 8 + 1)) := by show _ = _; rw [← F2]; rfl
            rw [List.drop_zero]
            generalize allV k L cs (P.map Prod.fst) = AVL at *
            generalize vls k L cs (P.map Prod.fst) = V at *
            generalize sts k L cs (P.map Prod.fst) = st at *
            subst VLL
            have D1 := Hid.intro d1
            have D2' := Hid.intro d2
            have F1' := Hid.intro F1
            have F2' := Hid.intro F2
            have VB : Hid (V.length + 1 ≤ 100000) := by show _ ≤ _; omega
            have hB : Hid (w6.heap.size ≤ wr.heap.size) := D2'.out.size
            have b1 : Below wr.heap.size wr (wr.alloc (.cells #[.int .u64 (st : Int)] 64)) := (Below.refl _ _).alloc (Nat.le_refl _) _
            have B1w := Hid.intro b1
            have st13 : st < 4097 := by rw [es] at stl; omega
            clear d1 d2 F1 F2 b1 stl
            go_wp2_with (at_builtin; refine wpList_push _ rfl (.tmp 113) (.tmp 116) 56 rfl 64 i5 (.int .u64 0) 1 8 Tryz.underlying56 hi5 hz5 hs5 hb5 rfl (by decide) (by decide) u10 V.length _ rfl (World.ownsRow.alloc D1.out.1 _) ⟨wr.heap.size, 0, none⟩ 1 1 [.int .u64 _] rfl rfl (one_new _ _ _) (by intro u hu; simp at hu; subst hu; rfl) VB.out ?_)
            intro v8 w11 o8 g8 m8
            obtain ⟨j1, j2, j3, j4, j5⟩ := vl_one D1.out hB.out B1w.out o8 g8 m8
            have SZ11 : Hid (w6.heap.size ≤ w11.heap.size) := by have h1 := j5.size; have h2 := B1w.out.size; have h3 := hB.out; show _ ≤ _; omega
            have J1 := Hid.intro j1
            have J2 := Hid.intro j2
            have J3 := Hid.intro j3
            have J4 := Hid.intro j4
            have J5 := Hid.intro (D2'.out.trans ((B1w.out.mono hB.out).trans j5))
            have b2 : Below w11.heap.size w11 (w11.alloc (.cells #[.int .i64 (k : Int)] 3)) := (Below.refl _ _).alloc (Nat.le_refl _) _
            have B2w := Hid.intro b2
            clear o8 g8 m8 j1 j2 j3 j4 j5 b2
            go_wp2_with (at_builtin; refine wpList_push _ rfl (.tmp 118) (.tmp 120) 23 rfl 3 i3 (.int .i64 0) 1 8 Tryz.underlying23 hi3 hz3 hs3 hb3 rfl (by decide) (by decide) u11 V.length _ rfl (World.ownsRow.alloc J2.out _) ⟨w11.heap.size, 0, none⟩ 1 1 [.int .i64 _] rfl rfl (one_new _ _ _) (by intro u hu; simp at hu; subst hu; rfl) VB.out ?_)
            intro l8 w12 o9 g9 m9
            obtain ⟨m1, m2, m3, m4, m5⟩ := vl_two J1.out J2.out J3.out D1.out.2.2.2.1 J4.out SZ11.out B2w.out o9 g9 m9
            have J6 := Hid.intro (J5.out.trans ((B2w.out.mono SZ11.out).trans m5))
            obtain ⟨x8, c8, rfl⟩ := own_slice m1 (by omega)
            obtain ⟨y8, c9, rfl⟩ := own_slice m2 (by omega)
            have AVf : AVL.map Prod.fst = V.map Prod.fst ++ [st] := by rw [AV.out]; simp
            have AVs : AVL.map Prod.snd = V.map Prod.snd ++ [k] := by rw [AV.out]; simp
            have AVn : AVL.length = V.length + 1 := by rw [AV.out]; simp
            rw [← AVf] at m1
            rw [← AVs] at m2
            have p12 : 2 ^ k ≤ 4096 := by rw [es]; exact su
            have us := us_own m1 AVn (fun i => by have := (ABD.out i).1; omega)
            have ls := ls_own m2 AVn (fun i => by have := (ABD.out i).2; omega)
            have SEAL := rseal_core (some ⟨x8, 0, none⟩) (some ⟨y8, 0, none⟩) (V.length + 1) c8 (V.length + 1) c9 (V.length + 1) (vX AVL) (fun i => (vK AVL i : Int)) w12 (by omega) (Nat.le_refl _) (Nat.le_refl _) (.inl rfl) (by omega) (by omega) us ls (vK AVL) (fun i => (cl_nat _ (by have := (ABD.out i).2; omega)).symm) (fun i => by have := (ABD.out i).2; omega)
            have TLN : Hid ((tailB k L cs P).length ≤ 2000) := by
              show _ ≤ _
              rw [TB.out, byt_len]
              have := szs_bd (k := vK AVL) (B := 12) (fun i => by have := (ABD.out i).2; omega) (V.length + 1)
              omega
            have TE : Hid (sealed (num (vX AVL) (vK AVL) (V.length + 1)) (szs (vK AVL) (V.length + 1)) = bs (tailB k L cs P)) := by show _ = _; rw [TB.out]; rfl
            rw [TE.out] at SEAL
            clear o9 g9 m9 m1 m2 m3 m4 m5 us ls AVf AVs AVn
            go_wp2_with fail
            with_reducible refine SEAL.mono ?_
            rintro e w13 ⟨rfl, h13⟩
            clear SEAL
            have PB : Hid (bs (putB k L cs P) = bs (vb (tailB k L cs P).length ++ (tailB k L cs P ++ restB P))) := by show _ = _; rfl
            have HR : Hid (bs (byt (num (vX (rstV P)) (vK (rstV P)) V.length) (byc (szs (vK (rstV P)) V.length))) = bs (restB P)) := by show _ = _; unfold restB; rw [F2'.out]
            have RSZ : Hid (szs (vK (rstV (ps.map toNP))) V.length ≤ 64 * V.length) := rest_small HF.out V.length hi (by rw [List.take_of_length_le (by omega)]; exact ALL.out)
            have RLN : (restB P).length ≤ 7300 := by
              unfold restB
              rw [byt_len, F2'.out, ← HP.out]
              have := RSZ.out
              unfold byc; omega
            obtain ⟨T, hT⟩ : ∃ T, tailB k L cs P = T := ⟨_, rfl⟩
            obtain ⟨R, hR⟩ : ∃ R, restB P = R := ⟨_, rfl⟩
            rw [hT] at TLN PB
            rw [hR] at PB HR RLN
            rw [hT]
            have zs : (bs T).size = T.length := size_bs T
            have tl : T.length ≤ 2000 := TLN.out
            have J7 := Hid.intro (J6.out.trans (h13.mono J6.out.size))
            have RV := refPut_any T.length (by omega) w13
            clear h13 TE TB hT hR
            go_wp2_with fail
            with_reducible refine RV.mono ?_
            rintro e w14 ⟨rfl, h14⟩
            clear RV
            have J8 := Hid.intro (J7.out.trans (h14.mono J7.out.size))
            have a1 : bs (vb T.length) ++ bs T = bs (vb T.length ++ T) := bs_add _ _
            have a2 : bs (vb T.length ++ T) ++ bs R = bs (vb T.length ++ (T ++ R)) := by rw [bs_add, List.append_assoc]
            have z1 : (bs (vb T.length)).size ≤ 10 := by rw [size_bs]; exact (vb_len _).2
            have z2 : (bs (vb T.length ++ T)).size ≤ 2010 := by rw [size_bs, List.length_append]; have := (vb_len T.length).2; omega
            have z3 : (bs R).size ≤ 7300 := by rw [size_bs]; exact RLN
            have BY := rbytes_any A v _ _ w14 (ro_kept (S := fun _ => False) D2.out (chg_of J8.out) (fun _ _ h => h)) (by have := RSZ.out; omega)
            unfold ptr at BY
            rw [HP.out, HR.out] at BY
            have J9 := Hid.intro (D4.out.trans (J8.out.mono D4.out.size))
            have J10 := Hid.intro (HB3.out.trans (J9.out.mono HB3.out.size))
            clear h14 RLN
            go_wp2_with fail
            with_reducible refine BY.mono ?_
            rintro e w15 ⟨rfl, h15⟩
            clear BY
            have B15 : Below w.heap.size w w15 := below_no J10.out h15
            have rb := blk_kept (S := fun _ => False) (blk_below RB.out J9.out (by have := sz3.out; omega)) h15 (fun h => h)
            obtain ⟨r0, r1, f0, f1⟩ := rb_cells rb
            obtain ⟨q0, q1, q2⟩ := rb_end rb B15 (.string (bs (vb T.length ++ (T ++ R)))) (.int .i64 0)
            have Q2 := Hid.intro q2
            clear h15 B15 rb q2
            go_wp2_with fail
            refine bodyPost_ret (v := .agg #[.string (bs (vb T.length ++ (T ++ R))), .int .i64 0]) (by simp [results, Tryz.results7, go_sem, q0, q1]) rfl ⟨?_, Q2.out⟩
            rw [HP.out]
            rw [PB.out]
  · have hm' : may z f = false := by simpa using hm
    have GN : putS f z ps = (3, []) := by unfold putS; rw [if_neg hm]
    rw [GN]
    rw [tabA_no hm'] at RT
    clear h hp hm
    go_enter Tryz.func7, Tryz.ntmps7
    go_wp2_with fail
    with_reducible refine RT.mono ?_
    rintro e w2 ⟨v, rfl, k1, k2⟩
    obtain ⟨av, cv, rfl, -⟩ := own_rc (l := []) k1
    have rb := blk_alloc (blk_below bk k2 (by omega)) (.cells #[.slice av 0 cv, .int .i64 3] 67)
    have c7 := blk_new w2 #[.slice av 0 cv, .int .i64 3] 67
    have hb2 := b1.trans (k2.mono b1.size)
    have hb3 := hb2.alloc hb2.size (.cells #[.slice av 0 cv, .int .i64 3] 67)
    have x1 : (w2.alloc (.cells #[.slice av 0 cv, .int .i64 3] 67)).cell? ⟨w2.heap.size, 1, none⟩ = some (.int .i64 3) := by rw [blk_cell c7]; rfl
    obtain ⟨r0, r1, f0, f1⟩ := rb_cells rb
    obtain ⟨q0, q1, q2⟩ := rb_end rb hb3 (.string ⟨#[]⟩) (.int .i64 3)
    have Q2 := Hid.intro q2
    clear k1 k2 rb c7 hb2 hb3 q2 bk b1
    go_wp2_with fail
    exact bodyPost_ret (v := .agg #[.string ⟨#[]⟩, .int .i64 3]) (by simp [results, Tryz.results7, go_sem, q0, q1]) rfl ⟨rfl, Q2.out⟩
end Go.Proofs.YtofclflcicjlaaaGreat
