/-
  What is put by states, and the two rows of what is put.
-/
import Derived.Test.YtofclflcicjlaaaSw
import Derived.Test.YtofclflcicjlaaaTt
import Derived.Test.YtofclflcicjlaaaOfyh
import Derived.Test.YtofclflcicjlaaaBuh
import Derived.Test.YtofclflcicjlaaaSealb
import Derived.Test.YtofclflcicjlaaaRpyh
import Derived.Deep.QuietTactic
import Derived.Deep.RegionWith
import Derived.Deep.RegionHeld3
import Derived.OwnWalk
import Derived.ChangeOld
import Derived.Below
import Derived.BigQuiet
namespace Go.Proofs.Ytofclflcicjlaaa
open Go.ChangeShapes Go.WideShapes Go.ChangeAt Go.RowKit
open Go.ChangeMaps (open_string shut_string)
set_option linter.unusedVariables false
def okPS (L : List Nat) (p : Int × Int) : Bool := jok p.1 p.2 && decide (0 < g L p.1.toNat)
def toNP (p : Int × Int) : Nat × Nat := (p.1.toNat, p.2.toNat)
/-- The document's Put of parts by states: the error, the bytes. -/
def putS (f : List Int) (z : Int) (ps : List (Int × Int)) : Nat × List UInt8 :=
  if may z f then (if ps.all (okPS (f.map Int.toNat)) then (0, putB z.toNat (f.map Int.toNat) (spr z.toNat (f.map Int.toNat)) (ps.map toNP)) else (1, [])) else (3, [])
theorem okPS_is {L : List Nat} {c r : Int} (hr : 0 ≤ r) (h : okPS L (c, r) = true) : ∃ k q : Nat, c = (k : Int) ∧ r = (q : Int) ∧ k < 65 ∧ 0 < g L k ∧ q < 2 ^ (k - 1) ∧ (k = 0 → q = 0) := by
  unfold okPS at h
  rw [Bool.and_eq_true, decide_eq_true_eq] at h
  obtain ⟨h1, h2⟩ := h
  by_cases h0 : c < 0 ∨ 64 < c
  · rw [jokOut c r h0] at h1; cases h1
  · obtain ⟨q, rfl⟩ : ∃ q : Nat, r = (q : Int) := ⟨r.toNat, by omega⟩
    obtain ⟨k, rfl⟩ : ∃ k : Nat, c = (k : Int) := ⟨c.toNat, by omega⟩
    refine ⟨k, q, rfl, rfl, by omega, by simpa using h2, ?_, ?_⟩
    · by_cases hk : k < 2
      · rw [jokLow (k : Int) (q : Int) (by omega) (by omega) hr] at h1
        have : q = 0 := by simpa using h1
        rw [this]; exact Nat.two_pow_pos _
      · rw [jokHigh (k : Int) (q : Int) (by omega) (by omega) hr] at h1
        have h3 : (q : Int) / 2 ^ (k - 1) = 0 := by simpa using h1
        have h4 : ((q / 2 ^ (k - 1) : Nat) : Int) = 0 := by rw [Int.natCast_ediv, Int.natCast_pow]; exact h3
        have h5 : q / 2 ^ (k - 1) = 0 := by omega
        rcases Nat.lt_or_ge q (2 ^ (k - 1)) with e | e
        · exact e
        · have := Nat.div_pos e (Nat.two_pow_pos (k - 1)); omega
    · intro hk
      subst hk
      have h1' : jok 0 (q : Int) = true := h1
      rw [jokLow 0 (q : Int) (by omega) (by omega) hr] at h1'
      simpa using h1'
/-! ### rows of numbers of 64 bits -/
def uvs (l : List Nat) : List Value := l.map (fun (n : Nat) => Value.int .u64 (n : Int))
theorem uvs_snoc (l : List Nat) (x : Nat) : uvs l ++ [.int .u64 (x : Int)] = uvs (l ++ [x]) := by simp [uvs]
theorem uvs_len (l : List Nat) : (uvs l).length = l.length := by simp [uvs]
theorem uvs_get (l : List Nat) (i : Nat) (h : i < l.length) : (uvs l)[i]? = some (.int .u64 ((l.getD i 0 : Nat) : Int)) := by
  rw [List.getD_eq_getElem?_getD]; simp [uvs, h]
theorem info30 : (Try.prog.info? 30).map (fun i => (i.zero, i.size, i.bytes)) = some (some (.int .u64 0), 1, 8) := by kernel_rfl
theorem rest_small {L : List Nat} {ps : List (Int × Int)} (hf : ∀ p ∈ ps, 0 ≤ p.2 ∧ p.2 ≤ 18446744073709551615) : ∀ i, i ≤ ps.length → (ps.take i).all (okPS L) = true → szs (vK (rstV (ps.map toNP))) i ≤ 64 * i := by
  intro i
  induction i with
  | zero => intro _ _; simp [szs]
  | succ i ih =>
    intro hi h
    rw [take_snoc ps i (by omega), List.all_append, Bool.and_eq_true] at h
    have := ih (by omega) h.1
    obtain ⟨-, q2⟩ := rst_at (ps.map toNP) i (by rw [List.length_map]; omega)
    rw [List.getD_eq_getElem?_getD, List.getElem?_map, List.getElem?_eq_getElem (by omega)] at q2
    have hm := List.getElem_mem (l := ps) (n := i) (by omega)
    have hk := h.2
    simp only [List.all_cons, List.all_nil, Bool.and_true] at hk
    generalize ps[i] = p at *
    obtain ⟨c, r⟩ := p
    obtain ⟨k, q, e1, -, hk65, -⟩ := okPS_is (hf _ hm).1 hk
    subst e1
    rw [szs, q2]
    show _ + ((k : Int).toNat - 1) ≤ _
    omega
/-! ### the two rows of what is put -/
def Dj (v u : Value) : Prop := ∀ q, v.ownBlock = some q → u.ownBlock ≠ some q
def VL (wr : World) (B : Nat) (vv lv : Value) (V : List (Nat × Nat)) : Prop :=
  wr.ownsRow 0 30 1 vv V.length (uvs (V.map Prod.fst)) ∧ wr.ownsRow 0 3 1 lv V.length (nis (V.map Prod.snd)) ∧ From B vv ∧ From B lv ∧ Dj vv lv
theorem vl_later {wr w' : World} {B : Nat} {vv lv : Value} {V : List (Nat × Nat)} (h : VL wr B vv lv V) (g : Below wr.heap.size wr w') : VL w' B vv lv V :=
  ⟨own_later h.1 g, own_later h.2.1 g, h.2.2⟩
theorem vl_nil (wr : World) (B : Nat) : VL wr B (.slice none 0 0) (.slice none 0 0) [] :=
  ⟨World.ownsRow_nil _ _ _ _, World.ownsRow_nil _ _ _ _, fun q hq => by simp [Value.ownBlock] at hq, fun q hq => by simp [Value.ownBlock] at hq, fun q hq => by simp [Value.ownBlock] at hq⟩
/-- One number more in the first row. -/
theorem vl_one {wr w1 w2 : World} {B x : Nat} {vv lv v2 : Value} {V : List (Nat × Nat)} (h : VL wr B vv lv V) (hB : B ≤ wr.heap.size) (b : Below wr.heap.size wr w1) (g1 : w2.ownsRow 0 30 1 v2 (V.length + 1) (uvs (V.map Prod.fst) ++ [.int .u64 (x : Int)])) (g2 : w1.grownBy w2 vv.ownBlock) (g3 : Moved w1 vv v2) :
    w2.ownsRow 0 30 1 v2 (V.length + 1) (uvs (V.map Prod.fst ++ [x])) ∧ w2.ownsRow 0 3 1 lv V.length (nis (V.map Prod.snd)) ∧ From B v2 ∧ Dj v2 lv ∧ Below B w1 w2 := by
  obtain ⟨h1, h2, h3, h4, h5⟩ := h
  have k2 := own_later h2 b
  refine ⟨by rw [uvs_snoc] at g1; exact g1, own_kept (S := fun j => some j = vv.ownBlock) k2 (chg_grown (chg_refl _ _) g2 (fun j hj _ => hj.symm)) (fun j hj e => h5 j e.symm hj), from_moved h3 g3 (Nat.le_trans hB b.size), fun q hq e => ?_, below_grown (Below.refl _ _) g2 (Nat.le_trans hB b.size) (fun j hj => h3 j hj)⟩
  rcases g3 q hq with d | d
  · exact h5 q d e
  · have := (k2.lt q e).2; omega
/-- And one in the second. -/
theorem vl_two {w2 w3 w4 : World} {B x y n : Nat} {vs ls : List Nat} {v2 lv l2 : Value} (o1 : w2.ownsRow 0 30 1 v2 (n + 1) (uvs (vs ++ [x]))) (o2 : w2.ownsRow 0 3 1 lv n (nis ls)) (f1 : From B v2) (f2 : From B lv) (d : Dj v2 lv) (hB : B ≤ w2.heap.size) (b : Below w2.heap.size w2 w3)
    (g1 : w4.ownsRow 0 3 1 l2 (n + 1) (nis ls ++ [.int .i64 (y : Int)])) (g2 : w3.grownBy w4 lv.ownBlock) (g3 : Moved w3 lv l2) :
    w4.ownsRow 0 30 1 v2 (n + 1) (uvs (vs ++ [x])) ∧ w4.ownsRow 0 3 1 l2 (n + 1) (nis (ls ++ [y])) ∧ From B l2 ∧ Dj v2 l2 ∧ Below B w3 w4 := by
  have k1 := own_later o1 b
  refine ⟨own_kept (S := fun j => some j = lv.ownBlock) k1 (chg_grown (chg_refl _ _) g2 (fun j hj _ => hj.symm)) (fun j hj e => d j hj e.symm), by rw [nis_snoc] at g1; exact g1, from_moved f2 g3 (Nat.le_trans hB b.size), fun q hq e => ?_, below_grown (Below.refl _ _) g2 (Nat.le_trans hB b.size) (fun j hj => f2 j hj)⟩
  rcases g3 q e with h | h
  · exact d q hq h
  · have := (k1.lt q hq).2; omega
def R2 (k : Nat) (L cs : List Nat) (P : List (Nat × Nat)) (w6 : World) (vv lv sv iv : Value) (wr : World) : Prop :=
  ∃ (j : Nat) (z : Int), j ≤ P.length ∧ iv = .int .i64 z ∧ z + 1 = (j : Int) ∧ sv = .int .i64 (sts k L cs ((P.drop j).map Prod.fst) : Nat) ∧ VL wr w6.heap.size vv lv (vls k L cs ((P.drop j).map Prod.fst)) ∧ Below w6.heap.size w6 wr
def R3 (p B : Nat) (V : List (Nat × Nat)) (w6 : World) (st : Nat) (vv lv sv cv : Value) (wr : World) : Prop :=
  ∃ c : Nat, c ≤ p ∧ sv = .int .i64 (st : Int) ∧ cv = .int .i64 c ∧ VL wr B vv lv V ∧ Below w6.heap.size w6 wr
theorem w64_in (n : Int) (h : -9223372036854775808 ≤ n ∧ n ≤ 9223372036854775807) : wrap64 n = n := by unfold wrap64; omega
theorem sh_test (st ee bb : Nat) (pb : 2 ^ bb ≤ 4096) (he : ee ≤ 4096) : decide ((st : Int) < wrap64 ((ee : Int) + wrap64 ((2 : Int) ^ bb))) = decide (st < ee + 2 ^ bb) := by
  have e : ((2 : Int) ^ bb) = ((2 ^ bb : Nat) : Int) := by rw [Int.natCast_pow]; rfl
  rw [e]
  generalize 2 ^ bb = n at *
  rw [w64_in (n : Int) (by omega), w64_in _ (by omega)]
  by_cases h : st < ee + n
  · rw [decide_eq_true h, decide_eq_true (by omega)]
  · rw [decide_eq_false h, decide_eq_false (by omega)]
theorem vX_map (V : List (Nat × Nat)) (i : Nat) : (V.map Prod.fst).getD i 0 = vX V i := by
  unfold vX; rw [List.getD_eq_getElem?_getD, List.getD_eq_getElem?_getD, List.getElem?_map]; cases V[i]? <;> rfl
theorem vK_map (V : List (Nat × Nat)) (i : Nat) : (V.map Prod.snd).getD i 0 = vK V i := by
  unfold vK; rw [List.getD_eq_getElem?_getD, List.getD_eq_getElem?_getD, List.getElem?_map]; cases V[i]? <;> rfl
theorem us_own {w : World} {b n cap : Nat} {V : List (Nat × Nat)} (h : w.ownsRow 0 30 1 (.slice (some ⟨b, 0, none⟩) n cap) n (uvs (V.map Prod.fst))) (hl : V.length = n) (hb : ∀ i, vX V i < 18446744073709551616) : Us w (some ⟨b, 0, none⟩) n (vX V) := fun _ =>
  ⟨_, rfl, fun i hi => ⟨by rw [Addr.add_lit, Nat.zero_add, (own_there h i (by omega)).1, uvs_get _ i (by rw [List.length_map]; omega), vX_map], hb i⟩⟩
theorem nis_get2 (l : List Nat) (i : Nat) (h : i < l.length) : (nis l)[i]? = some (.int .i64 ((l.getD i 0 : Nat) : Int)) := by
  rw [List.getD_eq_getElem?_getD]; simp [nis, ivs, iv, h]
theorem ls_own {w : World} {b n cap : Nat} {V : List (Nat × Nat)} (h : w.ownsRow 0 3 1 (.slice (some ⟨b, 0, none⟩) n cap) n (nis (V.map Prod.snd))) (hl : V.length = n) (hb : ∀ i, vK V i ≤ 64) : Ls w (some ⟨b, 0, none⟩) n (fun i => (vK V i : Int)) := fun _ =>
  ⟨_, rfl, fun i hi => ⟨by rw [Addr.add_lit, Nat.zero_add, (own_there h i (by omega)).1, nis_get2 _ i (by rw [List.length_map]; omega), vK_map], by have := hb i; show _ ≤ (vK V i : Int); omega, by have := hb i; show (vK V i : Int) ≤ _; omega⟩⟩
theorem all_bdi {k : Nat} {L cs : List Nat} (h : Spd k L cs) (l : List Nat) (hl : ∀ c ∈ l, 0 < g L c) (i : Nat) : vX (allV k L cs l) i < 2 ^ k ∧ vK (allV k L cs l) i ≤ k := by
  unfold vX vK
  rw [List.getD_eq_getElem?_getD]
  cases hv : (allV k L cs l)[i]? with
  | none => exact ⟨Nat.two_pow_pos k, Nat.zero_le _⟩
  | some v =>
    have hm := List.mem_of_getElem? hv
    unfold allV at hm
    rcases List.mem_append.1 hm with e | e
    · obtain ⟨h1, h2⟩ := vls_bd h l hl v e
      exact ⟨Nat.lt_of_lt_of_le h1 (Nat.pow_le_pow_right (by decide) h2), h2⟩
    · rw [List.mem_singleton] at e
      subst e
      exact ⟨sts_lt h l hl, Nat.le_refl _⟩
theorem grown_blk {W W1 : World} {v : Value} {A : Nat} {cs : Array Value} {t : TypeId} (h : Blk W A cs t) (g : W.grownBy W1 v.ownBlock) (hne : ∀ q, v.ownBlock = some q → q ≠ A) : Blk W1 A cs t :=
  blk_kept (S := fun j => some j = v.ownBlock) h (chg_grown (chg_refl _ _) g (fun j hj _ => hj.symm)) (fun e => hne A e.symm rfl)
theorem vl_set {w : World} {B d b : Nat} {v l : Value} {V : List (Nat × Nat)} (h1 : w.ownsRow 0 30 1 v (V.length + 1) (uvs (V.map Prod.fst ++ [d]))) (h2 : w.ownsRow 0 3 1 l (V.length + 1) (nis (V.map Prod.snd ++ [b]))) (h3 : From B v) (h4 : From B l) (h5 : Dj v l) : VL w B v l (V ++ [(d, b)]) := by
  unfold VL
  rw [List.map_append, List.map_append, List.length_append]
  exact ⟨h1, h2, h3, h4, h5⟩
end Go.Proofs.Ytofclflcicjlaaa
