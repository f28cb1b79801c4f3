/-
  What the walks of package vint come to, as plain functions on numbers and lists of bytes, and what holds of them: no Go in sight; each condition stands at its theorem; texts set together and cut, a text as a row of bytes: what Get and GetWord say of them; normed numbers, plain lists; each condition stands at its theorem; normed numbers, plain lists; each condition stands at its theorem; the first of Order is the first place of the greatest number; the condition stands at the theorem; what is taken from the greatest number, and a heap of all places; each condition stands at its theorem; rows of the call's own and the cells of elder blocks, later; logs, numbers of all classes, sums: what the small functions say of any list; each condition stands at its theorem; shares, without their rests; each condition stands at its theorem.
-/
import Derived.Test.YtofclflcicjlaaaGreatBd
import Derived.Test.YtofclflcicjlaaaGreatRo
import Derived.Laws.BitsAllLaws
import Derived.WalkSmall
import Derived.WalkKit
import Derived.ProofKit
import Derived.OpenShut
import Derived.ArgAppend
import Derived.Laws.IdiomStrings
import Derived.Deep.RegionWith
import Derived.OwnWalk
import Derived.BigQuiet
namespace Go.Proofs.YtofclflcicjlaaaGreat
open Go.ChangeShapes Go.WideShapes Go.ChangeAt Go.RowKit
open Go.ChangeMaps (open_string shut_string)

def bs (l : List UInt8) : ByteArray := ⟨l.toArray⟩
theorem u8_of (n : Nat) (h : n < 256) : (UInt8.ofNat n).toNat = n := by simp [UInt8.toNat_ofNat']; omega

theorem app_list (a b : ByteArray) : (a ++ b).data.toList = a.data.toList ++ b.data.toList := by rw [ByteArray.data_append]; simp
/-- A whole list that was read is told from its bytes' beginning on: what is behind them. -/
def mayN (log : Int) (l : List Nat) : Bool := decide (7 ≤ log ∧ log ≤ 12) && decide (l.length = 65) && decide (l.sum = 2 ^ log.toNat)
theorem mayN_yes {log : Int} {l : List Nat} : mayN log l = true ↔ (7 ≤ log ∧ log ≤ 12) ∧ l.length = 65 ∧ l.sum = 2 ^ log.toNat := by
  simp only [mayN, Bool.and_eq_true, decide_eq_true_eq, and_assoc]
theorem le_sum (l : List Nat) : ∀ x ∈ l, x ≤ l.sum := by
  induction l with
  | nil => simp
  | cons y l ih =>
    intro x hx
    simp only [List.sum_cons]
    rcases List.mem_cons.1 hx with rfl | h
    · omega
    · have := ih x h; omega
theorem mayN_bd {log : Int} {l : List Nat} (h : mayN log l = true) : ∀ x ∈ l, x ≤ 4096 := by
  obtain ⟨h1, _, h3⟩ := mayN_yes.1 h
  intro x hx
  have a := le_sum l x hx
  have : (2 : Nat) ^ log.toNat ≤ 2 ^ 12 := Nat.pow_le_pow_right (by omega) (by omega)
  omega
/-- What a class gets at first. -/
def share (log all x : Nat) : Nat := if x = 0 then 0 else max 1 (x * 2 ^ log / all)
def shares (log : Nat) (f : List Nat) : List Nat := f.map (share log f.sum)
def mxOf : List Nat → Nat
  | [] => 0
  | x :: l => max x (mxOf l)
/-- The first place of the greatest number. -/
def topOf : List Nat → Nat
  | [] => 0
  | x :: l => if mxOf l ≤ x then 0 else topOf l + 1
def IsTop (l : List Nat) (k : Nat) : Prop := k < l.length ∧ (∀ i, i < l.length → l.getD i 0 ≤ l.getD k 0) ∧ ∀ i, i < k → l.getD i 0 < l.getD k 0
theorem mx_le (l : List Nat) (i : Nat) : l.getD i 0 ≤ mxOf l := by
  induction l generalizing i with
  | nil => simp
  | cons x l ih =>
    cases i with
    | zero => simp only [List.getD_cons_zero, mxOf]; omega
    | succ i => simp only [List.getD_cons_succ, mxOf]; have := ih i; omega
theorem topOf_get (l : List Nat) : l.getD (topOf l) 0 = mxOf l := by
  induction l with
  | nil => rfl
  | cons x l ih =>
    simp only [topOf, mxOf]
    split
    · simp only [List.getD_cons_zero]; omega
    · simp only [List.getD_cons_succ, ih]; omega
theorem topOf_lt (l : List Nat) (h : l ≠ []) : topOf l < l.length := by
  induction l with
  | nil => exact absurd rfl h
  | cons x l ih =>
    simp only [topOf, List.length_cons]
    split
    · omega
    · rename_i hn
      have : l ≠ [] := by rintro rfl; simp [mxOf] at hn
      have := ih this
      omega
theorem topOf_first (l : List Nat) (i : Nat) (hi : i < topOf l) : l.getD i 0 < mxOf l := by
  induction l generalizing i with
  | nil => simp [topOf] at hi
  | cons x l ih =>
    simp only [topOf] at hi
    split at hi
    · omega
    · rename_i hn
      cases i with
      | zero => simp only [List.getD_cons_zero, mxOf]; omega
      | succ i => simp only [List.getD_cons_succ, mxOf]; have := ih i (by omega); omega
theorem topOf_is (l : List Nat) (h : l ≠ []) : IsTop l (topOf l) :=
  ⟨topOf_lt l h, fun i _ => by rw [topOf_get]; exact mx_le l i, fun i hi => by rw [topOf_get]; exact topOf_first l i hi⟩
theorem topOf_one {l : List Nat} {j k : Nat} (hj : IsTop l j) (hk : IsTop l k) : j = k := by
  have a := hj.2.1 k hk.1
  have b := hk.2.1 j hj.1
  rcases Nat.lt_trichotomy j k with h | h | h
  · have := hk.2.2 j h; omega
  · exact h
  · have := hj.2.2 k h; omega
theorem topOf_eq {l : List Nat} {k : Nat} (hk : IsTop l k) : topOf l = k :=
  topOf_one (topOf_is l (by rintro rfl; exact absurd hk.1 (by simp))) hk
theorem sum_set (l : List Nat) (k v : Nat) (hk : k < l.length) : (l.set k v).sum + l.getD k 0 = l.sum + v := by
  induction l generalizing k with
  | nil => simp at hk
  | cons x l ih =>
    cases k with
    | zero => simp only [List.set_cons_zero, List.sum_cons, List.getD_cons_zero]; omega
    | succ k =>
      simp only [List.set_cons_succ, List.sum_cons, List.getD_cons_succ]
      have := ih k (by simpa using hk)
      omega
theorem sum_le_mx (l : List Nat) : l.sum ≤ l.length * mxOf l := by
  induction l with
  | nil => simp
  | cons x l ih =>
    simp only [List.sum_cons, List.length_cons, mxOf, Nat.add_mul, Nat.one_mul]
    have : l.length * mxOf l ≤ l.length * max x (mxOf l) := Nat.mul_le_mul_left _ (by omega)
    omega
theorem set_getD (l : List Nat) (k v i : Nat) (hk : k < l.length) : (l.set k v).getD i 0 = if i = k then v else l.getD i 0 := by
  simp only [List.getD_eq_getElem?_getD, List.getElem?_set]
  by_cases h : k = i
  · subst h; simp [hk]
  · have : ¬i = k := fun e => h e.symm
    simp [h, this]
/-- One is taken from the greatest number. -/
def dec (l : List Nat) : List Nat := l.set (topOf l) (l.getD (topOf l) 0 - 1)
def decN : Nat → List Nat → List Nat
  | 0, l => l
  | n + 1, l => decN n (dec l)
theorem dec_length (l : List Nat) : (dec l).length = l.length := by simp [dec]
theorem decN_length (n : Nat) (l : List Nat) : (decN n l).length = l.length := by
  induction n generalizing l with
  | zero => rfl
  | succ n ih => rw [decN, ih, dec_length]
/-- More than as many as there are: the greatest number is two at least. -/
theorem mx_two {l : List Nat} (h : l.length < l.sum) : 2 ≤ mxOf l := by
  rcases Nat.lt_or_ge (mxOf l) 2 with h2 | h2
  · have a := sum_le_mx l
    have : l.length * mxOf l ≤ l.length * 1 := Nat.mul_le_mul_left _ (by omega)
    omega
  · exact h2
theorem ne_of_sum {l : List Nat} (h : l.length < l.sum) : l ≠ [] := by rintro rfl; simp at h
theorem dec_sum {l : List Nat} (h : l.length < l.sum) : (dec l).sum + 1 = l.sum := by
  have a := sum_set l (topOf l) (l.getD (topOf l) 0 - 1) (topOf_lt l (ne_of_sum h))
  have b := mx_two h
  rw [topOf_get] at a
  simp only [dec, topOf_get]
  omega
theorem dec_getD {l : List Nat} (h : l.length < l.sum) (i : Nat) : (dec l).getD i 0 = if i = topOf l then mxOf l - 1 else l.getD i 0 := by
  rw [dec, set_getD _ _ _ _ (topOf_lt l (ne_of_sum h)), topOf_get]
/-- What stays true while too much is taken: who has some and who none; who may have at most one more than another. -/
def Fair (f l : List Nat) : Prop := l.length = f.length ∧ (∀ i, 0 < l.getD i 0 ↔ 0 < f.getD i 0) ∧ ∀ i j, f.getD j 0 < f.getD i 0 → l.getD j 0 ≤ l.getD i 0 + 1
theorem fair_dec {f l : List Nat} (h : Fair f l) (hs : l.length < l.sum) : Fair f (dec l) := by
  obtain ⟨h1, h2, h3⟩ := h
  have hm := mx_two hs
  have tg := topOf_get l
  refine ⟨by rw [dec_length]; exact h1, fun i => ?_, fun i j hij => ?_⟩
  · rw [dec_getD hs, ← h2 i]
    split
    · rename_i e; subst e; rw [tg]; omega
    · exact Iff.rfl
  · rw [dec_getD hs, dec_getD hs]
    have a := h3 i j hij
    have b := mx_le l j
    split <;> split
    · omega
    · rename_i e1 e2; subst e1; rw [tg] at a; omega
    · omega
    · omega
theorem fair_decN (n : Nat) {f l : List Nat} (h : Fair f l) (hs : f.length + n ≤ l.sum) : Fair f (decN n l) ∧ (decN n l).sum + n = l.sum := by
  induction n generalizing l with
  | zero => exact ⟨h, rfl⟩
  | succ n ih =>
    have hl : l.length < l.sum := by rw [h.1]; omega
    have d := dec_sum hl
    have := ih (fair_dec h hl) (by omega)
    exact ⟨this.1, by rw [decN]; omega⟩
/-- The document's answer. -/
def nrm (log : Nat) (f : List Nat) : List Nat :=
  if (shares log f).sum < 2 ^ log then (shares log f).set (topOf f) ((shares log f).getD (topOf f) 0 + (2 ^ log - (shares log f).sum)) else decN ((shares log f).sum - 2 ^ log) (shares log f)
theorem shares_getD (log : Nat) (f : List Nat) (i : Nat) : (shares log f).getD i 0 = share log f.sum (f.getD i 0) := by
  simp only [shares, List.getD_eq_getElem?_getD, List.getElem?_map]
  cases f[i]? <;> simp [share]
theorem share_pos (log all x : Nat) : 0 < share log all x ↔ 0 < x := by
  unfold share; split <;> omega
theorem share_mono (log all : Nat) {x y : Nat} (h : x ≤ y) : share log all x ≤ share log all y := by
  unfold share
  have a : x * 2 ^ log / all ≤ y * 2 ^ log / all := Nat.div_le_div_right (Nat.mul_le_mul_right _ h)
  split <;> split <;> omega
theorem shares_fair (log : Nat) (f : List Nat) : Fair f (shares log f) :=
  ⟨by simp [shares], fun i => by rw [shares_getD]; exact share_pos _ _ _, fun i j h => by
    rw [shares_getD, shares_getD]
    exact Nat.le_succ_of_le (share_mono _ _ (by omega))⟩
theorem mx_pos {f : List Nat} (h : 0 < f.sum) : 0 < mxOf f := by
  have := sum_le_mx f
  rcases Nat.eq_zero_or_pos (mxOf f) with e | e
  · rw [e] at this; omega
  · exact e
theorem nrm_fair {log : Nat} {f : List Nat} (hf : 0 < f.sum) (hl : f.length ≤ 2 ^ log) : Fair f (nrm log f) ∧ (nrm log f).sum = 2 ^ log := by
  have sf := shares_fair log f
  unfold nrm
  split
  · rename_i hlt
    have hne : f ≠ [] := by rintro rfl; simp at hf
    have ht : topOf f < (shares log f).length := by rw [sf.1]; exact topOf_lt f hne
    have tp := topOf_get f
    have mp := mx_pos hf
    refine ⟨⟨by rw [List.length_set]; exact sf.1, fun i => ?_, fun i j hij => ?_⟩, ?_⟩
    · rw [set_getD _ _ _ _ ht]
      split
      · rename_i e; subst e; rw [tp]; omega
      · exact sf.2.1 i
    · rw [set_getD _ _ _ _ ht, set_getD _ _ _ _ ht]
      have a := sf.2.2 i j hij
      have b := mx_le f i
      split <;> split
      · omega
      · rename_i e1 e2; subst e1; omega
      · rename_i e1 e2; subst e2; omega
      · omega
    · have a := sum_set (shares log f) (topOf f) ((shares log f).getD (topOf f) 0 + (2 ^ log - (shares log f).sum)) ht
      omega
  · rename_i hge
    have := fair_decN ((shares log f).sum - 2 ^ log) sf (by omega)
    exact ⟨this.1, by omega⟩
/-- The document's answer of any frequencies: the error and the numbers. -/
def normA (f : List Int) (log : Int) : Nat × List Nat :=
  if f.length = 65 ∧ (∀ z ∈ f, 0 ≤ z ∧ z ≤ 16777216) ∧ 0 < f.sum ∧ 7 ≤ log ∧ log ≤ 12 then (0, nrm log.toNat (f.map Int.toNat)) else (1, [])
theorem fr_map (l : List Nat) (p : Nat) : fr (l.map Int.ofNat) p = (l.getD p 0 : Int) := by
  simp only [fr, List.getD_eq_getElem?_getD, List.getElem?_map]
  cases l[p]? <;> simp
/-- The first of Order is the first place of the greatest number. -/
theorem ordered_top {l : List Nat} {k : Nat} {r : List Nat} (h : Ordered (l.map Int.ofNat) l.length (k :: r)) : topOf l = k := by
  have hk := (ordered_mem h k).1 (by simp)
  rw [fr_map] at hk
  have hp := List.pairwise_cons.1 h.2
  have key : ∀ i, i < l.length → 0 < l.getD i 0 → i ≠ k → ¬ ltf (l.map Int.ofNat) i k := fun i hi h0 hne => by
    have hm := (ordered_mem h i).2 ⟨hi, by rw [fr_map]; omega⟩
    rcases List.mem_cons.1 hm with e | e
    · exact absurd e hne
    · exact hp.1 i e
  apply topOf_eq
  refine ⟨hk.1, fun i hi => ?_, fun i hi => ?_⟩
  · by_cases h0 : 0 < l.getD i 0
    · by_cases hne : i = k
      · subst hne; omega
      · have := key i hi h0 hne
        simp only [ltf, fr_map] at this
        omega
    · omega
  · by_cases h0 : 0 < l.getD i 0
    · have := key i (by omega) h0 (by omega)
      simp only [ltf, fr_map] at this
      omega
    · omega

theorem nis_map (L : List Nat) : nis L = ivs (L.map Int.ofNat) := rfl
theorem decN_succ (n : Nat) (l : List Nat) : decN (n + 1) l = dec (decN n l) := by
  induction n generalizing l with
  | zero => rfl
  | succ n ih => rw [decN, ih]; rfl
theorem decN_sum (n : Nat) (l : List Nat) (h : l.length + n ≤ l.sum) : (decN n l).sum + n = l.sum := by
  induction n with
  | zero => rfl
  | succ n ih =>
    have := ih (by omega)
    have d := dec_sum (l := decN n l) (by rw [decN_length]; omega)
    rw [decN_succ]; omega

theorem own_below {W W' : World} {B base e size : Nat} {v : Value} {n : Nat} {xs : List Value} (h : W.ownsRow base e size v n xs) (g : Below B W W') (hB : ∀ k, v.ownBlock = some k → k < B) : W'.ownsRow base e size v n xs := by
  refine ⟨h.1, ?_⟩
  rcases h.2 with hn | ⟨b, cap, cur, rfl, hb, hg, rest⟩
  · exact .inl hn
  · exact .inr ⟨b, cap, cur, rfl, hb, (g.block b (hB b rfl)).trans hg, rest⟩
theorem own_later {W W' : World} {base e size : Nat} {v : Value} {n : Nat} {xs : List Value} (h : W.ownsRow base e size v n xs) (g : Below W.heap.size W W') : W'.ownsRow base e size v n xs :=
  own_below h g (fun k hk => (h.lt k hk).2)
theorem bcell {W w1 : World} (hb : Below W.heap.size W w1) : (∀ b o, b < W.heap.size → w1.cell? ⟨b, o, none⟩ = W.cell? ⟨b, o, none⟩) ∧ (∀ b o, b < W.heap.size → w1.frozen? ⟨b, o, none⟩ = W.frozen? ⟨b, o, none⟩) :=
  ⟨fun b o h => hb.cell (p := ⟨b, o, none⟩) h, fun b o h => hb.frozen (p := ⟨b, o, none⟩) h⟩

theorem ret_int {k : IntKind} {a b : Int} (h : a = b) : Ending.returned (.int k a) = .returned (.int k b) := by rw [h]
theorem ret_bool {a b : Bool} (h : a = b) : Ending.returned (.bool a) = .returned (.bool b) := by rw [h]
theorem hmf : ∀ (fn : Fn) (first cap : Array Value) (w : World), (Instr.makeFunc fn first cap).run Tryz.prog w = .ok (.func fn first cap) w := fun _ _ _ _ => rfl
/-! ### logs, classes, sums -/
def lgB (z : Int) : Bool := decide (7 ≤ z ∧ z ≤ 12)
theorem lgB_iff (z : Int) : lgB z = true ↔ 7 ≤ z ∧ z ≤ 12 := by unfold lgB; rw [decide_eq_true_eq]
theorem maylog_any (z : Int) (w : World) : Calls Tryz.prog 93 #[.int .i64 z] w fun e w' => e = .returned (.bool (lgB z)) ∧ w' = w := by
  by_cases h : 7 ≤ z
  · have B : Hid (lgB z = decide (z ≤ 12)) := by show _ = _; simp [lgB, h]
    go_enter Tryz.func93, Tryz.ntmps93
    go_wp2
    go_ret
    exact ⟨ret_bool B.out.symm, rfl⟩
  · have B : Hid (lgB z = false) := by show _ = _; simp [lgB, h]
    go_enter Tryz.func93, Tryz.ntmps93
    go_wp2
    go_ret
    exact ⟨ret_bool B.out.symm, rfl⟩
theorem islog_any (z : Int) (w : World) : Calls Tryz.prog 41 #[.int .i64 z] w fun e w' => e = .returned (.bool (lgB z)) ∧ w' = w := by
  by_cases h : 7 ≤ z
  · have B : Hid (lgB z = decide (z ≤ 12)) := by show _ = _; simp [lgB, h]
    go_enter Tryz.func41, Tryz.ntmps41
    go_wp2
    go_ret
    exact ⟨ret_bool B.out.symm, rfl⟩
  · have B : Hid (lgB z = false) := by show _ = _; simp [lgB, h]
    go_enter Tryz.func41, Tryz.ntmps41
    go_wp2
    go_ret
    exact ⟨ret_bool B.out.symm, rfl⟩
def bad (m z : Int) : Bool := decide (z < 0) || decide (m < z)
theorem wrong_any (A : Nat) (m z : Int) (w : World) (h0 : w.cell? ⟨A, 0, none⟩ = some (.int .i64 m)) : Calls Tryz.prog 112 #[.int .i64 z, .pointer (some ⟨A, 0, none⟩)] w fun e w' => e = .returned (.bool (bad m z)) ∧ w' = w := by
  by_cases h : z < 0
  · have B : Hid (bad m z = true) := by show _ = _; simp [bad, h]
    go_enter Tryz.func112, Tryz.ntmps112
    go_wp2
    go_ret
    exact ⟨ret_bool B.out.symm, rfl⟩
  · have B : Hid (bad m z = decide (m < z)) := by show _ = _; simp [bad, h]
    go_enter Tryz.func112, Tryz.ntmps112
    go_wp2
    go_ret
    exact ⟨ret_bool B.out.symm, rfl⟩
def IxRel (m : Int) (f : List Int) (w : World) (sv : Value) (wr : World) : Prop :=
  ∃ i : Nat, i ≤ f.length ∧ sv = .int .i64 i ∧ (∀ z ∈ f.take i, bad m z = false) ∧ wr = w
set_option maxRecDepth 100000 in
set_option maxHeartbeats 1000000 in
theorem index_any (A : Nat) (m : Int) (a : Option Addr) (n cap : Nat) (f : List Int) (w : World) (h : RI w a n f) (hn : n ≤ 100000) (hA : w.cell? ⟨A, 0, none⟩ = some (.int .i64 m)) :
    Calls Tryz.prog 120 #[.slice a n cap, .func (.func 112) #[] #[.pointer (some ⟨A, 0, none⟩)]] w fun e w' => ∃ k : Int, e = .returned (.int .i64 k) ∧ (decide (0 ≤ k) = f.any (bad m)) ∧ w' = w := by
  obtain ⟨h1, h2⟩ := h
  subst h1
  have HX := Hid.intro h2
  clear h2
  go_enter Tryz.func120, Tryz.ntmps120
  go_wp2_with fail
  go_loopw [8] (fun sv wr => IxRel m f w sv wr) (fun sv _ => f.length - (intOf sv).toNat)
  case atStart => exact ⟨0, by omega, rfl, by simp, rfl⟩
  case round =>
    obtain ⟨i, hi, rfl, d1, rfl⟩ := hrel
    by_cases hlt : i < f.length
    · obtain ⟨x, rfl, hx⟩ := HX.out (by omega)
      have cx := hx i hlt
      have WR := wrong_any A m f[i] wr hA
      have hm := List.getElem_mem hlt
      have ts := take_snoc f i hlt
      by_cases hb : bad m f[i] = true
      · have A : Hid (f.any (bad m) = true) := List.any_eq_true.2 ⟨_, hm, hb⟩
        rw [hb] at WR
        clear d1 hx hm ts hb
        generalize f[i] = z at *
        go_wp2_with fail
        with_reducible refine WR.mono ?_
        rintro e w1 ⟨rfl, rfl⟩
        clear WR
        go_wp2_with fail
        go_ret
        exact ⟨_, rfl, by rw [A.out]; simp, rfl⟩
      · have hb' : bad m f[i] = false := by simpa using hb
        have T2 : Hid (∀ z ∈ f.take (i + 1), bad m z = false) := fun z hz => by
          rw [ts] at hz
          rcases List.mem_append.1 hz with h | h
          · exact d1 z h
          · rw [List.mem_singleton.1 h]; exact hb'
        rw [hb'] at WR
        clear d1 hx hm ts hb hb'
        generalize f[i] = z at *
        go_wp2_with fail
        with_reducible refine WR.mono ?_
        rintro e w1 ⟨rfl, rfl⟩
        clear WR
        go_wp2_with fail
        go_roundw
        case rel => exact ⟨i + 1, by omega, by go_num, T2.out, rfl⟩
        case measure => simp [intOf]; omega
    · have A : Hid (f.any (bad m) = false) := by
        show _ = _
        rw [List.any_eq_false]
        intro z hz
        have := d1 z (by rw [List.take_of_length_le (by omega)]; exact hz)
        simp [this]
      clear d1
      go_wp2_with fail
      go_ret
      exact ⟨_, rfl, by rw [A.out]; decide, rfl⟩
theorem contains_any (A : Nat) (m : Int) (a : Option Addr) (n cap : Nat) (f : List Int) (w : World) (h : RI w a n f) (hn : n ≤ 100000) (hA : w.cell? ⟨A, 0, none⟩ = some (.int .i64 m)) :
    Calls Tryz.prog 113 #[.slice a n cap, .func (.func 112) #[] #[.pointer (some ⟨A, 0, none⟩)]] w fun e w' => e = .returned (.bool (f.any (bad m))) ∧ w' = w := by
  have IX := index_any A m a n cap f w h hn hA
  clear h
  go_enter Tryz.func113, Tryz.ntmps113
  go_wp2_with fail
  with_reducible refine IX.mono ?_
  rintro e w1 ⟨k, rfl, k1, rfl⟩
  have K1 := Hid.intro k1
  clear IX k1
  go_wp2_with fail
  go_ret
  exact ⟨ret_bool K1.out, rfl⟩
def okC (m : Int) (f : List Int) : Bool := decide (f.length = 65) && !(f.any (bad m))
theorem okC_iff (m : Int) (f : List Int) : okC m f = true ↔ f.length = 65 ∧ ∀ z ∈ f, 0 ≤ z ∧ z ≤ m := by
  unfold okC
  simp only [Bool.and_eq_true, decide_eq_true_eq, Bool.not_eq_true', List.any_eq_false, bad]
  constructor
  · rintro ⟨h1, h2⟩
    refine ⟨h1, fun z hz => ?_⟩
    have := h2 z hz
    simp only [Bool.or_eq_true, decide_eq_true_eq, not_or] at this
    omega
  · rintro ⟨h1, h2⟩
    refine ⟨h1, fun z hz => ?_⟩
    have := h2 z hz
    simp only [Bool.or_eq_true, decide_eq_true_eq, not_or]
    omega
set_option maxRecDepth 100000 in
set_option maxHeartbeats 1000000 in
theorem ofc_any (m : Int) (a : Option Addr) (n cap : Nat) (f : List Int) (w : World) (h : RI w a n f) (hn : n ≤ 100000) :
    Calls Tryz.prog 94 #[.slice a n cap, .int .i64 m] w fun e w' => e = .returned (.bool (okC m f)) ∧ Below w.heap.size w w' := by
  have hl := h.1
  have b1 : Below w.heap.size w (w.alloc (.cells #[.int .i64 m] 3)) := (Below.refl _ _).alloc (Nat.le_refl _) _
  have CF := contains_any w.heap.size m a n cap f (w.alloc (.cells #[.int .i64 m] 3)) (ri_below h b1) hn (by rw [blk_cell (blk_new w _ 3)]; rfl)
  have mf := hmf
  clear h
  by_cases h1 : n = 65
  · subst h1
    have B : Hid (okC m f = !(f.any (bad m))) := by show _ = _; unfold okC; simp [hl]
    have t1 : ((65 : Nat) : Int) = 65 := rfl
    generalize f.any (bad m) = z at *
    clear hl
    go_enter Tryz.func94, Tryz.ntmps94
    go_wp2_with fail
    with_reducible refine CF.mono ?_
    rintro e w1 ⟨rfl, rfl⟩
    clear CF
    go_wp2_with fail
    go_ret
    exact ⟨ret_bool B.out.symm, b1⟩
  · have B : Hid (okC m f = false) := by show _ = _; unfold okC; simp [hl, h1]
    have t1 : ((n : Int) == 65) = false := by simp; omega
    clear h1 CF
    go_enter Tryz.func94, Tryz.ntmps94
    go_wp2_with fail
    go_ret
    exact ⟨ret_bool B.out.symm, b1⟩
/-- Sums: of a beginning. -/
def sm (f : List Int) (i : Nat) : Int := (f.take i).sum
theorem sm_succ (f : List Int) (i : Nat) (h : i < f.length) : sm f (i + 1) = sm f i + f[i] := by unfold sm; rw [take_snoc f i h, List.sum_append]; simp
theorem sm_all (f : List Int) (n : Nat) (h : f.length ≤ n) : sm f n = f.sum := by unfold sm; rw [List.take_of_length_le h]
theorem sm_bd (m : Nat) (f : List Int) (hf : ∀ z ∈ f, 0 ≤ z ∧ z ≤ (m : Int)) : ∀ i, i ≤ f.length → 0 ≤ sm f i ∧ sm f i ≤ ((i * m : Nat) : Int) := by
  intro i
  induction i with
  | zero => intro _; simp [sm]
  | succ i ih =>
    intro hi
    have := ih (by omega)
    have b := hf f[i] (List.getElem_mem (by omega))
    rw [sm_succ f i (by omega), Nat.succ_mul]
    omega
def SumRel (M : Nat → Int) (n : Nat) (w : World) (tv iv : Value) (wr : World) : Prop :=
  ∃ i : Nat, i ≤ n ∧ iv = .int .i64 i ∧ tv = .int .i64 (M i) ∧ wr = w
set_option maxRecDepth 100000 in
set_option maxHeartbeats 1000000 in
theorem sum_any (a : Option Addr) (n cap : Nat) (f : List Int) (w : World) (h : RI w a n f) (hn : n ≤ 1000) (hf : ∀ z ∈ f, 0 ≤ z ∧ z ≤ 16777216) :
    Calls Tryz.prog 95 #[.slice a n cap] w fun e w' => e = .returned (.int .i64 f.sum) ∧ w' = w := by
  obtain ⟨h1, h2⟩ := h
  subst h1
  have HX := Hid.intro h2
  have HA := Hid.intro (sm_all f f.length (Nat.le_refl _))
  have HS := Hid.intro (sm_succ f)
  have HB := Hid.intro (sm_bd 16777216 f hf)
  have HF := Hid.intro hf
  have H0 : Hid (sm f 0 = 0) := by show _ = _; simp [sm]
  clear h2 hf
  generalize sm f = M at *
  go_enter Tryz.func95, Tryz.ntmps95
  go_wp2_with fail
  go_loopw [3, 8] (fun tv iv wr => SumRel M f.length w tv iv wr) (fun _ iv _ => f.length - (intOf iv).toNat)
  case atStart => exact ⟨0, by omega, rfl, by rw [H0.out], rfl⟩
  case round =>
    obtain ⟨i, hi, rfl, rfl, rfl⟩ := hrel
    by_cases hlt : i < f.length
    · obtain ⟨x, rfl, hx⟩ := HX.out (by omega)
      have cx := hx i hlt
      have sb := HB.out i hi
      have S1 := Hid.intro (HS.out i hlt)
      have fb := HF.out _ (List.getElem_mem hlt)
      have sb2 : M i ≤ 1000 * 16777216 := by
        have : i * 16777216 ≤ 1000 * 16777216 := Nat.mul_le_mul_right _ (by omega)
        omega
      generalize f[i] = z at *
      have sb0 := sb.1
      clear sb hx
      generalize M i = s at *
      go_wp2_with fail
      go_roundw
      case rel => exact ⟨i + 1, by omega, by go_num, by rw [S1.out], rfl⟩
      case measure => simp [intOf]; omega
    · obtain rfl : i = f.length := by omega
      go_wp2_with fail
      go_ret
      exact ⟨ret_int HA.out, rfl⟩

theorem fill_step {α β : Type} (f : α → β) (z : β) (l : List α) (i : Nat) (h : i < l.length) : ((l.take i).map f ++ List.replicate (l.length - i) z).set i (f l[i]) = (l.take (i + 1)).map f ++ List.replicate (l.length - (i + 1)) z := by
  rw [List.set_append_right _ _ (by simp; omega), List.take_succ_eq_append_getElem h, List.map_append, List.append_assoc]
  have e : l.length - i = (l.length - (i + 1)) + 1 := by omega
  rw [e, List.replicate_succ]
  simp
  rw [show i - min i l.length = 0 from by omega]; rfl
theorem own_one {W : World} {base e g n cap : Nat} {xs : List Value} (h : W.ownsRow base e 1 (.slice (some ⟨g, 0, none⟩) n cap) n xs) (i : Nat) (hi : i < n) :
    ∃ u, W.cell? ⟨g, i, none⟩ = some u ∧ W.frozen? ⟨g, i, none⟩ = false := by
  obtain ⟨_, s0, f0⟩ := own_there h i (by omega)
  obtain ⟨u, hu⟩ := Option.isSome_iff_exists.1 s0
  exact ⟨u, hu, f0⟩

/-! ### places by two: a heap in a list -/
theorem fill_same {α β : Type} (f : α → β) (z : β) (l : List α) (i : Nat) (h : i < l.length) (hz : f l[i] = z) : (l.take i).map f ++ List.replicate (l.length - i) z = (l.take (i + 1)).map f ++ List.replicate (l.length - (i + 1)) z := by
  obtain ⟨k, hk⟩ : ∃ k, l.length - i = k + 1 := ⟨l.length - i - 1, by omega⟩
  rw [hk, show l.length - (i + 1) = k from by omega, List.take_succ_eq_append_getElem h, List.map_append, List.replicate_succ, List.append_assoc]
  simp [hz]

theorem pow_bd (k : Nat) (h : k ≤ 12) : 2 ^ k ≤ 4096 := by
  have : (2 : Nat) ^ k ≤ 2 ^ 12 := Nat.pow_le_pow_right (by omega) h
  omega
theorem sum_ofNat (F : List Nat) : (F.map Int.ofNat).sum = ((F.sum : Nat) : Int) := by
  induction F with
  | nil => rfl
  | cons x F ih => simp only [List.map_cons, List.sum_cons, ih]; simp
end Go.Proofs.YtofclflcicjlaaaGreat
