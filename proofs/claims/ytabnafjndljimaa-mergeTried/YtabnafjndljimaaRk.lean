/-
  A row of singles, one for each of order's classes.
-/
import Derived.Test.YtabnafjndljimaaCh
import Derived.Test.YtabnafjndljimaaMl
namespace Go.Proofs.Ytabnafjndljimaa
open Go.ChangeShapes Go.WideShapes Go.ChangeAt Go.RowKit
open Go.ChangeMaps (open_string shut_string)

/-- The frequencies of order's classes. -/
def cs (f : List Int) (o : List Nat) : List Nat := o.map (fun p => (fr f p).toNat)
/-- The lengths of order's classes, in that order. -/
def Ranks (f : List Int) (limit : Nat) (o r : List Nat) : Prop :=
  r.length = o.length ∧ (o.length = 1 → r = [1]) ∧ (2 ≤ o.length → ∃ ls, Chain (cs f o).reverse limit (2 * o.length - 2) ls ∧ r = vec o.length ls)
theorem cs_len (f : List Int) (o : List Nat) : (cs f o).length = o.length := by simp [cs]
theorem cs_at (f : List Int) (o : List Nat) (i : Nat) (h : i < o.length) : at0 (cs f o) i = (fr f (g o i)).toNat := by
  unfold at0 cs
  rw [List.getD_eq_getElem?_getD, List.getElem?_map, List.getElem?_eq_getElem h, g_eq o i h]; rfl
theorem cs_falls {f : List Int} {n : Nat} {o : List Nat} (h : Ordered f n o) : Falls (cs f o) := by
  intro i j hij hj
  rw [cs_len] at hj
  rw [cs_at f o i (by omega), cs_at f o j hj]
  have := List.pairwise_iff_getElem.1 h.2 i j (by omega) hj hij
  rw [← g_eq o i (by omega), ← g_eq o j hj] at this
  unfold ltf at this
  omega
theorem cs_pos {f : List Int} {n : Nat} {o : List Nat} (h : Ordered f n o) : ∀ x ∈ cs f o, 0 < x := by
  intro x hx
  obtain ⟨p, hp, rfl⟩ := List.mem_map.1 hx
  have := ((ordered_mem h p).1 hp).2
  omega
theorem ordered_len {f : List Int} {n : Nat} {o : List Nat} (h : Ordered f n o) : o.length ≤ n := by rw [h.1.length_eq]; exact places_le f n
/-! ### a row of packages, filled one after the other -/
def zc : List Value := [.int .i64 0, .slice none 0 0]
def rep : Nat → List Value
  | 0 => []
  | n + 1 => zc ++ rep n
theorem rep_len : ∀ n, (rep n).length = n * 2
  | 0 => rfl
  | n + 1 => by rw [rep, List.length_append, rep_len n]; simp [zc]; omega
theorem rep_at : ∀ (n i : Nat), (rep n)[i]? = if i < n * 2 then some (if i % 2 = 0 then .int .i64 0 else .slice none 0 0) else none
  | 0, i => by simp [rep]
  | n + 1, 0 => by rw [rep]; simp [zc]
  | n + 1, 1 => by rw [rep]; simp [zc]; omega
  | n + 1, i + 2 => by
    rw [rep, List.getElem?_append_right (by simp [zc])]
    have e : i + 2 - zc.length = i := by simp [zc]
    rw [e, rep_at n i]
    by_cases h : i < n * 2
    · have h' : i + 2 < (n + 1) * 2 := by omega
      have : (i + 2) % 2 = i % 2 := by omega
      rw [this]
      simp only [h, h', if_true]
    · have h' : ¬ i + 2 < (n + 1) * 2 := by omega
      simp only [h, h', if_false]
theorem made_packs (n : Nat) : (madeCells #[Value.int .i64 0, .slice none 0 0] (n * 2)).toList = rep n := by
  apply List.ext_getElem?
  intro i
  rw [rep_at]
  simp only [madeCells, Array.toList_map, Array.toList_range, List.getElem?_map]
  by_cases h : i < n * 2
  · rw [List.getElem?_range h, if_pos h]
    rcases Nat.mod_two_eq_zero_or_one i with e | e
    · simp [e]
    · simp [e]
  · rw [List.getElem?_eq_none (by simp; omega), if_neg h]; rfl
theorem make_packs (n : Nat) (hn : n ≤ 100000) (W : World) :
    (Instr.makeSlice 61 (.int .i64 (n : Int)) (.int .i64 (n : Int))).run Try.prog W = .ok (.slice (some ⟨W.heap.size, 0, none⟩) n n) (W.alloc (.cells (madeCells #[.int .i64 0, .slice none 0 0] (n * 2)) 63)) := by
  obtain ⟨i, hi, hz, hs, hb⟩ := info_all info63
  have hr := run_make (P := Try.prog) W 61 63 i _ Try.underlying61 hi hz .i64 .i64 n n (by omega) (Int.le_refl _) (by rw [hb]; omega) (by omega)
  simp only [Int.toNat_natCast, hs] at hr
  exact hr
theorem own_made_packs (W : World) (n : Nat) (hn : n ≤ 100000) : (W.alloc (.cells (madeCells #[.int .i64 0, .slice none 0 0] (n * 2)) 63)).ownsRow W.heap.size 63 2 (.slice (some ⟨W.heap.size, 0, none⟩) n n) n (rep n) :=
  ⟨rep_len n, .inr ⟨_, n, _, rfl, Nat.le_refl _, blk_new _ _ _, Nat.le_refl _, by simp only [maxLen]; omega, by simp [madeCells], by rw [made_packs, List.take_of_length_le (by rw [rep_len]; omega)]⟩⟩
theorem rep_fill (N : Nat) (ps : List Pk) (p : Pk) (m : Nat) : ((pkl N ps ++ rep (m + 1)).set (ps.length * 2) (.int .i64 (p.c : Int))).set (ps.length * 2 + 1) (pcv N p) = pkl N (ps ++ [p]) ++ rep m := by
  rw [List.set_append_right _ _ (by rw [pkl_len]; omega), List.set_append_right _ _ (by rw [pkl_len]; omega), pkl_len, pkl_append, List.append_assoc]
  congr 1
  rw [rep, Nat.sub_self, show ps.length * 2 + 1 - ps.length * 2 = 1 by omega]
  rfl
theorem unit_of (N r : Nat) : ((List.replicate N (0 : Int)).set r 1) = (unit N r).map Int.ofNat := by
  unfold unit; rw [List.map_set, List.map_replicate]; rfl
def RkRel (f : List Int) (o : List Nat) (N S : Nat) (W : World) (sv : Value) (wr : World) : Prop :=
  ∃ (i : Nat) (ps : List Pk), i ≤ N ∧ sv = .int .i64 i ∧ ps.length = i ∧ wr.ownsRow 0 63 2 (.slice (some ⟨S, 0, none⟩) N N) N (pkl N ps ++ rep (N - i)) ∧ Tbl wr N 1 ps (fun k => k = S) ∧ ps.map key = (ks (cs f o)).take i ∧ Below W.heap.size W wr
theorem rk_step {f : List Int} {o : List Nat} {N S i z : Nat} {ps : List Pk} {W wr : World} (hi : i < N) (hN : N ≤ 1000) (ho : o.length = N) (hz : z = at0 (cs f o) i) (hz24 : z ≤ 16777216) (hS : W.heap.size ≤ S) (hp : ps.length = i)
    (h1 : wr.ownsRow 0 63 2 (.slice (some ⟨S, 0, none⟩) N N) N (pkl N ps ++ rep (N - i))) (h2 : Tbl wr N 1 ps (fun k => k = S)) (h3 : ps.map key = (ks (cs f o)).take i) (h4 : Below W.heap.size W wr) :
    RkRel f o N S W (.int .i64 ((i + 1 : Nat) : Int)) ((((wr.alloc (.cells (madeCells #[.int .i64 0] N) 3)).setCell ⟨wr.heap.size, i, none⟩ (.int .i64 1)).setCell ⟨S, i * 2, none⟩ (.int .i64 (z : Int))).setCell ⟨S, i * 2 + 1, none⟩ (.slice (some ⟨wr.heap.size, 0, none⟩) N N)) := by
  have lS := (h1.lt S rfl).2
  have om := own_made_ints wr 3 N (by omega)
  have o1 := own_set om i (.int .i64 1)
  rw [ivs_set, unit_of] at o1
  have c1 : Chg (fun _ => False) wr ((wr.alloc (.cells (madeCells #[.int .i64 0] N) 3)).setCell ⟨wr.heap.size, i, none⟩ (.int .i64 1)) := chg_set (chg_alloc (chg_refl _ _) _) _ _ (fun h => by simp at h)
  generalize (wr.alloc (.cells (madeCells #[.int .i64 0] N) 3)).setCell ⟨wr.heap.size, i, none⟩ (.int .i64 1) = w1 at *
  have o2 : Tm w1 N ⟨z, wr.heap.size, N, unit N i⟩ := own_low o1 (Nat.zero_le _)
  have h1' := own_kept h1 c1 (fun _ _ h => h)
  have c2 : Chg (· = S) w1 ((w1.setCell ⟨S, i * 2, none⟩ (.int .i64 (z : Int))).setCell ⟨S, i * 2 + 1, none⟩ (.slice (some ⟨wr.heap.size, 0, none⟩) N N)) := chg_in (chg_in (chg_refl _ _) _ _) _ _
  have o3 := own_set (own_set h1' (i * 2) (.int .i64 (z : Int))) (i * 2 + 1) (.slice (some ⟨wr.heap.size, 0, none⟩) N N)
  have e := rep_fill N ps ⟨z, wr.heap.size, N, unit N i⟩ (N - (i + 1))
  rw [hp, show N - (i + 1) + 1 = N - i by omega] at e
  have e' : ((pkl N ps ++ rep (N - i)).set (i * 2) (.int .i64 (z : Int))).set (i * 2 + 1) (.slice (some ⟨wr.heap.size, 0, none⟩) N N) = pkl N (ps ++ [⟨z, wr.heap.size, N, unit N i⟩]) ++ rep (N - (i + 1)) := e
  rw [e'] at o3
  have hb1 : Below W.heap.size W w1 := h4.trans (chg_below c1 h4.size (fun _ h => h.elim))
  have hil : i < (ks (cs f o)).length := by rw [ks_len, cs_len, ho]; exact hi
  refine ⟨i + 1, ps ++ [⟨z, wr.heap.size, N, unit N i⟩], by omega, rfl, by simp [hp], o3, fun p hp' => ?_, ?_, hb1.trans (chg_below c2 hb1.size (fun k hk => by omega))⟩
  · rcases List.mem_append.1 hp' with h | h
    · obtain ⟨a1, a2, a3⟩ := h2 p h
      exact ⟨a1, tm_kept (tm_kept a2 c1 (fun h => h)) c2 a3, a3⟩
    · rw [List.mem_singleton.1 h]
      have hne : wr.heap.size ≠ S := by omega
      exact ⟨⟨unit_len N i, unit_le N i, by show z ≤ 16777216 * 1; omega⟩, tm_kept o2 c2 hne, hne⟩
  · rw [List.map_append, List.map_singleton, h3, List.take_succ_eq_append_getElem hil]
    congr 1
    have e1 : at0 (ks (cs f o)) i = (ks (cs f o))[i] := by unfold at0; rw [List.getD_eq_getElem?_getD, List.getElem?_eq_getElem hil]; rfl
    rw [← e1, ks_at _ _ (by rw [cs_len, ho]; exact hi), cs_len, ho, ← hz]; rfl
end Go.Proofs.Ytabnafjndljimaa
