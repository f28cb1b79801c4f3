/-
  Lengths: of whatever frequencies and limit, or the error; the document's example: awake; lengths and frequencies at their places; classes alike often; each more than all ahead together.
-/
import Derived.Test.YthjokhfjfiaaiaaMy
namespace Go.Proofs.Ythjokhfjfiaaiaa
open Go.ChangeShapes Go.WideShapes Go.ChangeAt Go.RowKit
open Go.ChangeMaps (open_string shut_string)

theorem chg_cell {S : Nat → Prop} {W W' : World} {p : Addr} (c : Chg S W W') (hp : ¬ S p.block) (hlt : p.block < W.heap.size) : W'.cell? p = W.cell? p := by
  have h := c.2.2.2.2 p.block hlt hp
  simp [World.cell?, h]
theorem own_ri2 {W : World} {base e b n cap : Nat} {zs : List Int} (h : W.ownsRow base e 1 (.slice (some ⟨b, 0, none⟩) n cap) n (ivs zs)) : RI W (some ⟨b, 0, none⟩) n zs := by
  obtain ⟨a, c, hv, _, _, r⟩ := own_ri h
  injection hv with hv _ _
  rw [hv]; exact r
theorem made_at (n i : Nat) (h : i < n) : (madeCells #[Value.int .i64 0] n)[i]? = some (.int .i64 0) := by
  have h' : i < (madeCells #[Value.int .i64 0] n).size := by simp [madeCells]; exact h
  rw [Array.getElem?_eq_getElem h']
  simp [madeCells, Nat.mod_one]

/-! ### what stands where lengths were put -/
theorem fold_set_no (ps : List (Nat × Nat)) (c : Nat) (h : ∀ p ∈ ps, p.1 ≠ c) : ∀ l : List Nat, (ps.foldl (fun l p => l.set p.1 p.2) l).getD c 0 = l.getD c 0 := by
  induction ps with
  | nil => intro l; rfl
  | cons p ps ih =>
    intro l
    rw [List.foldl_cons, ih (fun q hq => h q (List.mem_cons_of_mem _ hq))]
    simp only [List.getD_eq_getElem?_getD]
    rw [List.getElem?_set, if_neg (h p List.mem_cons_self)]
theorem fold_set_at : ∀ (ps : List (Nat × Nat)) (l : List Nat) (q : Nat) (hq : q < ps.length), (ps.map (·.1)).Nodup → ps[q].1 < l.length → at0 (ps.foldl (fun l p => l.set p.1 p.2) l) ps[q].1 = ps[q].2
  | [], _, q, hq, _, _ => by simp at hq
  | p :: ps, l, 0, _, hn, hl => by
    show at0 _ p.1 = p.2
    have hl' : p.1 < l.length := hl
    rw [List.map_cons, List.nodup_cons] at hn
    rw [List.foldl_cons]
    unfold at0
    rw [fold_set_no ps p.1 (fun x hx e => hn.1 (by rw [← e]; exact List.mem_map_of_mem hx)), List.getD_eq_getElem?_getD, List.getElem?_set, if_pos rfl, if_pos hl']; rfl
  | p :: ps, l, q + 1, hq, hn, hl => by
    rw [List.map_cons, List.nodup_cons] at hn
    rw [List.foldl_cons]
    exact fold_set_at ps (l.set p.1 p.2) q (by simpa using hq) hn.2 (by rw [List.length_set]; exact hl)
theorem put_at (o r : List Nat) (q : Nat) (ho : q < o.length) (hr : r.length = o.length) (hn : o.Nodup) (h65 : o[q] < 65) : at0 (put o r) o[q] = at0 r q := by
  have hz : q < (o.zip r).length := by rw [List.length_zip]; omega
  have e1 : (o.zip r)[q].1 = o[q] := by simp
  have e2 : (o.zip r)[q].2 = r[q] := by simp
  have := fold_set_at (o.zip r) (List.replicate 65 0) q hz (by rw [List.map_fst_zip (by omega)]; exact hn) (by rw [e1]; simpa using h65)
  rw [e1, e2] at this
  unfold put
  rw [this]
  unfold at0
  rw [List.getD_eq_getElem?_getD, List.getElem?_eq_getElem (by omega)]; rfl
theorem put_no (o r : List Nat) (c : Nat) (h : c ∉ o) : at0 (put o r) c = 0 := by
  unfold put at0
  rw [fold_set_no (o.zip r) c (fun p hp e => h (by rw [← e]; exact (List.of_mem_zip hp).1))]
  rw [List.getD_eq_getElem?_getD, List.getElem?_replicate]
  split <;> rfl
theorem fr_set (f : List Int) (p : Nat) (z : Int) (c : Nat) (h : p < f.length) : fr (f.set p z) c = if c = p then z else fr f c := by
  unfold fr
  rw [List.getD_eq_getElem?_getD, List.getD_eq_getElem?_getD, List.getElem?_set]
  by_cases e : p = c
  · subst e; rw [if_pos rfl, if_pos h, if_pos rfl]; rfl
  · rw [if_neg e, if_neg (fun h => e h.symm)]
theorem cs_rising {f : List Int} {n : Nat} {o : List Nat} (h : Ordered f n o) : Rising (cs f o).reverse := rising_of fun i j hij hj => by
  rw [List.length_reverse] at hj
  rw [at0_rev _ _ (by omega), at0_rev _ _ (by omega)]
  exact cs_falls h _ _ (by omega) (by omega)
theorem cs_pos' {f : List Int} {n : Nat} {o : List Nat} (h : Ordered f n o) : ∀ x ∈ (cs f o).reverse, 0 < x := fun x hx => cs_pos h x (List.mem_reverse.1 hx)
end Go.Proofs.Ythjokhfjfiaaiaa
