/-
  A queue of two lists of packages; packages by two.
-/
import Derived.Test.YtabnafjndljimaaCc
namespace Go.Proofs.Ytabnafjndljimaa
open Go.ChangeShapes Go.WideShapes Go.ChangeAt Go.RowKit
open Go.ChangeMaps (open_string shut_string)

/-- The cells of a list of packages. -/
def pkl (N : Nat) (ps : List Pk) : List Value := ps.flatMap (fun p => [.int .i64 (p.c : Int), pcv N p])
theorem pkl_append (N : Nat) (a b : List Pk) : pkl N (a ++ b) = pkl N a ++ pkl N b := by simp [pkl]
theorem pkl_len (N : Nat) (ps : List Pk) : (pkl N ps).length = ps.length * 2 := by
  induction ps with
  | nil => rfl
  | cons p l ih => rw [pkl, List.flatMap_cons, List.length_append, ← pkl, ih]; simp; omega
theorem pkl_one (N : Nat) (ps : List Pk) : ∀ u ∈ pkl N ps, u.oneCell' = true := by
  intro u hu
  obtain ⟨p, _, hp⟩ := List.mem_flatMap.1 hu
  simp at hp
  rcases hp with rfl | rfl <;> rfl
theorem kvs_range (N : Nat) (tbl : List Pk) : kvs N tbl (List.range tbl.length) = pkl N tbl := by
  have e : tbl = (List.range tbl.length).map (T tbl) := by
    apply List.ext_getElem?
    intro i
    by_cases h : i < tbl.length
    · rw [List.getElem?_map, List.getElem?_range h, List.getElem?_eq_getElem h]
      show _ = some (T tbl i)
      rw [T_eq tbl i h]
    · rw [List.getElem?_eq_none (by omega), List.getElem?_eq_none (by simp; omega)]
  have e2 : pkl N tbl = pkl N ((List.range tbl.length).map (T tbl)) := by rw [← e]
  rw [e2]
  unfold kvs tvs pkl
  rw [List.flatMap_map]
/-- A list of packages that can be read from a slice on. -/
def RK (W : World) (a : Option Addr) (n c N : Nat) (ps : List Pk) : Prop :=
  ps.length = n ∧ (a = none → c = 0 ∧ n = 0) ∧ ∀ x, a = some x → ∀ j u, (pkl N ps)[j]? = some u → W.cell? (x.add j) = some u
theorem rk_below {W W' : World} {a : Option Addr} {n c N : Nat} {ps : List Pk} (h : RK W a n c N ps) (b : Below W.heap.size W W') : RK W' a n c N ps :=
  ⟨h.1, h.2.1, fun x hx j u hu => by have k := h.2.2 x hx j u hu; rw [b.cell (World.block_lt_of_cell? _ _ k)]; exact k⟩
theorem tbl_below {W W' : World} {N D : Nat} {tbl : List Pk} {S : Nat → Prop} (h : Tbl W N D tbl S) (b : Below W.heap.size W W') : Tbl W' N D tbl S :=
  fun p hp => ⟨(h p hp).1, own_later (h p hp).2.1 b, (h p hp).2.2⟩
theorem qp_new {W w2 : World} {b cap n N D : Nat} {tbl : List Pk} (hT : Tbl W N D tbl (fun _ => False)) (B : Below W.heap.size W w2) (h : w2.ownsRow W.heap.size 63 2 (.slice (some ⟨b, 0, none⟩) n cap) n (pkl N tbl)) (hn : tbl.length = n) :
    Qp (w2.alloc (.cells #[.slice (some ⟨b, 0, none⟩) n cap] 89)) w2.heap.size (.slice (some ⟨b, 0, none⟩) n cap) N D tbl (List.range n) := by
  have lb := h.lt b rfl
  refine ⟨blk_new _ _ _, ?_, ?_, fun p hp => ⟨(hT p hp).1, World.ownsRow.alloc (own_later (hT p hp).2.1 B) _, fun hf => ?_⟩, fun i hi => ?_⟩
  · rw [List.length_range]
    subst hn
    rw [kvs_range]
    exact own_low (World.ownsRow.alloc h _) (Nat.zero_le _)
  · intro e; simp [Value.ownBlock] at e; omega
  · have := tm_lt (hT p hp).2.1
    have := B.size
    rcases hf with e | e
    · omega
    · simp [Value.ownBlock] at e; omega
  · rw [hn]; exact List.mem_range.1 hi
set_option maxRecDepth 100000 in
set_option maxHeartbeats 1000000 in
theorem queueOf_any (a1 a2 : Option Addr) (n1 n2 c1 c2 N D : Nat) (ps qs : List Pk) (W : World) (r1 : RK W a1 n1 c1 N ps) (r2 : RK W a2 n2 c2 N qs) (hT : Tbl W N D (ps ++ qs) (fun _ => False)) (h0 : 0 < n1) (hn : n1 + n2 ≤ 500) (hN : N ≤ 100000) (hD : D < 16777216) :
    Calls Try.prog 35 #[.slice a1 n1 c1, .slice a2 n2 c2] W fun e W' => ∃ A b cap l, e = .returned (.pointer (some ⟨A, 0, none⟩)) ∧ Qp W' A (.slice (some ⟨b, 0, none⟩) (n1 + n2) cap) N D (ps ++ qs) l ∧ l.length = n1 + n2 ∧ PopInv (klt (ps ++ qs)) (List.range (ps ++ qs).length) [] l ∧ W.heap.size ≤ A ∧ W.heap.size ≤ b ∧ Below W.heap.size W W' := by
  have b1 : Below W.heap.size W (W.alloc (.cells #[.slice a1 n1 c1, .slice a2 n2 c2] 61)) := (Below.refl _ _).alloc (Nat.le_refl _) _
  have s1 := rk_below r1 b1
  have s2 := rk_below r2 b1
  have CC := concat_any W.heap.size n1 n2 c1 c2 a1 a2 (pkl N ps) (pkl N qs) _ (blk_new W #[.slice a1 n1 c1, .slice a2 n2 c2] 61) h0 (by omega) (by rw [pkl_len, r1.1]) (by rw [pkl_len, r2.1]) (pkl_one N ps) (pkl_one N qs) r1.2.1 r2.2.1 s1.2.2 s2.2.2
  have HL : Hid ((ps ++ qs).length = n1 + n2) := by show _ = _; rw [List.length_append, r1.1, r2.1]
  have HT := Hid.intro hT
  have B1 := Hid.intro b1
  clear r1 r2 hT s1 s2 b1
  go_enter Try.func35, Try.ntmps35
  go_wp2_with fail
  with_reducible refine CC.mono ?_
  rintro e w2 ⟨v, rfl, k1, k2⟩
  have k1 := own_low k1 B1.out.size
  have k2 : Below W.heap.size W w2 := B1.out.trans (k2.mono B1.out.size)
  obtain ⟨b, cap, rfl⟩ := own_slice k1 (by omega)
  have lb := (k1.lt b rfl)
  have Q := qp_new HT.out k2 (by rw [pkl_append]; exact k1) HL.out
  have IN := initP_any w2.heap.size b cap (n1 + n2) N D (ps ++ qs) (List.range (n1 + n2)) _ Q (by simp) hn (by omega) hN hD
  have K2 := Hid.intro k2
  have sz2 := k2.size
  clear CC k1 k2 Q
  go_wp2_with fail
  with_reducible refine IN.mono ?_
  rintro e w3 ⟨rfl, l, m1, m2, m3, m4⟩
  clear IN
  have R : Hid (l.length = n1 + n2 ∧ PopInv (klt (ps ++ qs)) (List.range (ps ++ qs).length) [] l ∧ Below W.heap.size W w3) := by
    refine ⟨by rw [m2.length_eq, List.length_range], ⟨by rw [HL.out]; exact m2, List.Pairwise.nil, fun a ha => by simp at ha, m3⟩, (K2.out.alloc K2.out.size _).trans (chg_below m4 (by simp; have := K2.out.size; omega) (fun k hk => ?_))⟩
    rcases hk with e | e
    · omega
    · simp [Value.ownBlock] at e; omega
  clear m2 m3 m4
  go_wp2_with fail
  go_ret
  exact ⟨_, b, cap, l, rfl, m1, R.out.1, R.out.2.1, sz2, lb.1, R.out.2.2⟩
theorem prs_range (L : List Nat) : prs L = (List.range (L.length / 2)).map (fun i => at0 L (2 * i) + at0 L (2 * i + 1)) := by
  apply List.ext_getElem?
  intro i
  by_cases h : i < L.length / 2
  · have e := prs_at L i h
    have hl : i < (prs L).length := by rw [prs_len]; exact h
    rw [List.getElem?_map, List.getElem?_range h, List.getElem?_eq_getElem hl]
    unfold at0 at e
    rw [List.getD_eq_getElem?_getD, List.getElem?_eq_getElem hl] at e
    show some (prs L)[i] = some (at0 L (2 * i) + at0 L (2 * i + 1))
    congr 1
  · rw [List.getElem?_eq_none (by rw [prs_len]; omega), List.getElem?_eq_none (by simp; omega)]
theorem key_with {N D E : Nat} {p q r : Pk} (hp : PkOk N D p) (hq : PkOk N E q) (h1 : r.c = p.c + q.c) (h2 : r.ts = List.zipWith (· + ·) p.ts q.ts) : key r = key p + key q ∧ PkOk N (D + E) r := by
  refine ⟨by unfold key; rw [h1, h2]; exact fk_add _ _ _ _ (by rw [hp.1, hq.1]), ?_, ?_, ?_⟩
  · rw [h2, List.length_zipWith, hp.1, hq.1]; omega
  · intro t ht
    rw [h2] at ht
    obtain ⟨i, hi, e⟩ := List.getElem_of_mem ht
    rw [List.length_zipWith] at hi
    rw [List.getElem_zipWith] at e
    have := hp.2.1 _ (List.getElem_mem (by omega : i < p.ts.length))
    have := hq.2.1 _ (List.getElem_mem (by omega : i < q.ts.length))
    omega
  · have := hp.2.2; have := hq.2.2; rw [h1, Nat.mul_add]; omega
end Go.Proofs.Ytabnafjndljimaa
