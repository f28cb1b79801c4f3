/-
  The bytes of parts and the parts of bytes: plain lists; each condition stands at its theorem.
-/
import Derived.Test.YtofclflcicjlaaaGreatRefBvw
import Derived.Test.YtofclflcicjlaaaGreatSg
import Derived.Test.YtofclflcicjlaaaGreatRdb
import Derived.Test.YtofclflcicjlaaaGreatMathvw
namespace Go.Proofs.YtofclflcicjlaaaGreat
open Go.ChangeShapes Go.WideShapes Go.ChangeAt Go.RowKit
open Go.ChangeMaps (open_string shut_string)

/-! ### the bytes of parts, and the parts of bytes -/
def tailB (K : Nat) (L cs : List Nat) (P : List (Nat × Nat)) : List UInt8 :=
  byt (mk (vX (allV K L cs (P.map Prod.fst))) (vK (allV K L cs (P.map Prod.fst))) (P.length + 1)) (szs (vK (allV K L cs (P.map Prod.fst))) (P.length + 1) / 8 + 1)
def restB (P : List (Nat × Nat)) : List UInt8 := byt (num (vX (rstV P)) (vK (rstV P)) P.length) (byc (szs (vK (rstV P)) P.length))
def putB (K : Nat) (L cs : List Nat) (P : List (Nat × Nat)) : List UInt8 := vb (tailB K L cs P).length ++ (tailB K L cs P ++ restB P)
def lastB (t : List UInt8) : Nat := le t / 256 ^ (t.length - 1)
/-- What is told behind the state's number: of the tail's number, and the rests'. -/
def endB (_K : Nat) (_L _cs : List Nat) (R rs : Nat) (o : Option (List (Nat × Nat) × Nat × Nat × Nat)) : Nat × List (Nat × Nat) :=
  match o with
  | none => (3, [])
  | some (acc, x, a, r) => if x = 0 ∧ a = 0 ∧ rs - r < 8 ∧ got R r (rs - r) = 0 then (0, acc) else (3, [])
def midB (K : Nat) (L cs : List Nat) (t q : List UInt8) (n : Nat) : Nat × List (Nat × Nat) :=
  if lastB t = 0 ∨ Nat.log2 (le t) < K then (3, [])
  else endB K L cs (le q) (8 * q.length) (gS K L cs (le t) (le q) (8 * q.length) n (got (le t) (Nat.log2 (le t) - K) K) (Nat.log2 (le t) - K) 0 [])
def getB (K : Nat) (L cs : List Nat) (s : List UInt8) (n : Nat) : Nat × List (Nat × Nat) :=
  if (numb s).2.2 ≠ 0 ∨ s.length - (numb s).2.1 < (numb s).1 then (3, [])
  else midB K L cs ((s.drop (numb s).2.1).take (numb s).1) ((s.drop (numb s).2.1).drop (numb s).1) n
theorem tail_facts {K : Nat} {L cs : List Nat} (P : List (Nat × Nat)) :
    le (tailB K L cs P) = mk (vX (allV K L cs (P.map Prod.fst))) (vK (allV K L cs (P.map Prod.fst))) (P.length + 1) ∧ lastB (tailB K L cs P) ≠ 0 ∧
    Nat.log2 (le (tailB K L cs P)) = szs (vK (allV K L cs (P.map Prod.fst))) (P.length + 1) ∧ (tailB K L cs P).length = szs (vK (allV K L cs (P.map Prod.fst))) (P.length + 1) / 8 + 1 := by
  have h := num_lt (vX (allV K L cs (P.map Prod.fst))) (vK (allV K L cs (P.map Prod.fst))) (P.length + 1)
  have e1 := sealed_le _ _ h
  have e2 := last_sealed _ _ h
  have e3 := log_mark _ _ h
  have e4 : (sealed (num (vX (allV K L cs (P.map Prod.fst))) (vK (allV K L cs (P.map Prod.fst))) (P.length + 1)) (szs (vK (allV K L cs (P.map Prod.fst))) (P.length + 1))).data.toList = tailB K L cs P := rfl
  have e5 := sealed_size (num (vX (allV K L cs (P.map Prod.fst))) (vK (allV K L cs (P.map Prod.fst))) (P.length + 1)) (szs (vK (allV K L cs (P.map Prod.fst))) (P.length + 1))
  have e6 : (tailB K L cs P).length = szs (vK (allV K L cs (P.map Prod.fst))) (P.length + 1) / 8 + 1 := by unfold tailB; rw [byt_len]
  rw [e4] at e1
  refine ⟨e1, ?_, by rw [e1]; exact e3, e6⟩
  unfold last at e2
  rw [e4, e5, ← e6] at e2
  exact e2
theorem rest_facts (P : List (Nat × Nat)) : le (restB P) = num (vX (rstV P)) (vK (rstV P)) P.length ∧ (restB P).length = byc (szs (vK (rstV P)) P.length) ∧ num (vX (rstV P)) (vK (rstV P)) P.length < 2 ^ szs (vK (rstV P)) P.length := by
  have h := num_lt (vX (rstV P)) (vK (rstV P)) P.length
  refine ⟨?_, by unfold restB; rw [byt_len], h⟩
  unfold restB
  rw [le_byt, Nat.mod_eq_of_lt (lt_byc _ _ h)]
theorem tail_state {K : Nat} {L cs : List Nat} (h : Spd K L cs) (P : List (Nat × Nat)) (hP : ∀ p ∈ P, 0 < g L p.1) :
    got (mk (vX (allV K L cs (P.map Prod.fst))) (vK (allV K L cs (P.map Prod.fst))) (P.length + 1)) (szs (vK (allV K L cs (P.map Prod.fst))) P.length) K = sts K L cs (P.map Prod.fst) ∧
    szs (vK (allV K L cs (P.map Prod.fst))) (P.length + 1) = szs (vK (allV K L cs (P.map Prod.fst))) P.length + K := by
  obtain ⟨e1, e2⟩ := all_last K L cs (P.map Prod.fst)
  rw [List.length_map] at e1 e2
  have := got_mk (vX (allV K L cs (P.map Prod.fst))) (vK (allV K L cs (P.map Prod.fst))) (P.length + 1) P.length (by omega)
  rw [e1, e2, Nat.mod_eq_of_lt (sts_lt h _ (fun c hc => by obtain ⟨p, hp, rfl⟩ := List.mem_map.1 hc; exact hP p hp))] at this
  exact ⟨this, by rw [szs, e2]⟩
/-- The tail whole, the rests whatever they are. -/
theorem mid_tail {K : Nat} {L cs : List Nat} (h : Spd K L cs) (P : List (Nat × Nat)) (hP : ∀ p ∈ P, 0 < g L p.1) (q : List UInt8) (n : Nat) :
    midB K L cs (tailB K L cs P) q n = endB K L cs (le q) (8 * q.length) (gS K L cs (mk (vX (allV K L cs (P.map Prod.fst))) (vK (allV K L cs (P.map Prod.fst))) (P.length + 1)) (le q) (8 * q.length) n (sts K L cs (P.map Prod.fst)) (szs (vK (allV K L cs (P.map Prod.fst))) P.length) 0 []) := by
  obtain ⟨t1, t2, t3, t4⟩ := tail_facts (K := K) (L := L) (cs := cs) P
  obtain ⟨s1, s2⟩ := tail_state h P hP
  unfold midB
  rw [if_neg (by rw [t3, s2]; omega), t3, t1, s2, Nat.add_sub_cancel, s1]
theorem get_split {K : Nat} {L cs : List Nat} {t q s : List UInt8} (n : Nat) (hs : s = vb t.length ++ (t ++ q)) (ht : t.length < 18446744073709551616) : getB K L cs s n = midB K L cs t q n := by
  have hn := numb_vb t.length (t ++ q) ht
  rw [← hs] at hn
  unfold getB
  rw [hn, if_neg (by rw [hs]; simp)]
  simp only
  rw [hs, List.drop_left, List.take_left, List.drop_left]
theorem vK_bd {V : List (Nat × Nat)} {B : Nat} (h : ∀ v ∈ V, v.2 ≤ B) (i : Nat) : vK V i ≤ B := by
  unfold vK
  by_cases hi : i < V.length
  · rw [List.getD_eq_getElem?_getD, List.getElem?_eq_getElem hi]
    exact h _ (List.getElem_mem hi)
  · rw [List.getD_eq_getElem?_getD, List.getElem?_eq_none (by omega)]
    exact Nat.zero_le _
theorem all_bd {K : Nat} {L cs : List Nat} (h : Spd K L cs) (l : List Nat) (hl : ∀ c ∈ l, 0 < g L c) : ∀ v ∈ allV K L cs l, v.1 < 2 ^ v.2 ∧ v.2 ≤ K := by
  intro v hv
  rcases List.mem_append.1 hv with e | e
  · exact vls_bd h l hl v e
  · rw [List.mem_singleton.1 e]
    exact ⟨sts_lt h l hl, Nat.le_refl _⟩
theorem szs_bd {k : Nat → Nat} {B : Nat} (h : ∀ i, k i ≤ B) (m : Nat) : szs k m ≤ B * m := by
  induction m with
  | zero => simp [szs]
  | succ m ih => rw [szs, Nat.mul_succ]; have := h m; omega
theorem fst_pos {L : List Nat} {P : List (Nat × Nat)} (hP : ∀ p ∈ P, 0 < g L p.1) : ∀ c ∈ P.map Prod.fst, 0 < g L c := fun c hc => by obtain ⟨p, hp, rfl⟩ := List.mem_map.1 hc; exact hP p hp
theorem tail_small {K : Nat} {L cs : List Nat} (h : Spd K L cs) (P : List (Nat × Nat)) (hP : ∀ p ∈ P, 0 < g L p.1) (hn : P.length ≤ 4096) : (tailB K L cs P).length ≤ 6200 := by
  obtain ⟨t1, t2, t3, t4⟩ := tail_facts (K := K) (L := L) (cs := cs) P
  have := szs_bd (B := 12) (vK_bd (V := allV K L cs (P.map Prod.fst)) (B := 12) (fun v hv => Nat.le_trans (all_bd h _ (fst_pos hP) v hv).2 h.k12)) (P.length + 1)
  rw [t4]; omega
/-- Parts are told again by their bytes. -/
theorem getB_back {K : Nat} {L cs : List Nat} (h : Spd K L cs) (P : List (Nat × Nat)) (hP : ∀ p ∈ P, 0 < g L p.1) (hr : ∀ p ∈ P, p.2 < 2 ^ (p.1 - 1)) (hn : P.length ≤ 4096) : getB K L cs (putB K L cs P) P.length = (0, P) := by
  have ts := tail_small h P hP hn
  obtain ⟨r1, r2, r3⟩ := rest_facts P
  rw [get_split (s := putB K L cs P) P.length (t := tailB K L cs P) (q := restB P) rfl (by omega), mid_tail h P hP, r1, r2]
  have hb : szs (vK (rstV P)) P.length ≤ 8 * byc (szs (vK (rstV P)) P.length) ∧ 8 * byc (szs (vK (rstV P)) P.length) - szs (vK (rstV P)) P.length < 8 := by unfold byc; omega
  have := gS_back h P hP hr (num (vX (rstV P)) (vK (rstV P)) P.length) (8 * byc (szs (vK (rstV P)) P.length)) rfl hb.1 P 0 [] (by simp) rfl
  rw [show szs (vK (rstV P)) 0 = 0 from rfl] at this
  rw [this]
  unfold endB
  simp only [List.nil_append]
  rw [if_pos ⟨trivial, trivial, hb.2, by unfold got; rw [Nat.div_eq_of_lt r3, Nat.zero_mod]⟩]
/-- With a byte more there are none. -/
theorem getB_more {K : Nat} {L cs : List Nat} (h : Spd K L cs) (P : List (Nat × Nat)) (hP : ∀ p ∈ P, 0 < g L p.1) (hr : ∀ p ∈ P, p.2 < 2 ^ (p.1 - 1)) (hn : P.length ≤ 4096) : getB K L cs (putB K L cs P ++ [0]) P.length = (3, []) := by
  have ts := tail_small h P hP hn
  obtain ⟨r1, r2, r3⟩ := rest_facts P
  have lz : le (restB P ++ [0]) = num (vX (rstV P)) (vK (rstV P)) P.length := by rw [le_snoc, r1]; simp
  rw [get_split P.length (t := tailB K L cs P) (q := restB P ++ [0]) (by unfold putB; simp [List.append_assoc]) (by omega), mid_tail h P hP, lz, List.length_append, r2]
  have hb : szs (vK (rstV P)) P.length ≤ 8 * (byc (szs (vK (rstV P)) P.length) + [(0 : UInt8)].length) := by unfold byc; simp; omega
  have := gS_back h P hP hr (num (vX (rstV P)) (vK (rstV P)) P.length) (8 * (byc (szs (vK (rstV P)) P.length) + [(0 : UInt8)].length)) rfl hb P 0 [] (by simp) rfl
  rw [show szs (vK (rstV P)) 0 = 0 from rfl] at this
  rw [this]
  unfold endB
  simp only [List.nil_append]
  rw [if_neg (by rintro ⟨-, -, h1, -⟩; unfold byc at h1; simp at h1; omega)]
/-- Cut anywhere there are none. -/
theorem getB_cut {K : Nat} {L cs : List Nat} (h : Spd K L cs) (P : List (Nat × Nat)) (hP : ∀ p ∈ P, 0 < g L p.1) (hn : P.length ≤ 4096) (m : Nat) (hm : m < (putB K L cs P).length) : getB K L cs ((putB K L cs P).take m) P.length = (3, []) := by
  have ts := tail_small h P hP hn
  obtain ⟨r1, r2, r3⟩ := rest_facts P
  unfold putB at hm ⊢
  rw [List.length_append, List.length_append] at hm
  rw [List.take_append]
  by_cases h1 : m < (vb (tailB K L cs P).length).length
  · rw [show m - (vb (tailB K L cs P).length).length = 0 from by omega, List.take_zero, List.append_nil]
    unfold getB
    rw [numb_cut _ _ h1, if_pos (.inl (by simp))]
  · rw [List.take_of_length_le (by omega), List.take_append]
    by_cases h2 : m - (vb (tailB K L cs P).length).length < (tailB K L cs P).length
    · rw [show m - (vb (tailB K L cs P).length).length - (tailB K L cs P).length = 0 from by omega, List.take_zero, List.append_nil]
      unfold getB
      rw [numb_vb _ _ (by omega), if_pos (.inr (by simp; omega))]
    · rw [List.take_of_length_le (by omega)]
      rw [get_split P.length (t := tailB K L cs P) (q := (restB P).take (m - (vb (tailB K L cs P).length).length - (tailB K L cs P).length)) rfl (by omega), mid_tail h P hP]
      have hl : ((restB P).take (m - (vb (tailB K L cs P).length).length - (tailB K L cs P).length)).length < byc (szs (vK (rstV P)) P.length) := by rw [List.length_take, r2]; omega
      generalize (restB P).take (m - (vb (tailB K L cs P).length).length - (tailB K L cs P).length) = q at *
      have := gS_cut h P hP (le q) (8 * q.length) (by unfold byc at hl; omega) P 0 [] (by simp) rfl (by simp [szs])
      rw [show szs (vK (rstV P)) 0 = 0 from rfl] at this
      rw [this]; rfl
/-- Of no parts no part is read, but where one class is alone. -/
theorem getB_none {K : Nat} {L cs : List Nat} (h : Spd K L cs) (n : Nat) (hs : ∀ c, g L c < 2 ^ K) : getB K L cs (putB K L cs []) (n + 1) = (3, []) := by
  have ts := tail_small h [] (by simp) (by simp)
  rw [get_split (s := putB K L cs []) (n + 1) (t := tailB K L cs []) (q := restB []) rfl (by omega), mid_tail h [] (by simp)]
  simp only [List.map_nil, List.length_nil, sts, szs]
  rw [gS_more h _ _ _ n 0 [] hs]
  rfl
end Go.Proofs.YtofclflcicjlaaaGreat
