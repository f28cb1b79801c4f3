/-
  Which of a class' sources a state is come to from: the library's search, and the call around it.
-/
import Derived.Test.YtofclflcicjlaaaGreatSo
import Derived.WalkKit
import Derived.ProofKit
import Derived.OpenShut
import Derived.Deep.QuietTactic
import Derived.Deep.RegionWith
import Derived.Deep.RegionHeld3
import Derived.OwnWalk
import Derived.ChangeOld
import Derived.Below
import Derived.BigQuiet
namespace Go.Proofs.YtofclflcicjlaaaGreat
set_option maxRecDepth 100000
open Go.ChangeShapes Go.WideShapes Go.ChangeAt Go.RowKit
open Go.ChangeMaps (open_string shut_string)
set_option linter.unusedVariables false
open Go.Shelf Go.Lib Go.Sort
theorem cell_row {W : World} {b : Nat} {d : List Src} (h : HoldsK enS 4 W b 0 d.toArray) {i : Nat} {x : Src} (hx : d[i]? = some x) :
    W.cell? ⟨b, i * 4, none⟩ = some (.int .i64 (x.1 : Int)) ∧ W.cell? ⟨b, i * 4 + 1, none⟩ = some (.int .i64 (x.2.1 : Int)) ∧ W.cell? ⟨b, i * 4 + 2, none⟩ = some (.int .i64 (x.2.2.1 : Int)) ∧ W.cell? ⟨b, i * 4 + 3, none⟩ = some (.int .i64 (x.2.2.2 : Int)) := by
  obtain ⟨hi, rfl⟩ := List.getElem?_eq_some_iff.1 hx
  have e : d.toArray[i]! = d[i] := by simp [hi]
  have f := fun c (hc : c < 4) => (HoldsK.cell h (i := i) (c := c) (by simpa using hi) hc).1
  rw [e] at f
  have f0 := f 0 (by omega); have f1 := f 1 (by omega); have f2 := f 2 (by omega); have f3 := f 3 (by omega)
  simp only [Nat.zero_add] at f0 f1 f2 f3
  exact ⟨f0, f1, f2, f3⟩
set_option maxHeartbeats 2000000 in
theorem closure_any (bo bs b cap : Nat) (d : List Src) (st i : Nat) (x : Src) (W : World) (hx : d[i]? = some x) (hl : d.length ≤ 100000)
    (ha : W.cell? ⟨bo, 0, none⟩ = some (.slice (some ⟨b, 0, none⟩) (d.length : Nat) cap)) (hs : W.cell? ⟨bs, 0, none⟩ = some (.int .i64 (st : Int))) (hc : W.cell? ⟨b, i * 4 + 3, none⟩ = some (.int .i64 (x.2.2.2 : Int))) :
    Calls Tryz.prog 78 (#[.int .i64 i] ++ #[.pointer (some ⟨bo, 0, none⟩), .pointer (some ⟨bs, 0, none⟩)]) W fun e w' => e = .returned (.bool (decide (st < x.2.2.2))) ∧ ∃ q, w' = W.drewN q := by
  have hi := (List.getElem?_eq_some_iff.1 hx).1
  generalize x.2.2.2 = y at *
  have hiz : (i : Int) < (d.length : Int) := by omega
  have hi0 : (0 : Int) ≤ (i : Int) := by omega
  clear hx
  go_enter Tryz.func78, Tryz.ntmps78
  go_wp2
  go_quiet (fail)
  go_wp2
  go_ret
  refine ⟨?_, _, rfl⟩
  have : decide ((y : Int) > (st : Int)) = decide (st < y) := by by_cases h : st < y <;> simp [h]
  simp
theorem count_same (d : List Src) (st : Nat) : (List.range d.length).countP (fun i => !decide (st < (d[i]?.getD default).2.2.2)) = d.countP fun y => decide (y.2.2.2 ≤ st) := by
  have h := Lib.countP_range d.toArray (fun y => decide (y.2.2.2 ≤ st))
  rw [List.size_toArray] at h
  show _ = d.toArray.toList.countP _
  rw [← h]
  apply List.countP_congr
  intro i hi
  have hi' := List.mem_range.1 hi
  have e : d.toArray[i]! = d[i] := by simp [hi']
  rw [e, List.getElem?_eq_getElem hi']
  simp
theorem search_any (bo bs b cap st m : Nat) (d : List Src) (W : World) (hH : HoldsK enS 4 W b 0 d.toArray) (hb : b < W.heap.size) (hl : d.length ≤ 100000) (hA : Asc d) (hm : (d.countP fun y => decide (y.2.2.2 ≤ st)) = m + 1)
    (ha : W.cell? ⟨bo, 0, none⟩ = some (.slice (some ⟨b, 0, none⟩) (d.length : Nat) cap)) (hs : W.cell? ⟨bs, 0, none⟩ = some (.int .i64 (st : Int))) :
    Calls Tryz.prog 79 #[.int .i64 (d.length : Int), .func (.func 78) #[] #[.pointer (some ⟨bo, 0, none⟩), .pointer (some ⟨bs, 0, none⟩)]] W fun e w' => e = .returned (.int .i64 ((m : Int) + 1)) ∧ ∃ q os, w' = grow (W.drewN q) os := by
  have eg : ∀ args w, (callFunc 78 args).run Tryz.prog w = .ok (.enter 78 args) w := enters_of Tryz.func78 (by kernel_rfl) rfl
  have hS := Any.sort_Search Tryz.search 78 #[.pointer (some ⟨bo, 0, none⟩), .pointer (some ⟨bs, 0, none⟩)] d.length (fun i => decide (st < (d[i]?.getD default).2.2.2)) W eg (by omega)
    (fun n os i hi => (closure_any bo bs b cap d st i (d[i]?.getD default) _ (by rw [List.getElem?_eq_getElem hi]; rfl) hl (cell_grown (World.block_lt_of_cell? _ _ ha) ha n os) (cell_grown (World.block_lt_of_cell? _ _ hs) hs n os)
      (cell_grown hb ((cell_row hH (i := i) (x := d[i]?.getD default) (by rw [List.getElem?_eq_getElem hi]; rfl)).2.2.2) n os)).mono
      fun _ _ ⟨he, q, hq⟩ => ⟨he, q, #[], by rw [hq, grow_empty]⟩)
    (fun i j hij hj h => by
      have := asc_at hA hij (x := d[i]?.getD default) (y := d[j]?.getD default) (by rw [List.getElem?_eq_getElem (by omega)]; rfl) (by rw [List.getElem?_eq_getElem hj]; rfl)
      simp only [decide_eq_true_eq] at h ⊢; omega)
  rw [count_same, hm] at hS
  change Calls Tryz.prog 79 _ _ _ at hS
  exact hS
theorem grown_below {w : World} {q : Nat} {os : Array Obj} : Below w.heap.size w (grow (w.drewN q) os) := below_grown_sl _ w q os (Nat.le_refl _)
set_option maxHeartbeats 4000000 in
theorem sourceOf_any (b cap st m : Nat) (d : List Src) (x : Src) (W : World) (hH : HoldsK enS 4 W b 0 d.toArray) (hb : b < W.heap.size) (hl : d.length ≤ 100000) (hA : Asc d) (hm : (d.countP fun y => decide (y.2.2.2 ≤ st)) = m + 1) (hx : d[m]? = some x) :
    Calls Tryz.prog 51 #[.int .i64 (st : Int), .slice (some ⟨b, 0, none⟩) (d.length : Nat) cap] W fun e w' => e = .returned (.agg (enS x).toArray) ∧ Below W.heap.size W w' := by
  have hml := (List.getElem?_eq_some_iff.1 hx).1
  have hH0 : ∀ w', Below W.heap.size W w' → HoldsK enS 4 w' b 0 d.toArray := fun w' hw => by
    intro j hj
    obtain ⟨h1, h2⟩ := hH j hj
    have hblk := hw.block b hb
    exact ⟨by rw [hw.cell (p := ⟨b, 0 + j, none⟩) hb]; exact h1, by rw [hw.frozen (p := ⟨b, 0 + j, none⟩) hb]; exact h2⟩
  have hS : ∀ (w' : World) (N : Nat), Below W.heap.size W w' → w'.cell? ⟨N + 1, 0, none⟩ = some (.slice (some ⟨b, 0, none⟩) (d.length : Nat) cap) → w'.cell? ⟨N, 0, none⟩ = some (.int .i64 (st : Int)) →
      Calls Tryz.prog 79 #[.int .i64 (d.length : Int), .func (.func 78) #[] #[.pointer (some ⟨N + 1, 0, none⟩), .pointer (some ⟨N, 0, none⟩)]] w' fun e w'' => e = .returned (.int .i64 ((m : Int) + 1)) ∧ ∃ q os, w'' = grow (w'.drewN q) os := fun w' N hw h1 h2 =>
    search_any (N + 1) N b cap st m d w' (hH0 w' hw) (Nat.lt_of_lt_of_le hb hw.size) hl hA hm h1 h2
  have hC : ∀ w', Below W.heap.size W w' → w'.cell? ⟨b, m * 4, none⟩ = some (.int .i64 (x.1 : Int)) ∧ w'.cell? ⟨b, m * 4 + 1, none⟩ = some (.int .i64 (x.2.1 : Int)) ∧ w'.cell? ⟨b, m * 4 + 2, none⟩ = some (.int .i64 (x.2.2.1 : Int)) ∧ w'.cell? ⟨b, m * 4 + 3, none⟩ = some (.int .i64 (x.2.2.2 : Int)) := fun w' hw => cell_row (hH0 w' hw) hx
  obtain ⟨r, hr⟩ : ∃ r : Int, (m : Int) + 1 = r := ⟨_, rfl⟩
  rw [hr] at hS
  have hr1 : r - 1 = (m : Int) := by omega
  have hr2 : IntKind.i64.wrap (r - 1) = (m : Int) := by rw [hr1, IntKind.wrap_i64]; omega
  have hr3 : IntKind.i64.wrap (m : Int) = (m : Int) := by rw [IntKind.wrap_i64]; omega
  have HS : Aside _ := hS
  have HC : Aside _ := hC
  have hmz : (m : Int) < (d.length : Int) := by omega
  have hm0 : (0 : Int) ≤ (m : Int) := by omega
  have EX : Hid ((Value.agg (enS x).toArray) = .agg #[.int .i64 (x.1 : Int), .int .i64 (x.2.1 : Int), .int .i64 (x.2.2.1 : Int), .int .i64 (x.2.2.2 : Int)]) := rfl
  generalize d.length = n at *
  generalize x.1 = x1 at *
  generalize x.2.1 = x2 at *
  generalize x.2.2.1 = x3 at *
  generalize x.2.2.2 = x4 at *
  clear hH hH0 hS hC hx hm hA hr
  go_enter Tryz.func51, Tryz.ntmps51
  go_wp2_with fail
  have B1 : Below W.heap.size W (((W.alloc (.cells #[.int .i64 (st : Int)] 3)).alloc (.cells #[.slice (some ⟨b, 0, none⟩) (n : Nat) cap] 107)).alloc (.cells #[.int .i64 0, .int .i64 0, .int .i64 0, .int .i64 0] 109)) := (((Below.refl _ _).alloc (Nat.le_refl _) _).alloc (by simp) _).alloc (by simp; omega) _
  have k1 : (((W.alloc (.cells #[.int .i64 (st : Int)] 3)).alloc (.cells #[.slice (some ⟨b, 0, none⟩) (n : Nat) cap] 107)).alloc (.cells #[.int .i64 0, .int .i64 0, .int .i64 0, .int .i64 0] 109)).cell? ⟨W.heap.size, 0, none⟩ = some (.int .i64 (st : Int)) := by rw [blk_cell (blk_alloc (blk_alloc (blk_new _ _ _) _) _)]; rfl
  have k2 : (((W.alloc (.cells #[.int .i64 (st : Int)] 3)).alloc (.cells #[.slice (some ⟨b, 0, none⟩) (n : Nat) cap] 107)).alloc (.cells #[.int .i64 0, .int .i64 0, .int .i64 0, .int .i64 0] 109)).cell? ⟨W.heap.size + 1, 0, none⟩ = some (.slice (some ⟨b, 0, none⟩) (n : Nat) cap) := by
    have := blk_cell (blk_alloc (blk_new (W.alloc (.cells #[.int .i64 (st : Int)] 3)) #[.slice (some ⟨b, 0, none⟩) (n : Nat) cap] 107) (.cells #[.int .i64 0, .int .i64 0, .int .i64 0, .int .i64 0] 109)) 0
    rw [World.size_alloc] at this; rw [this]; rfl
  have k3 := blk_new ((W.alloc (.cells #[.int .i64 (st : Int)] 3)).alloc (.cells #[.slice (some ⟨b, 0, none⟩) (n : Nat) cap] 107)) #[.int .i64 0, .int .i64 0, .int .i64 0, .int .i64 0] 109
  rw [World.size_alloc, World.size_alloc] at k3
  generalize ((W.alloc (.cells #[.int .i64 (st : Int)] 3)).alloc (.cells #[.slice (some ⟨b, 0, none⟩) (n : Nat) cap] 107)).alloc (.cells #[.int .i64 0, .int .i64 0, .int .i64 0, .int .i64 0] 109) = w1 at *
  obtain ⟨R, hR⟩ : ∃ R, W.heap.size + 1 + 1 = R := ⟨_, rfl⟩
  obtain ⟨O, hO⟩ : ∃ O, W.heap.size + 1 = O := ⟨_, rfl⟩
  obtain ⟨T, hT⟩ : ∃ T, W.heap.size = T := ⟨_, rfl⟩
  rw [hR] at k3 ⊢
  rw [hO] at k2 ⊢
  rw [hT] at k1 ⊢
  have K3 := Hid.intro k3
  have RT : Hid (W.heap.size ≤ R) := by show _ ≤ _; omega
  clear k3 hR
  have HT : Aside (∀ w', Below W.heap.size W w' → w'.cell? ⟨O, 0, none⟩ = some (.slice (some ⟨b, 0, none⟩) (n : Nat) cap) → w'.cell? ⟨T, 0, none⟩ = some (.int .i64 (st : Int)) →
      Calls Tryz.prog 79 #[.int .i64 (n : Int), .func (.func 78) #[] #[.pointer (some ⟨O, 0, none⟩), .pointer (some ⟨T, 0, none⟩)]] w' fun e w'' => e = .returned (.int .i64 r) ∧ ∃ q os, w'' = grow (w'.drewN q) os) := fun w' hw h1 h2 => by
    have := HS.out w' T hw (by rw [← hT, hO]; exact h1) h2
    rw [← hT, hO, hT] at this
    exact this
  clear hO hT HS
  have MK : Aside (∀ w', (w'.cell? ⟨O, 0, none⟩ = some (.slice (some ⟨b, 0, none⟩) (n : Nat) cap) ∧ w'.cell? ⟨T, 0, none⟩ = some (.int .i64 (st : Int))) → Below W.heap.size W w' → (w'.cell? ⟨O, 0, none⟩ = some (.slice (some ⟨b, 0, none⟩) (n : Nat) cap) ∧ w'.cell? ⟨T, 0, none⟩ = some (.int .i64 (st : Int))) ∧
      (w'.cell? ⟨b, m * 4, none⟩ = some (.int .i64 (x1 : Int)) ∧ w'.cell? ⟨b, m * 4 + 1, none⟩ = some (.int .i64 (x2 : Int)) ∧ w'.cell? ⟨b, m * 4 + 2, none⟩ = some (.int .i64 (x3 : Int)) ∧ w'.cell? ⟨b, m * 4 + 3, none⟩ = some (.int .i64 (x4 : Int))) ∧ Below W.heap.size W w') := fun w' h1 h2 => ⟨h1, HC.out w' h2, h2⟩
  go_region_with
    (first | (go_at_call 79; refine (HT.out _ B1.drew k2 k1).mono ?_; rintro e w' ⟨rfl, q, os, hy⟩; have hb' : Below w1.heap.size w1 w' := (by rw [hy]; exact (Below.refl _ w1).drew.trans (below_grown_sl _ w1.drew q os (Nat.le_refl _)))
              have z : Blk w' R #[.int .i64 0, .int .i64 0, .int .i64 0, .int .i64 0] 109 := blk_below K3.out hb' (blk_lt K3.out)
              have c0 : w'.cell? ⟨R, 0, none⟩ = some (.int .i64 0) := (by rw [blk_cell z]; rfl)
              have c1 : w'.cell? ⟨R, 1, none⟩ = some (.int .i64 0) := (by rw [blk_cell z]; rfl)
              have c2 : w'.cell? ⟨R, 2, none⟩ = some (.int .i64 0) := (by rw [blk_cell z]; rfl)
              have c3 : w'.cell? ⟨R, 3, none⟩ = some (.int .i64 0) := (by rw [blk_cell z]; rfl)
              have f0 := blk_free z 0
              have f1 := blk_free z 1
              have f2 := blk_free z 2
              have f3 := blk_free z 3
              have mk := MK.out w' ⟨(hb'.cell (p := ⟨O, 0, none⟩) (World.block_lt_of_cell? _ _ k2)).trans k2, (hb'.cell (p := ⟨T, 0, none⟩) (World.block_lt_of_cell? _ _ k1)).trans k1⟩ (B1.trans (hb'.mono B1.size))
              have HB' := Hid.intro hb'
              have Z := Hid.intro z
              have hmk := Hid.intro mk.2.2
              obtain ⟨⟨e8, e9⟩, ⟨e0, e1, e2, e3⟩, -⟩ := mk
              clear hy z hb'))
  all_goals
    have b4 := blk_set (blk_set (blk_set (blk_set Z.out 0 (.int .i64 (x1 : Int))) 1 (.int .i64 (x2 : Int))) 2 (.int .i64 (x3 : Int))) 3 (.int .i64 (x4 : Int))
    have B4 := Hid.intro ((((hmk.out.setCell (p := ⟨R, 0, none⟩) RT.out (.int .i64 (x1 : Int))).setCell (p := ⟨R, 1, none⟩) RT.out (.int .i64 (x2 : Int))).setCell (p := ⟨R, 2, none⟩) RT.out (.int .i64 (x3 : Int))).setCell (p := ⟨R, 3, none⟩) RT.out (.int .i64 (x4 : Int)))
    have g0 := blk_cell b4 0
    have g1 := blk_cell b4 1
    have g2 := blk_cell b4 2
    have g3 := blk_cell b4 3
    simp at g0 g1 g2 g3
    clear HC MK HT b4 c0 c1 c2 c3 f0 f1 f2 f3
    go_wp2_with fail
    exact bodyPost_ret (v := .agg #[.int .i64 (x1 : Int), .int .i64 (x2 : Int), .int .i64 (x3 : Int), .int .i64 (x4 : Int)]) (by simp [results, Tryz.results51, go_sem, g0, g1, g2, g3]) rfl ⟨by rw [EX.out], B4.out⟩
end Go.Proofs.YtofclflcicjlaaaGreat
