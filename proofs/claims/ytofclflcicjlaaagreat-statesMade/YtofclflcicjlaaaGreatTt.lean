/-
  Table, of whatever numbers.
-/
import Derived.Test.YtofclflcicjlaaaGreatTl
import Derived.Deep.RegionHeld3
import Derived.Deep.QuietTactic
import Derived.Deep.RegionWith
import Derived.OwnWalk
import Derived.BigQuiet
import Derived.ChangeOld
import Derived.Below
namespace Go.Proofs.YtofclflcicjlaaaGreat
open Go.ChangeShapes Go.WideShapes Go.ChangeAt Go.RowKit
open Go.ChangeMaps (open_string shut_string)

theorem tb_start {y : World} {A Q sc V s B k : Nat} {L cs : List Nat} (bA : Blk y A #[.int .i64 0, .slice none 0 0, .slice none 0 0] 102) (oQ : y.ownsRow 0 3 1 (.slice (some ⟨Q, 0, none⟩) 65 sc) 65 (nis L)) (oV : y.ownsRow 0 77 3 (.slice (some ⟨V, 0, none⟩) 0 s) 0 [])
    (hA : B ≤ A) (hQ : B ≤ Q) (hV : B ≤ V) (dAQ : A ≠ Q) (dVA : V ≠ A) (dVQ : V ≠ Q) :
    Tb (((y.setCell ⟨A, 0, none⟩ (.int .i64 (k : Int))).setCell ⟨A, 1, none⟩ (.slice (some ⟨Q, 0, none⟩) 65 sc)).setCell ⟨A, 2, none⟩ (.slice (some ⟨V, 0, none⟩) 0 s)) A Q sc B k L cs 0 := by
  have bb := blk_set (blk_set (blk_set bA 0 (.int .i64 (k : Int))) 1 (.slice (some ⟨Q, 0, none⟩) 65 sc)) 2 (.slice (some ⟨V, 0, none⟩) 0 s)
  simp only [List.setIfInBounds_toArray, List.set_cons_zero, List.set_cons_succ] at bb
  have Z : Chg (· = A) y (((y.setCell ⟨A, 0, none⟩ (.int .i64 (k : Int))).setCell ⟨A, 1, none⟩ (.slice (some ⟨Q, 0, none⟩) 65 sc)).setCell ⟨A, 2, none⟩ (.slice (some ⟨V, 0, none⟩) 0 s)) := chg_set (chg_set (chg_set (chg_refl (· = A) y) ⟨A, 0, none⟩ _ (fun _ => rfl)) ⟨A, 1, none⟩ _ (fun _ => rfl)) ⟨A, 2, none⟩ _ (fun _ => rfl)
  generalize ((y.setCell ⟨A, 0, none⟩ (.int .i64 (k : Int))).setCell ⟨A, 1, none⟩ (.slice (some ⟨Q, 0, none⟩) 65 sc)).setCell ⟨A, 2, none⟩ (.slice (some ⟨V, 0, none⟩) 0 s) = u at *
  have q1 := own_kept oQ Z (fun j hj e => by simp [Value.ownBlock] at hj; omega)
  have q2 := own_kept oV Z (fun j hj e => by simp [Value.ownBlock] at hj; omega)
  have e1 : nxt L cs 0 = L := rfl
  have e2 : cvs (tab k L cs 0) = [] := by simp [tab, cvs]
  unfold Tb
  rw [e1, e2]
  clear bA oQ oV e1 e2
  refine ⟨.slice (some ⟨V, 0, none⟩) 0 s, ⟨hA, hQ, ?_⟩, ?_, q1, q2, dAQ, ?_⟩
  · intro j hj; simp [Value.ownBlock] at hj; omega
  · exact bb
  · intro j hj; simp [Value.ownBlock] at hj; subst hj; exact ⟨dVA, dVQ⟩
def TbPost (A : Nat × List Tri) (w : World) (e : Ending) (w' : World) : Prop :=
  ∃ v, e = .returned (.tuple #[v, .int .i64 (A.1 : Nat)]) ∧ w'.ownsRow w.heap.size 77 3 v A.2.length (cvs A.2) ∧ Below w.heap.size w w'
set_option maxRecDepth 100000 in
set_option maxHeartbeats 2000000 in
theorem table_any (a : Option Addr) (n cap : Nat) (f : List Int) (z : Int) (w : World) (h : RI w a n f) (hn : n ≤ 1000) :
    Calls Tryz.prog 16 #[.slice a n cap, .int .i64 z] w fun e w' => TbPost (tabA f z) w e w' := by
  have SP := spread_any a n cap f z w h hn
  by_cases hm : may z f = true
  · obtain ⟨k, L, rfl, rfl, e3, e4, sp⟩ := may_spd hm
    rw [tabA_yes hm, e3, e4]
    rw [sprA_yes hm, e3, e4] at SP
    have hn65 : n = 65 := by rw [← ri_len h, List.length_map, sp.len]
    subst hn65
    obtain ⟨x, hx, -⟩ := h.2 (by omega)
    subst hx
    obtain ⟨s, hs2, hs8, es, -, -, -, sl, su, -, -⟩ := stp_eq k sp.k7 sp.k12
    have HN := Hid.intro h
    have HSP := Hid.intro sp
    rw [es]
    have CLL : sp = sp := rfl
    clear h hm e3 e4 CLL
    go_enter Tryz.func16, Tryz.ntmps16
    go_wp2_with fail
    with_reducible refine SP.mono ?_
    rintro e w1 ⟨v, rfl, o1, b1⟩
    clear SP
    simp only at o1
    rw [sp.all, es] at o1
    obtain ⟨b, c1, rfl⟩ := own_slice o1 (by omega)
    have hb := (o1.lt b rfl).2
    have O1 := Hid.intro o1
    have B1 := Hid.intro b1
    have CL : Hid (∀ W, Below w1.heap.size w1 W → Calls Tryz.prog 44 #[.slice (some x) 65 cap] W fun e W' => ∃ v, e = .returned v ∧ W'.ownsRow W.heap.size 3 1 v 65 (nis L) ∧ Below W.heap.size W W') := fun W hW => clone_any x 65 cap (L.map Int.ofNat) W (ri_below (ri_below HN.out B1.out) hW) (by omega) (by omega)
    have MK := fun W => make_room3 s (by omega) W
    clear o1 b1 sp
    go_wp2_with fail
    refine wp_region_held_drew (S := fun W => True ∧ Below w1.heap.size w1 W) (by kernel_rfl) ⟨trivial, (Below.refl _ _).drew⟩ (fun hHeld => ?_)
    refine take' (i := 0) (d := (some 18)) (v := ?_) rfl rfl (by kernel_rfl) (by kernel_rfl) (by kernel_rfl) (fun _ _ _ h => h) (Or.inl ⟨by rfl, ?_⟩) (by assumption) ?_
    rotate_left
    · intro w hSw; (try dsimp only at hSw); go_simp; try with_reducible rfl
    try simp only [Act.put, List.setIfInBounds_toArray, List.set_cons_zero, List.set_cons_succ]
    refine take' (i := 1) (d := (some 19)) (v := ?_) rfl rfl (by kernel_rfl) (by kernel_rfl) (by kernel_rfl) (fun _ _ _ h => h) (Or.inl ⟨by rfl, ?_⟩) (by assumption) ?_
    rotate_left
    · intro w hSw; (try dsimp only at hSw); go_simp; try with_reducible rfl
    try simp only [Act.put, List.setIfInBounds_toArray, List.set_cons_zero, List.set_cons_succ]
    refine take' (i := 3) (d := (some 21)) (v := ?_) rfl rfl (by kernel_rfl) (by kernel_rfl) (by kernel_rfl) (fun _ _ _ h => h) (Or.inl ⟨by rfl, ?_⟩) (by assumption) ?_
    rotate_left
    · intro w hSw; (try dsimp only at hSw); go_simp; try with_reducible rfl
    try simp only [Act.put, List.setIfInBounds_toArray, List.set_cons_zero, List.set_cons_succ]
    refine take' (i := 4) (d := (some 22)) (v := ?_) rfl rfl (by kernel_rfl) (by kernel_rfl) (by kernel_rfl) (fun _ _ _ h => h) (Or.inl ⟨by rfl, ?_⟩) (by assumption) ?_
    rotate_left
    · intro w hSw; (try dsimp only at hSw); go_simp; try with_reducible rfl
    try simp only [Act.put, List.setIfInBounds_toArray, List.set_cons_zero, List.set_cons_succ]
    generalize w1.drew = x0 at *
    have zz := hHeld.2.size
    refine wpAnyH_ready (rs := [2, 5, 7]) (by kernel_rfl) (by simp) ?_
    refine AllReadyH.cons (o := _) rfl (fun K hK => ?_) ?_
    · skip
      go_simp
      with_reducible refine (CL.out _ hHeld.2).mono ?_
      rintro e x1 ⟨vq, rfl, oQ, bq⟩
      obtain ⟨Q, sc, rfl⟩ := own_slice oQ (by omega)
      have lQ := (oQ.lt Q rfl).1
      go_wp2_with fail
      refine hK.out _ _ ⟨trivial, hHeld.2.trans (bq.mono hHeld.2.size)⟩ (fun hHeld => ?_)
      have hQ : w1.heap.size ≤ Q := Nat.le_trans zz lQ
      have oQ := own_low oQ (Nat.zero_le _)
      clear hK K bq lQ
      try simp only [Act.put, List.setIfInBounds_toArray, List.set_cons_zero, List.set_cons_succ]
      have zz := hHeld.2.size
      refine wpAnyH_ready (rs := [5, 7]) (by kernel_rfl) (by simp) ?_
      refine AllReadyH.cons (o := _) rfl (fun K hK => ?_) ?_
      · skip
        go_simp
        refine hK.out _ _ ⟨trivial, hHeld.2.alloc zz _⟩ (fun hHeld => ?_)
        clear hK K
        have oN := own_room3 x1 s (by omega)
        obtain ⟨V, hV⟩ : ∃ V, x1.heap.size = V := ⟨_, rfl⟩
        have lQ := (oQ.lt Q rfl).2
        have oQ := World.ownsRow.alloc oQ (.cells (madeCells #[.int .i64 0, .int .i64 0, .int .i64 0] (s * 3)) 77)
        have dQV : V ≠ Q := by omega
        have hV2 : w1.heap.size ≤ V := by omega
        obtain ⟨x2, hx2⟩ : ∃ x2, x1.alloc (.cells (madeCells #[.int .i64 0, .int .i64 0, .int .i64 0] (s * 3)) 77) = x2 := ⟨_, rfl⟩
        simp only [hV] at oN ⊢
        simp only [hx2] at oQ oN hHeld ⊢
        have oV := own_low oN (Nat.zero_le _)
        clear hx2 hV oN lQ
        try simp only [Act.put, List.setIfInBounds_toArray, List.set_cons_zero, List.set_cons_succ]
        have zz := hHeld.2.size
        refine take' (i := 6) (d := (some 24)) (v := ?_) rfl rfl (by kernel_rfl) (by kernel_rfl) (by kernel_rfl) (fun _ _ _ h => h) (Or.inl ⟨by rfl, ?_⟩) (by assumption) ?_
        rotate_left
        · intro w hSw; (try dsimp only at hSw); go_simp; try with_reducible rfl
        try simp only [Act.put, List.setIfInBounds_toArray, List.set_cons_zero, List.set_cons_succ]
        refine wpAnyH_ready (rs := [7]) (by kernel_rfl) (by simp) ?_
        refine AllReadyH.cons (o := _) rfl (fun K hK => ?_) AllReadyH.nil
        go_simp
        refine hK.out _ _ ⟨trivial, hHeld.2.alloc zz _⟩ (fun hHeld => ?_)
        clear hK K
        have bN := blk_new x2 #[.int .i64 0, .slice none 0 0, .slice none 0 0] 102
        obtain ⟨A, hA⟩ : ∃ A, x2.heap.size = A := ⟨_, rfl⟩
        have lQ := (oQ.lt Q rfl).2
        have lV := (oV.lt V rfl).2
        have oQ := World.ownsRow.alloc oQ (.cells #[.int .i64 0, .slice none 0 0, .slice none 0 0] 102)
        have oV := World.ownsRow.alloc oV (.cells #[.int .i64 0, .slice none 0 0, .slice none 0 0] 102)
        have dQA : Q ≠ A := by omega
        have dVA : V ≠ A := by omega
        have hA2 : w1.heap.size ≤ A := by omega
        obtain ⟨x3, hx3⟩ : ∃ x3, x2.alloc (.cells #[.int .i64 0, .slice none 0 0, .slice none 0 0] 102) = x3 := ⟨_, rfl⟩
        simp only [hA] at bN ⊢
        simp only [hx3] at oQ oV bN hHeld ⊢
        have bA := bN
        clear hx3 hA bN lQ lV
        try simp only [Act.put, List.setIfInBounds_toArray, List.set_cons_zero, List.set_cons_succ]
        have zz := hHeld.2.size
        refine wpAnyH_ready (rs := [8]) (by kernel_rfl) (by simp) ?_
        refine AllReadyH.cons (o := _) rfl (fun K hK => ?_) AllReadyH.nil
        have c0 : x3.cell? ⟨A, 0, none⟩ = some (.int .i64 0) := by rw [blk_cell bA]; rfl
        have c1 : x3.cell? ⟨A, 1, none⟩ = some (.slice none 0 0) := by rw [blk_cell bA]; rfl
        have c2 : x3.cell? ⟨A, 2, none⟩ = some (.slice none 0 0) := by rw [blk_cell bA]; rfl
        have f0 := blk_free bA 0
        have f1 := blk_free bA 1
        have f2 := blk_free bA 2
        have TB := Hid.intro (tb_start (k := k) (L := L) (cs := spr k L) bA oQ oV hA2 hQ hV2 (Ne.symm dQA) dVA dQV)
        go_simp
        refine hK.out _ _ ⟨trivial, ((hHeld.2.setCell (p := ⟨A, 0, none⟩) hA2 _).setCell (p := ⟨A, 1, none⟩) hA2 _).setCell (p := ⟨A, 2, none⟩) hA2 _⟩ (fun hHeld => ?_)
        clear hK K c0 c1 c2 f0 f1 f2 bA oQ oV zz
        try simp only [Act.put, List.setIfInBounds_toArray, List.set_cons_zero, List.set_cons_succ]
        generalize ((x3.setCell ⟨A, 0, none⟩ (.int .i64 (k : Int))).setCell ⟨A, 1, none⟩ (.slice (some ⟨Q, 0, none⟩) 65 sc)).setCell ⟨A, 2, none⟩ (.slice (some ⟨V, 0, none⟩) 0 s) = y at *
        refine wpAnyH_done (by kernel_rfl) ?_ _
        have hy := hHeld.2
        clear hHeld
        have EC := ecell_any A Q sc w1.heap.size k b c1 _ L (spr k L) y TB.out HSP.out (by rw [es]; exact own_later O1.out hy) hb
        rw [es] at EC
        have HY := Hid.intro hy
        clear TB hy hQ hV2
        go_wp2_with fail
        with_reducible refine EC.mono ?_
        rintro e w5 ⟨rfl, ⟨v, ⟨t1, t2, t3⟩, t4, t5, t6, t7, t8⟩, b5⟩
        clear EC t5
        have a2 : w5.cell? ⟨A, 2, none⟩ = some v := by rw [blk_cell t4]; rfl
        have R : Hid (w5.ownsRow w.heap.size 77 3 v (tab k L (spr k L) s).length (cvs (tab k L (spr k L) s))) := by
          show World.ownsRow _ _ _ _ _ _ _
          rw [tab_len]
          exact own_up t6 (fun j hj => Nat.le_trans B1.out.size (t3 j hj))
        have B5 : Hid (Below w.heap.size w w5) := B1.out.trans ((HY.out.trans b5).mono B1.out.size)
        clear t1 t2 t3 t4 t6 t7 t8 b5
        go_wp2_with fail
        go_ret2
        exact ⟨_, rfl, R.out, B5.out⟩
      refine AllReadyH.cons (o := _) rfl (fun K hK => ?_) AllReadyH.nil
      go_simp
      refine hK.out _ _ ⟨trivial, hHeld.2.alloc zz _⟩ (fun hHeld => ?_)
      clear hK K
      have bN := blk_new x1 #[.int .i64 0, .slice none 0 0, .slice none 0 0] 102
      obtain ⟨A, hA⟩ : ∃ A, x1.heap.size = A := ⟨_, rfl⟩
      have lQ := (oQ.lt Q rfl).2
      have oQ := World.ownsRow.alloc oQ (.cells #[.int .i64 0, .slice none 0 0, .slice none 0 0] 102)
      have dQA : Q ≠ A := by omega
      have hA2 : w1.heap.size ≤ A := by omega
      obtain ⟨x2, hx2⟩ : ∃ x2, x1.alloc (.cells #[.int .i64 0, .slice none 0 0, .slice none 0 0] 102) = x2 := ⟨_, rfl⟩
      simp only [hA] at bN ⊢
      simp only [hx2] at oQ bN hHeld ⊢
      have bA := bN
      clear hx2 hA bN lQ
      try simp only [Act.put, List.setIfInBounds_toArray, List.set_cons_zero, List.set_cons_succ]
      have zz := hHeld.2.size
      refine wpAnyH_ready (rs := [5]) (by kernel_rfl) (by simp) ?_
      refine AllReadyH.cons (o := _) rfl (fun K hK => ?_) AllReadyH.nil
      go_simp
      refine hK.out _ _ ⟨trivial, hHeld.2.alloc zz _⟩ (fun hHeld => ?_)
      clear hK K
      have oN := own_room3 x2 s (by omega)
      obtain ⟨V, hV⟩ : ∃ V, x2.heap.size = V := ⟨_, rfl⟩
      have lQ := (oQ.lt Q rfl).2
      have lA := blk_lt bA
      have oQ := World.ownsRow.alloc oQ (.cells (madeCells #[.int .i64 0, .int .i64 0, .int .i64 0] (s * 3)) 77)
      have bA := blk_alloc bA (.cells (madeCells #[.int .i64 0, .int .i64 0, .int .i64 0] (s * 3)) 77)
      have dQV : V ≠ Q := by omega
      have dVA : V ≠ A := by omega
      have hV2 : w1.heap.size ≤ V := by omega
      obtain ⟨x3, hx3⟩ : ∃ x3, x2.alloc (.cells (madeCells #[.int .i64 0, .int .i64 0, .int .i64 0] (s * 3)) 77) = x3 := ⟨_, rfl⟩
      simp only [hV] at oN ⊢
      simp only [hx3] at oQ bA oN hHeld ⊢
      have oV := own_low oN (Nat.zero_le _)
      clear hx3 hV oN lQ lA
      try simp only [Act.put, List.setIfInBounds_toArray, List.set_cons_zero, List.set_cons_succ]
      have zz := hHeld.2.size
      refine take' (i := 6) (d := (some 24)) (v := ?_) rfl rfl (by kernel_rfl) (by kernel_rfl) (by kernel_rfl) (fun _ _ _ h => h) (Or.inl ⟨by rfl, ?_⟩) (by assumption) ?_
      rotate_left
      · intro w hSw; (try dsimp only at hSw); go_simp; try with_reducible rfl
      try simp only [Act.put, List.setIfInBounds_toArray, List.set_cons_zero, List.set_cons_succ]
      refine wpAnyH_ready (rs := [8]) (by kernel_rfl) (by simp) ?_
      refine AllReadyH.cons (o := _) rfl (fun K hK => ?_) AllReadyH.nil
      have c0 : x3.cell? ⟨A, 0, none⟩ = some (.int .i64 0) := by rw [blk_cell bA]; rfl
      have c1 : x3.cell? ⟨A, 1, none⟩ = some (.slice none 0 0) := by rw [blk_cell bA]; rfl
      have c2 : x3.cell? ⟨A, 2, none⟩ = some (.slice none 0 0) := by rw [blk_cell bA]; rfl
      have f0 := blk_free bA 0
      have f1 := blk_free bA 1
      have f2 := blk_free bA 2
      have TB := Hid.intro (tb_start (k := k) (L := L) (cs := spr k L) bA oQ oV hA2 hQ hV2 (Ne.symm dQA) dVA dQV)
      go_simp
      refine hK.out _ _ ⟨trivial, ((hHeld.2.setCell (p := ⟨A, 0, none⟩) hA2 _).setCell (p := ⟨A, 1, none⟩) hA2 _).setCell (p := ⟨A, 2, none⟩) hA2 _⟩ (fun hHeld => ?_)
      clear hK K c0 c1 c2 f0 f1 f2 bA oQ oV zz
      try simp only [Act.put, List.setIfInBounds_toArray, List.set_cons_zero, List.set_cons_succ]
      generalize ((x3.setCell ⟨A, 0, none⟩ (.int .i64 (k : Int))).setCell ⟨A, 1, none⟩ (.slice (some ⟨Q, 0, none⟩) 65 sc)).setCell ⟨A, 2, none⟩ (.slice (some ⟨V, 0, none⟩) 0 s) = y at *
      refine wpAnyH_done (by kernel_rfl) ?_ _
      have hy := hHeld.2
      clear hHeld
      have EC := ecell_any A Q sc w1.heap.size k b c1 _ L (spr k L) y TB.out HSP.out (by rw [es]; exact own_later O1.out hy) hb
      rw [es] at EC
      have HY := Hid.intro hy
      clear TB hy hQ hV2
      go_wp2_with fail
      with_reducible refine EC.mono ?_
      rintro e w5 ⟨rfl, ⟨v, ⟨t1, t2, t3⟩, t4, t5, t6, t7, t8⟩, b5⟩
      clear EC t5
      have a2 : w5.cell? ⟨A, 2, none⟩ = some v := by rw [blk_cell t4]; rfl
      have R : Hid (w5.ownsRow w.heap.size 77 3 v (tab k L (spr k L) s).length (cvs (tab k L (spr k L) s))) := by
        show World.ownsRow _ _ _ _ _ _ _
        rw [tab_len]
        exact own_up t6 (fun j hj => Nat.le_trans B1.out.size (t3 j hj))
      have B5 : Hid (Below w.heap.size w w5) := B1.out.trans ((HY.out.trans b5).mono B1.out.size)
      clear t1 t2 t3 t4 t6 t7 t8 b5
      go_wp2_with fail
      go_ret2
      exact ⟨_, rfl, R.out, B5.out⟩
    refine AllReadyH.cons (o := _) rfl (fun K hK => ?_) ?_
    · skip
      go_simp
      refine hK.out _ _ ⟨trivial, hHeld.2.alloc zz _⟩ (fun hHeld => ?_)
      clear hK K
      have oN := own_room3 x0 s (by omega)
      obtain ⟨V, hV⟩ : ∃ V, x0.heap.size = V := ⟨_, rfl⟩
      have hV2 : w1.heap.size ≤ V := by omega
      obtain ⟨x1, hx1⟩ : ∃ x1, x0.alloc (.cells (madeCells #[.int .i64 0, .int .i64 0, .int .i64 0] (s * 3)) 77) = x1 := ⟨_, rfl⟩
      simp only [hV] at oN ⊢
      simp only [hx1] at oN hHeld ⊢
      have oV := own_low oN (Nat.zero_le _)
      clear hx1 hV oN
      try simp only [Act.put, List.setIfInBounds_toArray, List.set_cons_zero, List.set_cons_succ]
      have zz := hHeld.2.size
      refine wpAnyH_ready (rs := [2, 7]) (by kernel_rfl) (by simp) ?_
      refine AllReadyH.cons (o := _) rfl (fun K hK => ?_) ?_
      · skip
        go_simp
        with_reducible refine (CL.out _ hHeld.2).mono ?_
        rintro e x2 ⟨vq, rfl, oQ, bq⟩
        obtain ⟨Q, sc, rfl⟩ := own_slice oQ (by omega)
        have lQ := (oQ.lt Q rfl).1
        have lV := (oV.lt V rfl).2
        have oV := own_later oV bq
        go_wp2_with fail
        refine hK.out _ _ ⟨trivial, hHeld.2.trans (bq.mono hHeld.2.size)⟩ (fun hHeld => ?_)
        have dQV : V ≠ Q := by omega
        have hQ : w1.heap.size ≤ Q := Nat.le_trans zz lQ
        have oQ := own_low oQ (Nat.zero_le _)
        clear hK K bq lQ lV
        try simp only [Act.put, List.setIfInBounds_toArray, List.set_cons_zero, List.set_cons_succ]
        have zz := hHeld.2.size
        refine take' (i := 6) (d := (some 24)) (v := ?_) rfl rfl (by kernel_rfl) (by kernel_rfl) (by kernel_rfl) (fun _ _ _ h => h) (Or.inl ⟨by rfl, ?_⟩) (by assumption) ?_
        rotate_left
        · intro w hSw; (try dsimp only at hSw); go_simp; try with_reducible rfl
        try simp only [Act.put, List.setIfInBounds_toArray, List.set_cons_zero, List.set_cons_succ]
        refine wpAnyH_ready (rs := [7]) (by kernel_rfl) (by simp) ?_
        refine AllReadyH.cons (o := _) rfl (fun K hK => ?_) AllReadyH.nil
        go_simp
        refine hK.out _ _ ⟨trivial, hHeld.2.alloc zz _⟩ (fun hHeld => ?_)
        clear hK K
        have bN := blk_new x2 #[.int .i64 0, .slice none 0 0, .slice none 0 0] 102
        obtain ⟨A, hA⟩ : ∃ A, x2.heap.size = A := ⟨_, rfl⟩
        have lQ := (oQ.lt Q rfl).2
        have lV := (oV.lt V rfl).2
        have oQ := World.ownsRow.alloc oQ (.cells #[.int .i64 0, .slice none 0 0, .slice none 0 0] 102)
        have oV := World.ownsRow.alloc oV (.cells #[.int .i64 0, .slice none 0 0, .slice none 0 0] 102)
        have dQA : Q ≠ A := by omega
        have dVA : V ≠ A := by omega
        have hA2 : w1.heap.size ≤ A := by omega
        obtain ⟨x3, hx3⟩ : ∃ x3, x2.alloc (.cells #[.int .i64 0, .slice none 0 0, .slice none 0 0] 102) = x3 := ⟨_, rfl⟩
        simp only [hA] at bN ⊢
        simp only [hx3] at oQ oV bN hHeld ⊢
        have bA := bN
        clear hx3 hA bN lQ lV
        try simp only [Act.put, List.setIfInBounds_toArray, List.set_cons_zero, List.set_cons_succ]
        have zz := hHeld.2.size
        refine wpAnyH_ready (rs := [8]) (by kernel_rfl) (by simp) ?_
        refine AllReadyH.cons (o := _) rfl (fun K hK => ?_) AllReadyH.nil
        have c0 : x3.cell? ⟨A, 0, none⟩ = some (.int .i64 0) := by rw [blk_cell bA]; rfl
        have c1 : x3.cell? ⟨A, 1, none⟩ = some (.slice none 0 0) := by rw [blk_cell bA]; rfl
        have c2 : x3.cell? ⟨A, 2, none⟩ = some (.slice none 0 0) := by rw [blk_cell bA]; rfl
        have f0 := blk_free bA 0
        have f1 := blk_free bA 1
        have f2 := blk_free bA 2
        have TB := Hid.intro (tb_start (k := k) (L := L) (cs := spr k L) bA oQ oV hA2 hQ hV2 (Ne.symm dQA) dVA dQV)
        go_simp
        refine hK.out _ _ ⟨trivial, ((hHeld.2.setCell (p := ⟨A, 0, none⟩) hA2 _).setCell (p := ⟨A, 1, none⟩) hA2 _).setCell (p := ⟨A, 2, none⟩) hA2 _⟩ (fun hHeld => ?_)
        clear hK K c0 c1 c2 f0 f1 f2 bA oQ oV zz
        try simp only [Act.put, List.setIfInBounds_toArray, List.set_cons_zero, List.set_cons_succ]
        generalize ((x3.setCell ⟨A, 0, none⟩ (.int .i64 (k : Int))).setCell ⟨A, 1, none⟩ (.slice (some ⟨Q, 0, none⟩) 65 sc)).setCell ⟨A, 2, none⟩ (.slice (some ⟨V, 0, none⟩) 0 s) = y at *
        refine wpAnyH_done (by kernel_rfl) ?_ _
        have hy := hHeld.2
        clear hHeld
        have EC := ecell_any A Q sc w1.heap.size k b c1 _ L (spr k L) y TB.out HSP.out (by rw [es]; exact own_later O1.out hy) hb
        rw [es] at EC
        have HY := Hid.intro hy
        clear TB hy hQ hV2
        go_wp2_with fail
        with_reducible refine EC.mono ?_
        rintro e w5 ⟨rfl, ⟨v, ⟨t1, t2, t3⟩, t4, t5, t6, t7, t8⟩, b5⟩
        clear EC t5
        have a2 : w5.cell? ⟨A, 2, none⟩ = some v := by rw [blk_cell t4]; rfl
        have R : Hid (w5.ownsRow w.heap.size 77 3 v (tab k L (spr k L) s).length (cvs (tab k L (spr k L) s))) := by
          show World.ownsRow _ _ _ _ _ _ _
          rw [tab_len]
          exact own_up t6 (fun j hj => Nat.le_trans B1.out.size (t3 j hj))
        have B5 : Hid (Below w.heap.size w w5) := B1.out.trans ((HY.out.trans b5).mono B1.out.size)
        clear t1 t2 t3 t4 t6 t7 t8 b5
        go_wp2_with fail
        go_ret2
        exact ⟨_, rfl, R.out, B5.out⟩
      refine AllReadyH.cons (o := _) rfl (fun K hK => ?_) AllReadyH.nil
      go_simp
      refine hK.out _ _ ⟨trivial, hHeld.2.alloc zz _⟩ (fun hHeld => ?_)
      clear hK K
      have bN := blk_new x1 #[.int .i64 0, .slice none 0 0, .slice none 0 0] 102
      obtain ⟨A, hA⟩ : ∃ A, x1.heap.size = A := ⟨_, rfl⟩
      have lV := (oV.lt V rfl).2
      have oV := World.ownsRow.alloc oV (.cells #[.int .i64 0, .slice none 0 0, .slice none 0 0] 102)
      have dVA : V ≠ A := by omega
      have hA2 : w1.heap.size ≤ A := by omega
      obtain ⟨x2, hx2⟩ : ∃ x2, x1.alloc (.cells #[.int .i64 0, .slice none 0 0, .slice none 0 0] 102) = x2 := ⟨_, rfl⟩
      simp only [hA] at bN ⊢
      simp only [hx2] at oV bN hHeld ⊢
      have bA := bN
      clear hx2 hA bN lV
      try simp only [Act.put, List.setIfInBounds_toArray, List.set_cons_zero, List.set_cons_succ]
      have zz := hHeld.2.size
      refine wpAnyH_ready (rs := [2]) (by kernel_rfl) (by simp) ?_
      refine AllReadyH.cons (o := _) rfl (fun K hK => ?_) AllReadyH.nil
      go_simp
      with_reducible refine (CL.out _ hHeld.2).mono ?_
      rintro e x3 ⟨vq, rfl, oQ, bq⟩
      obtain ⟨Q, sc, rfl⟩ := own_slice oQ (by omega)
      have lQ := (oQ.lt Q rfl).1
      have lA := blk_lt bA
      have bA := blk_below bA bq lA
      have lV := (oV.lt V rfl).2
      have oV := own_later oV bq
      go_wp2_with fail
      refine hK.out _ _ ⟨trivial, hHeld.2.trans (bq.mono hHeld.2.size)⟩ (fun hHeld => ?_)
      have dQA : Q ≠ A := by omega
      have dQV : V ≠ Q := by omega
      have hQ : w1.heap.size ≤ Q := Nat.le_trans zz lQ
      have oQ := own_low oQ (Nat.zero_le _)
      clear hK K bq lQ lA lV
      try simp only [Act.put, List.setIfInBounds_toArray, List.set_cons_zero, List.set_cons_succ]
      have zz := hHeld.2.size
      refine take' (i := 6) (d := (some 24)) (v := ?_) rfl rfl (by kernel_rfl) (by kernel_rfl) (by kernel_rfl) (fun _ _ _ h => h) (Or.inl ⟨by rfl, ?_⟩) (by assumption) ?_
      rotate_left
      · intro w hSw; (try dsimp only at hSw); go_simp; try with_reducible rfl
      try simp only [Act.put, List.setIfInBounds_toArray, List.set_cons_zero, List.set_cons_succ]
      refine wpAnyH_ready (rs := [8]) (by kernel_rfl) (by simp) ?_
      refine AllReadyH.cons (o := _) rfl (fun K hK => ?_) AllReadyH.nil
      have c0 : x3.cell? ⟨A, 0, none⟩ = some (.int .i64 0) := by rw [blk_cell bA]; rfl
      have c1 : x3.cell? ⟨A, 1, none⟩ = some (.slice none 0 0) := by rw [blk_cell bA]; rfl
      have c2 : x3.cell? ⟨A, 2, none⟩ = some (.slice none 0 0) := by rw [blk_cell bA]; rfl
      have f0 := blk_free bA 0
      have f1 := blk_free bA 1
      have f2 := blk_free bA 2
      have TB := Hid.intro (tb_start (k := k) (L := L) (cs := spr k L) bA oQ oV hA2 hQ hV2 (Ne.symm dQA) dVA dQV)
      go_simp
      refine hK.out _ _ ⟨trivial, ((hHeld.2.setCell (p := ⟨A, 0, none⟩) hA2 _).setCell (p := ⟨A, 1, none⟩) hA2 _).setCell (p := ⟨A, 2, none⟩) hA2 _⟩ (fun hHeld => ?_)
      clear hK K c0 c1 c2 f0 f1 f2 bA oQ oV zz
      try simp only [Act.put, List.setIfInBounds_toArray, List.set_cons_zero, List.set_cons_succ]
      generalize ((x3.setCell ⟨A, 0, none⟩ (.int .i64 (k : Int))).setCell ⟨A, 1, none⟩ (.slice (some ⟨Q, 0, none⟩) 65 sc)).setCell ⟨A, 2, none⟩ (.slice (some ⟨V, 0, none⟩) 0 s) = y at *
      refine wpAnyH_done (by kernel_rfl) ?_ _
      have hy := hHeld.2
      clear hHeld
      have EC := ecell_any A Q sc w1.heap.size k b c1 _ L (spr k L) y TB.out HSP.out (by rw [es]; exact own_later O1.out hy) hb
      rw [es] at EC
      have HY := Hid.intro hy
      clear TB hy hQ hV2
      go_wp2_with fail
      with_reducible refine EC.mono ?_
      rintro e w5 ⟨rfl, ⟨v, ⟨t1, t2, t3⟩, t4, t5, t6, t7, t8⟩, b5⟩
      clear EC t5
      have a2 : w5.cell? ⟨A, 2, none⟩ = some v := by rw [blk_cell t4]; rfl
      have R : Hid (w5.ownsRow w.heap.size 77 3 v (tab k L (spr k L) s).length (cvs (tab k L (spr k L) s))) := by
        show World.ownsRow _ _ _ _ _ _ _
        rw [tab_len]
        exact own_up t6 (fun j hj => Nat.le_trans B1.out.size (t3 j hj))
      have B5 : Hid (Below w.heap.size w w5) := B1.out.trans ((HY.out.trans b5).mono B1.out.size)
      clear t1 t2 t3 t4 t6 t7 t8 b5
      go_wp2_with fail
      go_ret2
      exact ⟨_, rfl, R.out, B5.out⟩
    refine AllReadyH.cons (o := _) rfl (fun K hK => ?_) AllReadyH.nil
    go_simp
    refine hK.out _ _ ⟨trivial, hHeld.2.alloc zz _⟩ (fun hHeld => ?_)
    clear hK K
    have bN := blk_new x0 #[.int .i64 0, .slice none 0 0, .slice none 0 0] 102
    obtain ⟨A, hA⟩ : ∃ A, x0.heap.size = A := ⟨_, rfl⟩
    have hA2 : w1.heap.size ≤ A := by omega
    obtain ⟨x1, hx1⟩ : ∃ x1, x0.alloc (.cells #[.int .i64 0, .slice none 0 0, .slice none 0 0] 102) = x1 := ⟨_, rfl⟩
    simp only [hA] at bN ⊢
    simp only [hx1] at bN hHeld ⊢
    have bA := bN
    clear hx1 hA bN
    try simp only [Act.put, List.setIfInBounds_toArray, List.set_cons_zero, List.set_cons_succ]
    have zz := hHeld.2.size
    refine wpAnyH_ready (rs := [2, 5]) (by kernel_rfl) (by simp) ?_
    refine AllReadyH.cons (o := _) rfl (fun K hK => ?_) ?_
    · skip
      go_simp
      with_reducible refine (CL.out _ hHeld.2).mono ?_
      rintro e x2 ⟨vq, rfl, oQ, bq⟩
      obtain ⟨Q, sc, rfl⟩ := own_slice oQ (by omega)
      have lQ := (oQ.lt Q rfl).1
      have lA := blk_lt bA
      have bA := blk_below bA bq lA
      go_wp2_with fail
      refine hK.out _ _ ⟨trivial, hHeld.2.trans (bq.mono hHeld.2.size)⟩ (fun hHeld => ?_)
      have dQA : Q ≠ A := by omega
      have hQ : w1.heap.size ≤ Q := Nat.le_trans zz lQ
      have oQ := own_low oQ (Nat.zero_le _)
      clear hK K bq lQ lA
      try simp only [Act.put, List.setIfInBounds_toArray, List.set_cons_zero, List.set_cons_succ]
      have zz := hHeld.2.size
      refine wpAnyH_ready (rs := [5]) (by kernel_rfl) (by simp) ?_
      refine AllReadyH.cons (o := _) rfl (fun K hK => ?_) AllReadyH.nil
      go_simp
      refine hK.out _ _ ⟨trivial, hHeld.2.alloc zz _⟩ (fun hHeld => ?_)
      clear hK K
      have oN := own_room3 x2 s (by omega)
      obtain ⟨V, hV⟩ : ∃ V, x2.heap.size = V := ⟨_, rfl⟩
      have lQ := (oQ.lt Q rfl).2
      have lA := blk_lt bA
      have oQ := World.ownsRow.alloc oQ (.cells (madeCells #[.int .i64 0, .int .i64 0, .int .i64 0] (s * 3)) 77)
      have bA := blk_alloc bA (.cells (madeCells #[.int .i64 0, .int .i64 0, .int .i64 0] (s * 3)) 77)
      have dQV : V ≠ Q := by omega
      have dVA : V ≠ A := by omega
      have hV2 : w1.heap.size ≤ V := by omega
      obtain ⟨x3, hx3⟩ : ∃ x3, x2.alloc (.cells (madeCells #[.int .i64 0, .int .i64 0, .int .i64 0] (s * 3)) 77) = x3 := ⟨_, rfl⟩
      simp only [hV] at oN ⊢
      simp only [hx3] at oQ bA oN hHeld ⊢
      have oV := own_low oN (Nat.zero_le _)
      clear hx3 hV oN lQ lA
      try simp only [Act.put, List.setIfInBounds_toArray, List.set_cons_zero, List.set_cons_succ]
      have zz := hHeld.2.size
      refine take' (i := 6) (d := (some 24)) (v := ?_) rfl rfl (by kernel_rfl) (by kernel_rfl) (by kernel_rfl) (fun _ _ _ h => h) (Or.inl ⟨by rfl, ?_⟩) (by assumption) ?_
      rotate_left
      · intro w hSw; (try dsimp only at hSw); go_simp; try with_reducible rfl
      try simp only [Act.put, List.setIfInBounds_toArray, List.set_cons_zero, List.set_cons_succ]
      refine wpAnyH_ready (rs := [8]) (by kernel_rfl) (by simp) ?_
      refine AllReadyH.cons (o := _) rfl (fun K hK => ?_) AllReadyH.nil
      have c0 : x3.cell? ⟨A, 0, none⟩ = some (.int .i64 0) := by rw [blk_cell bA]; rfl
      have c1 : x3.cell? ⟨A, 1, none⟩ = some (.slice none 0 0) := by rw [blk_cell bA]; rfl
      have c2 : x3.cell? ⟨A, 2, none⟩ = some (.slice none 0 0) := by rw [blk_cell bA]; rfl
      have f0 := blk_free bA 0
      have f1 := blk_free bA 1
      have f2 := blk_free bA 2
      have TB := Hid.intro (tb_start (k := k) (L := L) (cs := spr k L) bA oQ oV hA2 hQ hV2 (Ne.symm dQA) dVA dQV)
      go_simp
      refine hK.out _ _ ⟨trivial, ((hHeld.2.setCell (p := ⟨A, 0, none⟩) hA2 _).setCell (p := ⟨A, 1, none⟩) hA2 _).setCell (p := ⟨A, 2, none⟩) hA2 _⟩ (fun hHeld => ?_)
      clear hK K c0 c1 c2 f0 f1 f2 bA oQ oV zz
      try simp only [Act.put, List.setIfInBounds_toArray, List.set_cons_zero, List.set_cons_succ]
      generalize ((x3.setCell ⟨A, 0, none⟩ (.int .i64 (k : Int))).setCell ⟨A, 1, none⟩ (.slice (some ⟨Q, 0, none⟩) 65 sc)).setCell ⟨A, 2, none⟩ (.slice (some ⟨V, 0, none⟩) 0 s) = y at *
      refine wpAnyH_done (by kernel_rfl) ?_ _
      have hy := hHeld.2
      clear hHeld
      have EC := ecell_any A Q sc w1.heap.size k b c1 _ L (spr k L) y TB.out HSP.out (by rw [es]; exact own_later O1.out hy) hb
      rw [es] at EC
      have HY := Hid.intro hy
      clear TB hy hQ hV2
      go_wp2_with fail
      with_reducible refine EC.mono ?_
      rintro e w5 ⟨rfl, ⟨v, ⟨t1, t2, t3⟩, t4, t5, t6, t7, t8⟩, b5⟩
      clear EC t5
      have a2 : w5.cell? ⟨A, 2, none⟩ = some v := by rw [blk_cell t4]; rfl
      have R : Hid (w5.ownsRow w.heap.size 77 3 v (tab k L (spr k L) s).length (cvs (tab k L (spr k L) s))) := by
        show World.ownsRow _ _ _ _ _ _ _
        rw [tab_len]
        exact own_up t6 (fun j hj => Nat.le_trans B1.out.size (t3 j hj))
      have B5 : Hid (Below w.heap.size w w5) := B1.out.trans ((HY.out.trans b5).mono B1.out.size)
      clear t1 t2 t3 t4 t6 t7 t8 b5
      go_wp2_with fail
      go_ret2
      exact ⟨_, rfl, R.out, B5.out⟩
    refine AllReadyH.cons (o := _) rfl (fun K hK => ?_) AllReadyH.nil
    go_simp
    refine hK.out _ _ ⟨trivial, hHeld.2.alloc zz _⟩ (fun hHeld => ?_)
    clear hK K
    have oN := own_room3 x1 s (by omega)
    obtain ⟨V, hV⟩ : ∃ V, x1.heap.size = V := ⟨_, rfl⟩
    have lA := blk_lt bA
    have bA := blk_alloc bA (.cells (madeCells #[.int .i64 0, .int .i64 0, .int .i64 0] (s * 3)) 77)
    have dVA : V ≠ A := by omega
    have hV2 : w1.heap.size ≤ V := by omega
    obtain ⟨x2, hx2⟩ : ∃ x2, x1.alloc (.cells (madeCells #[.int .i64 0, .int .i64 0, .int .i64 0] (s * 3)) 77) = x2 := ⟨_, rfl⟩
    simp only [hV] at oN ⊢
    simp only [hx2] at bA oN hHeld ⊢
    have oV := own_low oN (Nat.zero_le _)
    clear hx2 hV oN lA
    try simp only [Act.put, List.setIfInBounds_toArray, List.set_cons_zero, List.set_cons_succ]
    have zz := hHeld.2.size
    refine wpAnyH_ready (rs := [2]) (by kernel_rfl) (by simp) ?_
    refine AllReadyH.cons (o := _) rfl (fun K hK => ?_) AllReadyH.nil
    go_simp
    with_reducible refine (CL.out _ hHeld.2).mono ?_
    rintro e x3 ⟨vq, rfl, oQ, bq⟩
    obtain ⟨Q, sc, rfl⟩ := own_slice oQ (by omega)
    have lQ := (oQ.lt Q rfl).1
    have lA := blk_lt bA
    have bA := blk_below bA bq lA
    have lV := (oV.lt V rfl).2
    have oV := own_later oV bq
    go_wp2_with fail
    refine hK.out _ _ ⟨trivial, hHeld.2.trans (bq.mono hHeld.2.size)⟩ (fun hHeld => ?_)
    have dQA : Q ≠ A := by omega
    have dQV : V ≠ Q := by omega
    have hQ : w1.heap.size ≤ Q := Nat.le_trans zz lQ
    have oQ := own_low oQ (Nat.zero_le _)
    clear hK K bq lQ lA lV
    try simp only [Act.put, List.setIfInBounds_toArray, List.set_cons_zero, List.set_cons_succ]
    have zz := hHeld.2.size
    refine take' (i := 6) (d := (some 24)) (v := ?_) rfl rfl (by kernel_rfl) (by kernel_rfl) (by kernel_rfl) (fun _ _ _ h => h) (Or.inl ⟨by rfl, ?_⟩) (by assumption) ?_
    rotate_left
    · intro w hSw; (try dsimp only at hSw); go_simp; try with_reducible rfl
    try simp only [Act.put, List.setIfInBounds_toArray, List.set_cons_zero, List.set_cons_succ]
    refine wpAnyH_ready (rs := [8]) (by kernel_rfl) (by simp) ?_
    refine AllReadyH.cons (o := _) rfl (fun K hK => ?_) AllReadyH.nil
    have c0 : x3.cell? ⟨A, 0, none⟩ = some (.int .i64 0) := by rw [blk_cell bA]; rfl
    have c1 : x3.cell? ⟨A, 1, none⟩ = some (.slice none 0 0) := by rw [blk_cell bA]; rfl
    have c2 : x3.cell? ⟨A, 2, none⟩ = some (.slice none 0 0) := by rw [blk_cell bA]; rfl
    have f0 := blk_free bA 0
    have f1 := blk_free bA 1
    have f2 := blk_free bA 2
    have TB := Hid.intro (tb_start (k := k) (L := L) (cs := spr k L) bA oQ oV hA2 hQ hV2 (Ne.symm dQA) dVA dQV)
    go_simp
    refine hK.out _ _ ⟨trivial, ((hHeld.2.setCell (p := ⟨A, 0, none⟩) hA2 _).setCell (p := ⟨A, 1, none⟩) hA2 _).setCell (p := ⟨A, 2, none⟩) hA2 _⟩ (fun hHeld => ?_)
    clear hK K c0 c1 c2 f0 f1 f2 bA oQ oV zz
    try simp only [Act.put, List.setIfInBounds_toArray, List.set_cons_zero, List.set_cons_succ]
    generalize ((x3.setCell ⟨A, 0, none⟩ (.int .i64 (k : Int))).setCell ⟨A, 1, none⟩ (.slice (some ⟨Q, 0, none⟩) 65 sc)).setCell ⟨A, 2, none⟩ (.slice (some ⟨V, 0, none⟩) 0 s) = y at *
    refine wpAnyH_done (by kernel_rfl) ?_ _
    have hy := hHeld.2
    clear hHeld
    have EC := ecell_any A Q sc w1.heap.size k b c1 _ L (spr k L) y TB.out HSP.out (by rw [es]; exact own_later O1.out hy) hb
    rw [es] at EC
    have HY := Hid.intro hy
    clear TB hy hQ hV2
    go_wp2_with fail
    with_reducible refine EC.mono ?_
    rintro e w5 ⟨rfl, ⟨v, ⟨t1, t2, t3⟩, t4, t5, t6, t7, t8⟩, b5⟩
    clear EC t5
    have a2 : w5.cell? ⟨A, 2, none⟩ = some v := by rw [blk_cell t4]; rfl
    have R : Hid (w5.ownsRow w.heap.size 77 3 v (tab k L (spr k L) s).length (cvs (tab k L (spr k L) s))) := by
      show World.ownsRow _ _ _ _ _ _ _
      rw [tab_len]
      exact own_up t6 (fun j hj => Nat.le_trans B1.out.size (t3 j hj))
    have B5 : Hid (Below w.heap.size w w5) := B1.out.trans ((HY.out.trans b5).mono B1.out.size)
    clear t1 t2 t3 t4 t6 t7 t8 b5
    go_wp2_with fail
    go_ret2
    exact ⟨_, rfl, R.out, B5.out⟩
  · have hm' : may z f = false := by simpa using hm
    rw [tabA_no hm']
    rw [sprA_no hm'] at SP
    clear h hm
    go_enter Tryz.func16, Tryz.ntmps16
    go_wp2_with fail
    with_reducible refine SP.mono ?_
    rintro e w1 ⟨v, rfl, o1, b1⟩
    clear SP o1
    go_wp2_with fail
    go_ret2
    exact ⟨_, rfl, World.ownsRow_nil _ _ _ _, b1⟩
end Go.Proofs.YtofclflcicjlaaaGreat
