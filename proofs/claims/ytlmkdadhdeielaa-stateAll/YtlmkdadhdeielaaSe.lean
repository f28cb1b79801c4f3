/-
  left, Len, New, step of package state: what they return, and what they leave; methods of nil.
-/
import Derived.Test.YtlmkdadhdeielaaFs
import Derived.Deep.RegionHeld3
namespace Go.Proofs.Ytlmkdadhdeielaa
open Go.ChangeShapes Go.WideShapes Go.ChangeAt Go.RowKit
open Go.ChangeMaps (open_string shut_string)

set_option maxRecDepth 100000 in
theorem left_any {W : World} {A seed n : Nat} {f : F4} {k : List UInt8} (h : Sb W A seed f k n) (_hn : n ≤ 1000000) :
    Calls Try.prog 12 #[ptr A] W fun e w' => e = .returned (.int .i64 (n % 32 : Nat)) ∧ w' = W := by
  have c := sb_came h
  clear h
  unfold ptr
  go_enter Try.func12, Try.ntmps12
  go_wp2
  go_ret
  exact ⟨rfl, rfl⟩
set_option maxRecDepth 100000 in
theorem len_any {W : World} {A seed n : Nat} {f : F4} {k : List UInt8} (h : Sb W A seed f k n) :
    Calls Try.prog 11 #[ptr A] W fun e w' => e = .returned (.int .i64 n) ∧ w' = W := by
  have c := sb_came h
  clear h
  unfold ptr
  go_enter Try.func11, Try.ntmps11
  go_wp2
  go_ret
  exact ⟨rfl, rfl⟩
theorem len_nil (W : World) : Calls Try.prog 11 #[.pointer none] W fun e w' => e = .returned (.int .i64 0) ∧ w' = W := by
  go_enter Try.func11, Try.ntmps11
  go_wp2
  go_ret
  exact ⟨rfl, rfl⟩
theorem sum_nilp (W : World) : Calls Try.prog 9 #[.pointer none] W fun e w' => e = .returned (.int .u64 0) ∧ w' = W := by
  go_enter Try.func9, Try.ntmps9
  go_wp2
  go_ret
  exact ⟨rfl, rfl⟩
theorem write_nilp (s : ByteArray) (W : World) : Calls Try.prog 8 #[.pointer none, .string s] W fun e w' => e = .returned (.tuple #[]) ∧ w' = W := by
  go_enter Try.func8, Try.ntmps8
  go_wp2
  refine bodyPost_ret (results_none rfl _ _ _) rfl ?_
  exact ⟨rfl, rfl⟩
theorem st_new (seed : Nat) (hs : seed < 18446744073709551616) (W : World) : St (W.alloc (.cells (scl seed ⟨0, 0, 0, 0⟩ (List.replicate 32 0) 0).toArray 39)) W.heap.size seed [] :=
  ⟨hs, ⟨0, 0, 0, 0⟩, List.replicate 32 0, ⟨blk_new W _ _, by simp⟩, rfl, fun h => by simp at h⟩
set_option maxRecDepth 100000 in
theorem new_any (seed : Nat) (hs : seed < 18446744073709551616) (W : World) : Calls Try.prog 6 #[.int .u64 seed] W fun e w' => e = .returned (ptr W.heap.size) ∧ St w' W.heap.size seed [] ∧ Below W.heap.size W w' := by
  go_enter Try.func6, Try.ntmps6
  go_wp2
  go_ret
  exact ⟨rfl, st_new seed hs W, (Below.refl _ _).alloc (Nat.le_refl _) _⟩

theorem keepS {W W' : World} {A seed n : Nat} {f : F4} {k : List UInt8} (h : Sb W A seed f k n) (g : Below W.heap.size W W') :
    Below W.heap.size W W' ∧ W'.cell? ⟨A, 1, none⟩ = some (.int .u64 (f.a : Nat)) ∧ W'.cell? ⟨A, 2, none⟩ = some (.int .u64 (f.b : Nat)) ∧ W'.cell? ⟨A, 3, none⟩ = some (.int .u64 (f.c : Nat)) ∧ W'.cell? ⟨A, 4, none⟩ = some (.int .u64 (f.d : Nat)) ∧ (∀ j, W'.frozen? ⟨A, j, none⟩ = false) := by
  have hB := sb_below h g
  exact ⟨g, sb_four hB 0 _ rfl, sb_four hB 1 _ rfl, sb_four hB 2 _ rfl, sb_four hB 3 _ rfl, fun j => sb_free hB j⟩

/-- An operation is taken first; where it puts its answer is named. -/
theorem take' {P : Program} {md : Region.Mode} {ops : Array Oper} {Q : Exit → Act → World → Prop} {S : World → Prop} {i : Nat} {oi : Oper} {d : Option Tmp} {v : Value} {fuel : Nat} {listed : Array Bool} {a : Act} {w : World} (hi : ops[i]? = some oi) (hd : oi.dst = d)
    (hs : Region.noSelect ops = true) (hf : Region.free md ops listed i = true) (hr : (Region.ready md ops listed).contains i = true)
    (hQ : ∀ c a w, Q (.panic c) (a.put d v) w → Q (.panic c) a w) (hy : YieldsIf P ops S oi v a) (hS : S w)
    (h : wpAnyH P md ops Q S fuel (listed.setIfInBounds i true) (a.put d v) w) : wpAnyH P md ops Q S (fuel + 1) listed a w := by
  subst hd
  exact wpAnyH_take hi hs hf hr hQ hy hS h

theorem range_set {V : World} {A o : Nat} {cs : List Value} (h : V.rangeAt A o cs) (j : Nat) (u : Value) (hj : j < o) : (V.setCell ⟨A, j, none⟩ u).rangeAt A o cs :=
  World.rangeAt_setCells_apart (vs := [u]) (o := j) (b := A) h (.inr (.inr (by simp; omega)))
theorem range4 {V : World} {A : Nat} {cs : List Value} {x y z u : Value} (h : V.rangeAt A 5 cs) : ((((V.setCell ⟨A, 1, none⟩ x).setCell ⟨A, 2, none⟩ y).setCell ⟨A, 3, none⟩ z).setCell ⟨A, 4, none⟩ u).rangeAt A 5 cs :=
  range_set (range_set (range_set (range_set h 1 x (by omega)) 2 y (by omega)) 3 z (by omega)) 4 u (by omega)
set_option maxRecDepth 100000 in
set_option maxHeartbeats 4000000 in
theorem stepS_any {W : World} {A seed n : Nat} {f : F4} {k : List UInt8} (h : Sb W A seed f k n) (hn1 : ¬ n = 32) :
    Calls Try.prog 14 #[ptr A] W fun e W' => e = .returned (.tuple #[]) ∧ Sb W' A seed (step4 f k) k n ∧ Chg (· = A) W W' := by
  have c := sb_came h
  have a1 := sb_four h 0 _ rfl
  have a2 := sb_four h 1 _ rfl
  have a3 := sb_four h 2 _ rfl
  have a4 := sb_four h 3 _ rfl
  simp only [Nat.reduceAdd] at a1 a2 a3 a4
  have hl : (k.map byteV).length = 32 := by rw [List.length_map]; exact h.2
  have hu := Try.underlying37
  have hi : (Try.prog.info? 37).map (·.size) = some (k.map byteV).length := by rw [hl]; kernel_rfl
  have ho : ∀ v ∈ k.map byteV, v.oneCell' = true := by
    intro v hv
    obtain ⟨x, _, rfl⟩ := List.mem_map.1 hv
    rfl
  have hr := sb_kept h
  have P : Calls Try.prog 22 #[agg4 f, .agg (k.map byteV).toArray] W.drew fun e w' => e = .returned (agg4 (step4 f k)) ∧ (w'.rangeAt A 5 (k.map byteV) ∧ Below W.heap.size W w' ∧ w'.cell? ⟨A, 1, none⟩ = some (.int .u64 (f.a : Nat)) ∧ w'.cell? ⟨A, 2, none⟩ = some (.int .u64 (f.b : Nat)) ∧ w'.cell? ⟨A, 3, none⟩ = some (.int .u64 (f.c : Nat)) ∧ w'.cell? ⟨A, 4, none⟩ = some (.int .u64 (f.d : Nat)) ∧ (∀ j, w'.frozen? ⟨A, j, none⟩ = false)) := by
    refine (stepF_any f k h.2 W.drew).mono ?_
    rintro e w' ⟨rfl, hb⟩
    have hb' : Below W.heap.size W w' := ⟨hb.os, hb.tape, hb.output, hb.size, hb.block⟩
    exact ⟨rfl, sb_kept (sb_below h hb'), keepS h hb'⟩
  generalize step4 f k = z at *
  replace h := hidI h
  generalize k.map byteV = cs at *
  unfold agg4 at P
  unfold ptr
  go_enter Try.func14, Try.ntmps14
  go_wp2
  refine wp_region_held_drew (S := fun V => V.rangeAt A 5 cs) (by kernel_rfl) hr (fun hHeld => ?_)
  refine take' (i := 0) (d := some 15) (v := ?_) rfl rfl (by kernel_rfl) (by kernel_rfl) (by kernel_rfl) (fun _ _ _ h => h) (Or.inl ⟨by rfl, ?_⟩) (by assumption) ?_
  rotate_left
  · intro w hSw; (try dsimp only at hSw); go_simp; try with_reducible rfl
  try simp only [Act.put, List.setIfInBounds_toArray, List.set_cons_zero, List.set_cons_succ]
  refine take' (i := 1) (d := some 16) (v := ?_) rfl rfl (by kernel_rfl) (by kernel_rfl) (by kernel_rfl) (fun _ _ _ h => h) (Or.inl ⟨by rfl, ?_⟩) (by assumption) ?_
  rotate_left
  · intro w hSw; (try dsimp only at hSw); go_simp; try with_reducible rfl
  try simp only [Act.put, List.setIfInBounds_toArray, List.set_cons_zero, List.set_cons_succ]
  refine take' (i := 2) (d := some 17) (v := ?_) rfl rfl (by kernel_rfl) (by kernel_rfl) (by kernel_rfl) (fun _ _ _ h => h) (Or.inl ⟨by rfl, ?_⟩) (by assumption) ?_
  rotate_left
  · intro w hSw; (try dsimp only at hSw); go_simp; try with_reducible rfl
  try simp only [Act.put, List.setIfInBounds_toArray, List.set_cons_zero, List.set_cons_succ]
  refine take' (i := 3) (d := some 18) (v := ?_) rfl rfl (by kernel_rfl) (by kernel_rfl) (by kernel_rfl) (fun _ _ _ h => h) (Or.inl ⟨by rfl, ?_⟩) (by assumption) ?_
  rotate_left
  · intro w hSw; (try dsimp only at hSw); go_simp; try with_reducible rfl
  try simp only [Act.put, List.setIfInBounds_toArray, List.set_cons_zero, List.set_cons_succ]
  refine take' (i := 5) (d := some 20) (v := ?_) rfl rfl (by kernel_rfl) (by kernel_rfl) (by kernel_rfl) (fun _ _ _ h => h) (Or.inl ⟨by rfl, ?_⟩) (by assumption) ?_
  rotate_left
  · intro w hSw; (try dsimp only at hSw); go_simp; try with_reducible rfl
  try simp only [Act.put, List.setIfInBounds_toArray, List.set_cons_zero, List.set_cons_succ]
  refine take' (i := 6) (d := some 21) (v := ?_) rfl rfl (by kernel_rfl) (by kernel_rfl) (by kernel_rfl) (fun _ _ _ h => h) (Or.inl ⟨by rfl, ?_⟩) (by assumption) ?_
  rotate_left
  · intro w hSw; (try dsimp only at hSw); go_simp; try with_reducible rfl
  try simp only [Act.put, List.setIfInBounds_toArray, List.set_cons_zero, List.set_cons_succ]
  refine take' (i := 7) (d := some 22) (v := ?_) rfl rfl (by kernel_rfl) (by kernel_rfl) (by kernel_rfl) (fun _ _ _ h => h) (Or.inl ⟨by rfl, ?_⟩) (by assumption) ?_
  rotate_left
  · intro w hSw; (try dsimp only at hSw); go_simp; try with_reducible rfl
  try simp only [Act.put, List.setIfInBounds_toArray, List.set_cons_zero, List.set_cons_succ]
  refine take' (i := 8) (d := some 23) (v := .agg cs.toArray) rfl rfl (by kernel_rfl) (by kernel_rfl) (by kernel_rfl) (fun _ _ _ h => h) (yieldsIf_load_mid (by rfl) 37 (.tmp 22) rfl A 5 rfl cs (.array 32 5) (fun w h => h) hu rfl hi) (by assumption) ?_
  try simp only [Act.put, List.setIfInBounds_toArray, List.set_cons_zero, List.set_cons_succ]
  refine wpAnyH_ready (rs := [4]) (by kernel_rfl) (by simp) ?_
  refine AllReadyH.cons (o := _) rfl (fun K hK => ?_) AllReadyH.nil
  go_simp
  refine hK.out _ _ (by assumption) (fun hHeld => ?_)
  clear hK K
  try simp only [Act.put, List.setIfInBounds_toArray, List.set_cons_zero, List.set_cons_succ]
  refine wpAnyH_ready (rs := [9]) (by kernel_rfl) (by simp) ?_
  refine AllReadyH.cons (o := _) rfl (fun K hK => ?_) AllReadyH.nil
  go_simp
  refine P.mono ?_
  rintro e w4 ⟨rfl, d0, hb4, d1, d2, d3, d4, d5⟩
  replace hb4 := hidI hb4
  go_wp2_with fail
  refine hK.out _ _ d0 (fun hHeld => ?_)
  clear hK K
  try simp only [Act.put, List.setIfInBounds_toArray, List.set_cons_zero, List.set_cons_succ]
  refine take' (i := 10) (d := some 25) (v := ?_) rfl rfl (by kernel_rfl) (by kernel_rfl) (by kernel_rfl) (fun _ _ _ h => h) (Or.inl ⟨by rfl, ?_⟩) (by assumption) ?_
  rotate_left
  · intro w hSw; (try dsimp only at hSw); go_simp; try with_reducible rfl
  try simp only [Act.put, List.setIfInBounds_toArray, List.set_cons_zero, List.set_cons_succ]
  refine take' (i := 11) (d := some 26) (v := ?_) rfl rfl (by kernel_rfl) (by kernel_rfl) (by kernel_rfl) (fun _ _ _ h => h) (Or.inl ⟨by rfl, ?_⟩) (by assumption) ?_
  rotate_left
  · intro w hSw; (try dsimp only at hSw); go_simp; try with_reducible rfl
  try simp only [Act.put, List.setIfInBounds_toArray, List.set_cons_zero, List.set_cons_succ]
  refine wpAnyH_ready (rs := [12]) (by kernel_rfl) (by simp) ?_
  refine AllReadyH.cons (o := _) rfl (fun K hK => ?_) AllReadyH.nil
  go_simp
  refine hK.out _ _ (range4 d0) (fun hHeld => ?_)
  clear hK K
  try simp only [Act.put, List.setIfInBounds_toArray, List.set_cons_zero, List.set_cons_succ]
  refine wpAnyH_done (by kernel_rfl) ?_ _
  go_wp2
  go_end0
  exact ⟨rfl, sb_set4 (sb_below h.out hb4.out) z, chg_sets (S := (· = A)) A (fun _ => rfl) [.int .u64 z.a, .int .u64 z.b, .int .u64 z.c, .int .u64 z.d] 1 w4 (chg_of hb4.out)⟩

set_option maxRecDepth 100000 in
set_option maxHeartbeats 4000000 in
theorem stepN_any {w : World} {A seed : Nat} {f0 : F4} {k : List UInt8} (h0 : Sb w A seed f0 k 32) :
    Calls Try.prog 14 #[ptr A] w fun e W' => e = .returned (.tuple #[]) ∧ Sb W' A seed (step4 (new4 seed) k) k 32 ∧ Chg (· = A) w W' := by
  have c := sb_came h0
  have cs0 := sb_seed h0
  have P0 : Calls Try.prog 21 #[.int .u64 seed] w fun e w' => e = .returned (agg4 (new4 seed)) ∧ (Below w.heap.size w w' ∧ w'.cell? ⟨A, 1, none⟩ = some (.int .u64 (f0.a : Nat)) ∧ w'.cell? ⟨A, 2, none⟩ = some (.int .u64 (f0.b : Nat)) ∧ w'.cell? ⟨A, 3, none⟩ = some (.int .u64 (f0.c : Nat)) ∧ w'.cell? ⟨A, 4, none⟩ = some (.int .u64 (f0.d : Nat)) ∧ (∀ j, w'.frozen? ⟨A, j, none⟩ = false)) := by
    refine (newF_any seed w).mono ?_
    rintro e w' ⟨rfl, hb⟩
    exact ⟨rfl, keepS h0 hb⟩
  obtain ⟨f, hf⟩ : ∃ f, new4 seed = f := ⟨_, rfl⟩
  rw [hf] at P0 ⊢
  clear hf
  obtain ⟨z, hz⟩ : ∃ z, step4 f k = z := ⟨_, rfl⟩
  rw [hz]
  have HZ := hidI hz
  clear hz
  replace h0 := hidI h0
  unfold agg4 at P0
  unfold ptr
  go_enter Try.func14, Try.ntmps14
  go_wp2_with fail
  refine P0.mono ?_
  rintro e w1 ⟨rfl, hb1, d1, d2, d3, d4, d5⟩
  replace hb1 := hidI hb1
  clear P0
  go_wp2
  have h : Sb ((((w1.setCell ⟨A, 1, none⟩ (.int .u64 (f.a : Int))).setCell ⟨A, 2, none⟩ (.int .u64 (f.b : Int))).setCell ⟨A, 3, none⟩ (.int .u64 (f.c : Int))).setCell ⟨A, 4, none⟩ (.int .u64 (f.d : Int))) A seed f k 32 := sb_set4 (sb_below h0.out hb1.out) f
  have hch : Hid (Chg (· = A) w ((((w1.setCell ⟨A, 1, none⟩ (.int .u64 (f.a : Int))).setCell ⟨A, 2, none⟩ (.int .u64 (f.b : Int))).setCell ⟨A, 3, none⟩ (.int .u64 (f.c : Int))).setCell ⟨A, 4, none⟩ (.int .u64 (f.d : Int)))) :=
    chg_sets (S := (· = A)) A (fun _ => rfl) [.int .u64 f.a, .int .u64 f.b, .int .u64 f.c, .int .u64 f.d] 1 w1 (chg_of hb1.out)
  clear d1 d2 d3 d4 d5 hb1 h0 c cs0
  generalize ((((w1.setCell ⟨A, 1, none⟩ (.int .u64 (f.a : Int))).setCell ⟨A, 2, none⟩ (.int .u64 (f.b : Int))).setCell ⟨A, 3, none⟩ (.int .u64 (f.c : Int))).setCell ⟨A, 4, none⟩ (.int .u64 (f.d : Int))) = W at *
  have a1 := sb_four h 0 _ rfl
  have a2 := sb_four h 1 _ rfl
  have a3 := sb_four h 2 _ rfl
  have a4 := sb_four h 3 _ rfl
  simp only [Nat.reduceAdd] at a1 a2 a3 a4
  have hl : (k.map byteV).length = 32 := by rw [List.length_map]; exact h.2
  have hu := Try.underlying37
  have hi : (Try.prog.info? 37).map (·.size) = some (k.map byteV).length := by rw [hl]; kernel_rfl
  have ho : ∀ v ∈ k.map byteV, v.oneCell' = true := by
    intro v hv
    obtain ⟨x, _, rfl⟩ := List.mem_map.1 hv
    rfl
  have hr := sb_kept h
  have P : Calls Try.prog 22 #[agg4 f, .agg (k.map byteV).toArray] W.drew fun e w' => e = .returned (agg4 (step4 f k)) ∧ (w'.rangeAt A 5 (k.map byteV) ∧ Below W.heap.size W w' ∧ w'.cell? ⟨A, 1, none⟩ = some (.int .u64 (f.a : Nat)) ∧ w'.cell? ⟨A, 2, none⟩ = some (.int .u64 (f.b : Nat)) ∧ w'.cell? ⟨A, 3, none⟩ = some (.int .u64 (f.c : Nat)) ∧ w'.cell? ⟨A, 4, none⟩ = some (.int .u64 (f.d : Nat)) ∧ (∀ j, w'.frozen? ⟨A, j, none⟩ = false)) := by
    refine (stepF_any f k h.2 W.drew).mono ?_
    rintro e w' ⟨rfl, hb⟩
    have hb' : Below W.heap.size W w' := ⟨hb.os, hb.tape, hb.output, hb.size, hb.block⟩
    exact ⟨rfl, sb_kept (sb_below h hb'), keepS h hb'⟩
  rw [HZ.out] at P
  clear HZ
  replace h := hidI h
  generalize k.map byteV = cs at *
  unfold agg4 at P
  refine wp_region_held_drew (S := fun V => V.rangeAt A 5 cs) (by kernel_rfl) hr (fun hHeld => ?_)
  refine take' (i := 0) (d := some 15) (v := ?_) rfl rfl (by kernel_rfl) (by kernel_rfl) (by kernel_rfl) (fun _ _ _ h => h) (Or.inl ⟨by rfl, ?_⟩) (by assumption) ?_
  rotate_left
  · intro w hSw; (try dsimp only at hSw); go_simp; try with_reducible rfl
  try simp only [Act.put, List.setIfInBounds_toArray, List.set_cons_zero, List.set_cons_succ]
  refine take' (i := 1) (d := some 16) (v := ?_) rfl rfl (by kernel_rfl) (by kernel_rfl) (by kernel_rfl) (fun _ _ _ h => h) (Or.inl ⟨by rfl, ?_⟩) (by assumption) ?_
  rotate_left
  · intro w hSw; (try dsimp only at hSw); go_simp; try with_reducible rfl
  try simp only [Act.put, List.setIfInBounds_toArray, List.set_cons_zero, List.set_cons_succ]
  refine take' (i := 2) (d := some 17) (v := ?_) rfl rfl (by kernel_rfl) (by kernel_rfl) (by kernel_rfl) (fun _ _ _ h => h) (Or.inl ⟨by rfl, ?_⟩) (by assumption) ?_
  rotate_left
  · intro w hSw; (try dsimp only at hSw); go_simp; try with_reducible rfl
  try simp only [Act.put, List.setIfInBounds_toArray, List.set_cons_zero, List.set_cons_succ]
  refine take' (i := 3) (d := some 18) (v := ?_) rfl rfl (by kernel_rfl) (by kernel_rfl) (by kernel_rfl) (fun _ _ _ h => h) (Or.inl ⟨by rfl, ?_⟩) (by assumption) ?_
  rotate_left
  · intro w hSw; (try dsimp only at hSw); go_simp; try with_reducible rfl
  try simp only [Act.put, List.setIfInBounds_toArray, List.set_cons_zero, List.set_cons_succ]
  refine take' (i := 5) (d := some 20) (v := ?_) rfl rfl (by kernel_rfl) (by kernel_rfl) (by kernel_rfl) (fun _ _ _ h => h) (Or.inl ⟨by rfl, ?_⟩) (by assumption) ?_
  rotate_left
  · intro w hSw; (try dsimp only at hSw); go_simp; try with_reducible rfl
  try simp only [Act.put, List.setIfInBounds_toArray, List.set_cons_zero, List.set_cons_succ]
  refine take' (i := 6) (d := some 21) (v := ?_) rfl rfl (by kernel_rfl) (by kernel_rfl) (by kernel_rfl) (fun _ _ _ h => h) (Or.inl ⟨by rfl, ?_⟩) (by assumption) ?_
  rotate_left
  · intro w hSw; (try dsimp only at hSw); go_simp; try with_reducible rfl
  try simp only [Act.put, List.setIfInBounds_toArray, List.set_cons_zero, List.set_cons_succ]
  refine take' (i := 7) (d := some 22) (v := ?_) rfl rfl (by kernel_rfl) (by kernel_rfl) (by kernel_rfl) (fun _ _ _ h => h) (Or.inl ⟨by rfl, ?_⟩) (by assumption) ?_
  rotate_left
  · intro w hSw; (try dsimp only at hSw); go_simp; try with_reducible rfl
  try simp only [Act.put, List.setIfInBounds_toArray, List.set_cons_zero, List.set_cons_succ]
  refine take' (i := 8) (d := some 23) (v := .agg cs.toArray) rfl rfl (by kernel_rfl) (by kernel_rfl) (by kernel_rfl) (fun _ _ _ h => h) (yieldsIf_load_mid (by rfl) 37 (.tmp 22) rfl A 5 rfl cs (.array 32 5) (fun w h => h) hu rfl hi) (by assumption) ?_
  try simp only [Act.put, List.setIfInBounds_toArray, List.set_cons_zero, List.set_cons_succ]
  refine wpAnyH_ready (rs := [4]) (by kernel_rfl) (by simp) ?_
  refine AllReadyH.cons (o := _) rfl (fun K hK => ?_) AllReadyH.nil
  go_simp
  refine hK.out _ _ (by assumption) (fun hHeld => ?_)
  clear hK K
  try simp only [Act.put, List.setIfInBounds_toArray, List.set_cons_zero, List.set_cons_succ]
  refine wpAnyH_ready (rs := [9]) (by kernel_rfl) (by simp) ?_
  refine AllReadyH.cons (o := _) rfl (fun K hK => ?_) AllReadyH.nil
  go_simp
  refine P.mono ?_
  rintro e w4 ⟨rfl, d0, hb4, d1, d2, d3, d4, d5⟩
  replace hb4 := hidI hb4
  go_wp2_with fail
  refine hK.out _ _ d0 (fun hHeld => ?_)
  clear hK K
  try simp only [Act.put, List.setIfInBounds_toArray, List.set_cons_zero, List.set_cons_succ]
  refine take' (i := 10) (d := some 25) (v := ?_) rfl rfl (by kernel_rfl) (by kernel_rfl) (by kernel_rfl) (fun _ _ _ h => h) (Or.inl ⟨by rfl, ?_⟩) (by assumption) ?_
  rotate_left
  · intro w hSw; (try dsimp only at hSw); go_simp; try with_reducible rfl
  try simp only [Act.put, List.setIfInBounds_toArray, List.set_cons_zero, List.set_cons_succ]
  refine take' (i := 11) (d := some 26) (v := ?_) rfl rfl (by kernel_rfl) (by kernel_rfl) (by kernel_rfl) (fun _ _ _ h => h) (Or.inl ⟨by rfl, ?_⟩) (by assumption) ?_
  rotate_left
  · intro w hSw; (try dsimp only at hSw); go_simp; try with_reducible rfl
  try simp only [Act.put, List.setIfInBounds_toArray, List.set_cons_zero, List.set_cons_succ]
  refine wpAnyH_ready (rs := [12]) (by kernel_rfl) (by simp) ?_
  refine AllReadyH.cons (o := _) rfl (fun K hK => ?_) AllReadyH.nil
  go_simp
  refine hK.out _ _ (range4 d0) (fun hHeld => ?_)
  clear hK K
  try simp only [Act.put, List.setIfInBounds_toArray, List.set_cons_zero, List.set_cons_succ]
  refine wpAnyH_done (by kernel_rfl) ?_ _
  go_wp2
  go_end0
  exact ⟨rfl, sb_set4 (sb_below h.out hb4.out) z, chg_same hch.out (chg_sets (S := (· = A)) A (fun _ => rfl) [.int .u64 z.a, .int .u64 z.b, .int .u64 z.c, .int .u64 z.d] 1 w4 (chg_of hb4.out))⟩
end Go.Proofs.Ytlmkdadhdeielaa
