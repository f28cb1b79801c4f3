/-
  May, of whatever numbers and log; what Get says, number by number, in the order of its tests; ints that say numbers; each condition stands at its theorem; the queue of a list's numbers, and what comes out of it next; each condition stands at its theorem; what any frequencies are normed to, or the error; each condition stands at its theorem; how many noughts a list begins with.
-/
import Derived.Test.YtofclflcicjlaaaGreatSh
import Derived.Test.YtofclflcicjlaaaGreatBd
import Derived.Deep.RegionHeld3
import Derived.BigQuiet
import Derived.Deep.QuietTactic
import Derived.WalkKit
import Derived.ProofKit
import Derived.OpenShut
import Derived.Lib.BitFns
import Derived.Laws.BitsAllLaws
import Derived.WalkSmall
import Derived.Lib.Strings
import Derived.Lib.Slices
import Derived.Lib.Small
import Derived.Lib.Walk
import Derived.Below
import Derived.Deep.Heap
import Derived.ArgAppend
import Derived.Maps.AppendAt
import Derived.Laws.IdiomStrings
import Derived.Deep.OwnRows
import Derived.Deep.RegionLaw
import Derived.Handy
import Derived.Deep.RegionWith
import Derived.OwnWalk
namespace Go.Proofs.YtofclflcicjlaaaGreat
open Go.ChangeShapes Go.WideShapes Go.ChangeAt Go.RowKit
open Go.ChangeMaps (open_string shut_string)

theorem take' {P : Program} {md : Region.Mode} {ops : Array Oper} {Q : Exit → Act → World → Prop} {S : World → Prop} {i : Nat} {oi : Oper} {d : Option Tmp} {v : Value} {fuel : Nat} {listed : Array Bool} {a : Act} {w : World} (hi : ops[i]? = some oi) (hd : oi.dst = d)
    (hs : Region.noSelect ops = true) (hf : Region.free md ops listed i = true) (hr : (Region.ready md ops listed).contains i = true)
    (hQ : ∀ c a w, Q (.panic c) (a.put d v) w → Q (.panic c) a w) (hy : YieldsIf P ops S oi v a) (hS : S w)
    (h : wpAnyH P md ops Q S fuel (listed.setIfInBounds i true) (a.put d v) w) : wpAnyH P md ops Q S (fuel + 1) listed a w := by
  subst hd
  exact wpAnyH_take hi hs hf hr hQ hy hS h
def may (z : Int) (f : List Int) : Bool := lgB z && okC (2 ^ z.toNat) f && decide (f.sum = 2 ^ z.toNat)
theorem one_shl (z : Int) (h : lgB z = true) : ∃ s : Nat, (2 : Int) ^ z.toNat = (s : Int) ∧ 2 ^ z.toNat = s ∧ s ≤ 4096 ∧ 128 ≤ s ∧ IntKind.i64.wrap (s : Int) = (s : Int) ∧ z.toNat ≤ 12 := by
  obtain ⟨z7, z12⟩ := (lgB_iff z).1 h
  obtain ⟨k, rfl⟩ : ∃ k : Nat, z = (k : Int) := ⟨z.toNat, by omega⟩
  rw [Int.toNat_natCast]
  have e : (2 : Int) ^ k = ((2 ^ k : Nat) : Int) := by rw [Int.natCast_pow]; rfl
  have b := pow_bd k (by omega)
  have c : 2 ^ 7 ≤ 2 ^ k := Nat.pow_le_pow_right (by omega) (by omega)
  refine ⟨2 ^ k, e, rfl, b, by omega, ?_, by omega⟩
  rw [IntKind.wrap_i64]
  generalize 2 ^ k = x at *
  omega
set_option maxRecDepth 100000 in
set_option maxHeartbeats 2000000 in
theorem may_any (a : Option Addr) (n cap : Nat) (f : List Int) (z : Int) (w : World) (h : RI w a n f) (hn : n ≤ 1000) :
    Calls Tryz.prog 69 #[.slice a n cap, .int .i64 z] w fun e w' => e = .returned (.bool (may z f)) ∧ Below w.heap.size w w' := by
  have ML := maylog_any z
  by_cases h1 : lgB z = true
  · obtain ⟨z7, z12⟩ := (lgB_iff z).1 h1
    have M : Hid (may z f = (okC (2 ^ z.toNat) f && decide (f.sum = 2 ^ z.toNat))) := by show _ = _; unfold may; rw [h1, Bool.true_and]
    rw [h1] at ML
    have OC : ∀ W, Below w.heap.size w W → _ := fun W hW => ofc_any (2 ^ z.toNat) a n cap f W (ri_below h hW) (by omega)
    obtain ⟨s, e1, e2, s1, s2, e3, k12⟩ := one_shl z h1
    rw [e1] at M
    rw [e1] at OC
    by_cases h2 : okC (s : Int) f = true
    · rw [h2, Bool.true_and] at M
      rw [h2] at OC
      obtain ⟨fl, fb⟩ := (okC_iff _ _).1 h2
      have SU : ∀ W, Below w.heap.size w W → _ := fun W hW => sum_any a n cap f W (ri_below h hW) hn (fun x hx => by have := fb x hx; omega)
      have OC2 := Hid.intro OC
      have SU2 := Hid.intro SU
      clear OC SU fb h fl h1 h2
      go_enter Tryz.func69, Tryz.ntmps69
      go_wp2_with fail
      refine wp_region_held_drew (S := fun W => True ∧ Below w.heap.size w W) (by kernel_rfl) ⟨trivial, (Below.refl _ _).drew⟩ (fun hHeld => ?_)
      refine take' (i := 0) (d := (some 5)) (v := ?_) rfl rfl (by kernel_rfl) (by kernel_rfl) (by kernel_rfl) (fun _ _ _ h => h) (Or.inl ⟨by rfl, ?_⟩) (by assumption) ?_
      rotate_left
      · intro w hSw; (try dsimp only at hSw); go_simp; try with_reducible rfl
      try simp only [Act.put, List.setIfInBounds_toArray, List.set_cons_zero, List.set_cons_succ]
      refine wpAnyH_ready (rs := [1]) (by kernel_rfl) (by simp) ?_
      refine AllReadyH.cons (o := _) rfl (fun K hK => ?_) AllReadyH.nil
      go_simp
      with_reducible refine (ML _).mono ?_
      rintro e w4 ⟨rfl, hb4⟩
      cases hb4
      go_wp2_with fail
      refine hK.out _ _ hHeld (fun hHeld => ?_)
      clear hK K
      try simp only [Act.put, List.setIfInBounds_toArray, List.set_cons_zero, List.set_cons_succ]
      refine take' (i := 2) (d := (some 7)) (v := ?_) rfl rfl (by kernel_rfl) (by kernel_rfl) (by kernel_rfl) (fun _ _ _ h => h) (Or.inl ⟨by rfl, ?_⟩) (by assumption) ?_
      rotate_left
      · intro w hSw; (try dsimp only at hSw); go_simp; try with_reducible rfl
      try simp only [Act.put, List.setIfInBounds_toArray, List.set_cons_zero, List.set_cons_succ]
      refine take' (i := 3) (d := (some 8)) (v := ?_) rfl rfl (by kernel_rfl) (by kernel_rfl) (by kernel_rfl) (fun _ _ _ h => h) (Or.inl ⟨by rfl, ?_⟩) (by assumption) ?_
      rotate_left
      · intro w hSw; (try dsimp only at hSw); go_simp; try with_reducible rfl
      try simp only [Act.put, List.setIfInBounds_toArray, List.set_cons_zero, List.set_cons_succ]
      refine take' (i := 4) (d := (some 9)) (v := ?_) rfl rfl (by kernel_rfl) (by kernel_rfl) (by kernel_rfl) (fun _ _ _ h => h) (Or.inl ⟨by rfl, ?_⟩) (by assumption) ?_
      rotate_left
      · intro w hSw; (try dsimp only at hSw); go_simp; try with_reducible rfl
      try simp only [Act.put, List.setIfInBounds_toArray, List.set_cons_zero, List.set_cons_succ]
      refine take' (i := 5) (d := (some 10)) (v := ?_) rfl rfl (by kernel_rfl) (by kernel_rfl) (by kernel_rfl) (fun _ _ _ h => h) (Or.inl ⟨by rfl, ?_⟩) (by assumption) ?_
      rotate_left
      · intro w hSw; (try dsimp only at hSw); go_simp; try with_reducible rfl
      try simp only [Act.put, List.setIfInBounds_toArray, List.set_cons_zero, List.set_cons_succ]
      refine wpAnyH_ready (rs := [6]) (by kernel_rfl) (by simp) ?_
      refine AllReadyH.cons (o := _) rfl (fun K hK => ?_) AllReadyH.nil
      go_simp
      with_reducible refine (OC2.out _ hHeld.2).mono ?_
      rintro e w4 ⟨rfl, hb4⟩
      go_wp2_with fail
      refine hK.out _ _ ⟨trivial, hHeld.2.trans (hb4.mono hHeld.2.size)⟩ (fun hHeld => ?_)
      clear hK K
      try simp only [Act.put, List.setIfInBounds_toArray, List.set_cons_zero, List.set_cons_succ]
      refine take' (i := 7) (d := (some 12)) (v := ?_) rfl rfl (by kernel_rfl) (by kernel_rfl) (by kernel_rfl) (fun _ _ _ h => h) (Or.inl ⟨by rfl, ?_⟩) (by assumption) ?_
      rotate_left
      · intro w hSw; (try dsimp only at hSw); go_simp; try with_reducible rfl
      try simp only [Act.put, List.setIfInBounds_toArray, List.set_cons_zero, List.set_cons_succ]
      refine take' (i := 8) (d := (some 13)) (v := ?_) rfl rfl (by kernel_rfl) (by kernel_rfl) (by kernel_rfl) (fun _ _ _ h => h) (Or.inl ⟨by rfl, ?_⟩) (by assumption) ?_
      rotate_left
      · intro w hSw; (try dsimp only at hSw); go_simp; try with_reducible rfl
      try simp only [Act.put, List.setIfInBounds_toArray, List.set_cons_zero, List.set_cons_succ]
      refine take' (i := 9) (d := (some 14)) (v := ?_) rfl rfl (by kernel_rfl) (by kernel_rfl) (by kernel_rfl) (fun _ _ _ h => h) (Or.inl ⟨by rfl, ?_⟩) (by assumption) ?_
      rotate_left
      · intro w hSw; (try dsimp only at hSw); go_simp; try with_reducible rfl
      try simp only [Act.put, List.setIfInBounds_toArray, List.set_cons_zero, List.set_cons_succ]
      refine take' (i := 11) (d := (some 16)) (v := ?_) rfl rfl (by kernel_rfl) (by kernel_rfl) (by kernel_rfl) (fun _ _ _ h => h) (Or.inl ⟨by rfl, ?_⟩) (by assumption) ?_
      rotate_left
      · intro w hSw; (try dsimp only at hSw); go_simp; try with_reducible rfl
      try simp only [Act.put, List.setIfInBounds_toArray, List.set_cons_zero, List.set_cons_succ]
      refine take' (i := 12) (d := (some 17)) (v := ?_) rfl rfl (by kernel_rfl) (by kernel_rfl) (by kernel_rfl) (fun _ _ _ h => h) (Or.inl ⟨by rfl, ?_⟩) (by assumption) ?_
      rotate_left
      · intro w hSw; (try dsimp only at hSw); go_simp; try with_reducible rfl
      try simp only [Act.put, List.setIfInBounds_toArray, List.set_cons_zero, List.set_cons_succ]
      refine wpAnyH_ready (rs := [10]) (by kernel_rfl) (by simp) ?_
      refine AllReadyH.cons (o := _) rfl (fun K hK => ?_) AllReadyH.nil
      go_simp
      with_reducible refine (SU2.out _ hHeld.2).mono ?_
      rintro e w4 ⟨rfl, hb4⟩
      cases hb4
      go_wp2_with fail
      refine hK.out _ _ hHeld (fun hHeld => ?_)
      clear hK K
      try simp only [Act.put, List.setIfInBounds_toArray, List.set_cons_zero, List.set_cons_succ]
      refine take' (i := 13) (d := (some 18)) (v := ?_) rfl rfl (by kernel_rfl) (by kernel_rfl) (by kernel_rfl) (fun _ _ _ h => h) (Or.inl ⟨by rfl, ?_⟩) (by assumption) ?_
      rotate_left
      · intro w hSw; (try dsimp only at hSw); go_simp; try with_reducible rfl
      try simp only [Act.put, List.setIfInBounds_toArray, List.set_cons_zero, List.set_cons_succ]
      refine take' (i := 14) (d := (some 19)) (v := ?_) rfl rfl (by kernel_rfl) (by kernel_rfl) (by kernel_rfl) (fun _ _ _ h => h) (Or.inl ⟨by rfl, ?_⟩) (by assumption) ?_
      rotate_left
      · intro w hSw; (try dsimp only at hSw); go_simp; try with_reducible rfl
      try simp only [Act.put, List.setIfInBounds_toArray, List.set_cons_zero, List.set_cons_succ]
      refine take' (i := 15) (d := (some 4)) (v := ?_) rfl rfl (by kernel_rfl) (by kernel_rfl) (by kernel_rfl) (fun _ _ _ h => h) (Or.inl ⟨by rfl, ?_⟩) (by assumption) ?_
      rotate_left
      · intro w hSw; (try dsimp only at hSw); go_simp; try with_reducible rfl
      try simp only [Act.put, List.setIfInBounds_toArray, List.set_cons_zero, List.set_cons_succ]
      refine wpAnyH_done (by kernel_rfl) ?_ _
      have HB := Hid.intro hHeld.2
      clear hHeld
      go_wp2_with fail
      go_ret
      exact ⟨ret_bool M.out.symm, HB.out⟩
    · have h2' : okC (s : Int) f = false := by simpa using h2
      rw [h2', Bool.false_and] at M
      rw [h2'] at OC
      have OC2 := Hid.intro OC
      clear OC h h1 h2 h2'
      go_enter Tryz.func69, Tryz.ntmps69
      go_wp2_with fail
      refine wp_region_held_drew (S := fun W => True ∧ Below w.heap.size w W) (by kernel_rfl) ⟨trivial, (Below.refl _ _).drew⟩ (fun hHeld => ?_)
      refine take' (i := 0) (d := (some 5)) (v := ?_) rfl rfl (by kernel_rfl) (by kernel_rfl) (by kernel_rfl) (fun _ _ _ h => h) (Or.inl ⟨by rfl, ?_⟩) (by assumption) ?_
      rotate_left
      · intro w hSw; (try dsimp only at hSw); go_simp; try with_reducible rfl
      try simp only [Act.put, List.setIfInBounds_toArray, List.set_cons_zero, List.set_cons_succ]
      refine wpAnyH_ready (rs := [1]) (by kernel_rfl) (by simp) ?_
      refine AllReadyH.cons (o := _) rfl (fun K hK => ?_) AllReadyH.nil
      go_simp
      with_reducible refine (ML _).mono ?_
      rintro e w4 ⟨rfl, hb4⟩
      cases hb4
      go_wp2_with fail
      refine hK.out _ _ hHeld (fun hHeld => ?_)
      clear hK K
      try simp only [Act.put, List.setIfInBounds_toArray, List.set_cons_zero, List.set_cons_succ]
      refine take' (i := 2) (d := (some 7)) (v := ?_) rfl rfl (by kernel_rfl) (by kernel_rfl) (by kernel_rfl) (fun _ _ _ h => h) (Or.inl ⟨by rfl, ?_⟩) (by assumption) ?_
      rotate_left
      · intro w hSw; (try dsimp only at hSw); go_simp; try with_reducible rfl
      try simp only [Act.put, List.setIfInBounds_toArray, List.set_cons_zero, List.set_cons_succ]
      refine take' (i := 3) (d := (some 8)) (v := ?_) rfl rfl (by kernel_rfl) (by kernel_rfl) (by kernel_rfl) (fun _ _ _ h => h) (Or.inl ⟨by rfl, ?_⟩) (by assumption) ?_
      rotate_left
      · intro w hSw; (try dsimp only at hSw); go_simp; try with_reducible rfl
      try simp only [Act.put, List.setIfInBounds_toArray, List.set_cons_zero, List.set_cons_succ]
      refine take' (i := 4) (d := (some 9)) (v := ?_) rfl rfl (by kernel_rfl) (by kernel_rfl) (by kernel_rfl) (fun _ _ _ h => h) (Or.inl ⟨by rfl, ?_⟩) (by assumption) ?_
      rotate_left
      · intro w hSw; (try dsimp only at hSw); go_simp; try with_reducible rfl
      try simp only [Act.put, List.setIfInBounds_toArray, List.set_cons_zero, List.set_cons_succ]
      refine take' (i := 5) (d := (some 10)) (v := ?_) rfl rfl (by kernel_rfl) (by kernel_rfl) (by kernel_rfl) (fun _ _ _ h => h) (Or.inl ⟨by rfl, ?_⟩) (by assumption) ?_
      rotate_left
      · intro w hSw; (try dsimp only at hSw); go_simp; try with_reducible rfl
      try simp only [Act.put, List.setIfInBounds_toArray, List.set_cons_zero, List.set_cons_succ]
      refine wpAnyH_ready (rs := [6]) (by kernel_rfl) (by simp) ?_
      refine AllReadyH.cons (o := _) rfl (fun K hK => ?_) AllReadyH.nil
      go_simp
      with_reducible refine (OC2.out _ hHeld.2).mono ?_
      rintro e w4 ⟨rfl, hb4⟩
      go_wp2_with fail
      refine hK.out _ _ ⟨trivial, hHeld.2.trans (hb4.mono hHeld.2.size)⟩ (fun hHeld => ?_)
      clear hK K
      try simp only [Act.put, List.setIfInBounds_toArray, List.set_cons_zero, List.set_cons_succ]
      refine take' (i := 7) (d := (some 12)) (v := ?_) rfl rfl (by kernel_rfl) (by kernel_rfl) (by kernel_rfl) (fun _ _ _ h => h) (Or.inl ⟨by rfl, ?_⟩) (by assumption) ?_
      rotate_left
      · intro w hSw; (try dsimp only at hSw); go_simp; try with_reducible rfl
      try simp only [Act.put, List.setIfInBounds_toArray, List.set_cons_zero, List.set_cons_succ]
      refine take' (i := 8) (d := (some 13)) (v := ?_) rfl rfl (by kernel_rfl) (by kernel_rfl) (by kernel_rfl) (fun _ _ _ h => h) (Or.inl ⟨by rfl, ?_⟩) (by assumption) ?_
      rotate_left
      · intro w hSw; (try dsimp only at hSw); go_simp; try with_reducible rfl
      try simp only [Act.put, List.setIfInBounds_toArray, List.set_cons_zero, List.set_cons_succ]
      refine take' (i := 9) (d := (some 14)) (v := undef) rfl rfl (by kernel_rfl) (by kernel_rfl) (by kernel_rfl) (fun _ _ _ h => h) (Or.inr ⟨by rfl, rfl⟩) (by assumption) ?_
      try simp only [Act.put, List.setIfInBounds_toArray, List.set_cons_zero, List.set_cons_succ]
      refine take' (i := 10) (d := (some 15)) (v := undef) rfl rfl (by kernel_rfl) (by kernel_rfl) (by kernel_rfl) (fun _ _ _ h => h) (Or.inr ⟨by rfl, rfl⟩) (by assumption) ?_
      try simp only [Act.put, List.setIfInBounds_toArray, List.set_cons_zero, List.set_cons_succ]
      refine take' (i := 11) (d := (some 16)) (v := undef) rfl rfl (by kernel_rfl) (by kernel_rfl) (by kernel_rfl) (fun _ _ _ h => h) (Or.inr ⟨by rfl, rfl⟩) (by assumption) ?_
      try simp only [Act.put, List.setIfInBounds_toArray, List.set_cons_zero, List.set_cons_succ]
      refine take' (i := 12) (d := (some 17)) (v := undef) rfl rfl (by kernel_rfl) (by kernel_rfl) (by kernel_rfl) (fun _ _ _ h => h) (Or.inr ⟨by rfl, rfl⟩) (by assumption) ?_
      try simp only [Act.put, List.setIfInBounds_toArray, List.set_cons_zero, List.set_cons_succ]
      refine take' (i := 13) (d := (some 18)) (v := undef) rfl rfl (by kernel_rfl) (by kernel_rfl) (by kernel_rfl) (fun _ _ _ h => h) (Or.inr ⟨by rfl, rfl⟩) (by assumption) ?_
      try simp only [Act.put, List.setIfInBounds_toArray, List.set_cons_zero, List.set_cons_succ]
      refine take' (i := 14) (d := (some 19)) (v := ?_) rfl rfl (by kernel_rfl) (by kernel_rfl) (by kernel_rfl) (fun _ _ _ h => h) (Or.inl ⟨by rfl, ?_⟩) (by assumption) ?_
      rotate_left
      · intro w hSw; (try dsimp only at hSw); go_simp; try with_reducible rfl
      try simp only [Act.put, List.setIfInBounds_toArray, List.set_cons_zero, List.set_cons_succ]
      refine take' (i := 15) (d := (some 4)) (v := ?_) rfl rfl (by kernel_rfl) (by kernel_rfl) (by kernel_rfl) (fun _ _ _ h => h) (Or.inl ⟨by rfl, ?_⟩) (by assumption) ?_
      rotate_left
      · intro w hSw; (try dsimp only at hSw); go_simp; try with_reducible rfl
      try simp only [Act.put, List.setIfInBounds_toArray, List.set_cons_zero, List.set_cons_succ]
      refine wpAnyH_done (by kernel_rfl) ?_ _
      have HB := Hid.intro hHeld.2
      clear hHeld
      go_wp2_with fail
      go_ret
      exact ⟨ret_bool M.out.symm, HB.out⟩
  · have hf : lgB z = false := by simpa using h1
    have M : Hid (may z f = false) := by show _ = _; unfold may; rw [hf]; rfl
    rw [hf] at ML
    clear h1 h
    go_enter Tryz.func69, Tryz.ntmps69
    go_wp2_with fail
    go_quiet ((go_at_call 93; refine Calls.quiet_of_same (ML _)))
    go_wp2_with fail
    go_ret
    exact ⟨ret_bool M.out.symm, below_drewN (Below.refl _ _) _⟩
/-- Ints that say small numbers, and nothing else of the rest. -/
def Conv (c : Nat → Int) (l : List Nat) : Prop := ∀ n ∈ l, (n ≤ 4096 → c n = (n : Int)) ∧ (0 ≤ c n → c n ≤ 4096 → c n = (n : Int))
theorem conv_map {c : Nat → Int} {l : List Nat} (h : ∀ n ∈ l, c n = (n : Int)) : l.map c = l.map Int.ofNat := List.map_congr_left (fun n hn => h n hn)
theorem conv_may {c : Nat → Int} {l : List Nat} (h : Conv c l) (z : Int) : may z (l.map c) = mayN z l := by
  by_cases hm : mayN z l = true
  · rw [hm]
    obtain ⟨h1, h2, h3⟩ := mayN_yes.1 hm
    have hb := mayN_bd hm
    have hz := (lgB_iff z).2 h1
    obtain ⟨s, e1, e2, s1, s2, -, -⟩ := one_shl z hz
    have lz := le_sum l
    rw [conv_map (fun n hn => (h n hn).1 (hb n hn))]
    unfold may
    rw [hz, Bool.true_and, e1, Bool.and_eq_true]
    refine ⟨(okC_iff _ _).2 ⟨by simpa using h2, fun y hy => ?_⟩, by rw [sum_ofNat, h3, e2]; simp⟩
    obtain ⟨x, hx, rfl⟩ := List.mem_map.1 hy
    have := lz x hx
    rw [h3, e2] at this
    exact ⟨Int.natCast_nonneg _, by show (x : Int) ≤ _; omega⟩
  · have hf : mayN z l = false := by simpa using hm
    rw [hf]
    by_cases hy : may z (l.map c) = true
    · exfalso
      apply hm
      unfold may at hy
      simp only [Bool.and_eq_true, decide_eq_true_eq] at hy
      obtain ⟨⟨a1, a2⟩, a3⟩ := hy
      obtain ⟨s, e1, e2, s1, s2, -, -⟩ := one_shl z a1
      rw [e1] at a2 a3
      obtain ⟨b1, b2⟩ := (okC_iff _ _).1 a2
      have e : l.map c = l.map Int.ofNat := conv_map (fun n hn => by
        have := b2 (c n) (List.mem_map_of_mem hn)
        exact (h n hn).2 this.1 (by omega))
      rw [e] at a3 b1
      rw [sum_ofNat] at a3
      exact mayN_yes.2 ⟨(lgB_iff z).1 a1, by simpa using b1, by rw [e2]; omega⟩
    · simpa using hy
theorem blk_set_other {W : World} {A : Nat} {cs : Array Value} {t : TypeId} (h : Blk W A cs t) (p : Addr) (u : Value) (hp : A ≠ p.block) : Blk (W.setCell p u) A cs t :=
  (Below.heap_setCell _ _ _ _ hp).trans h

theorem norm_no {f : List Int} {z : Int} (h : lgB z = false ∨ okC 16777216 f = false ∨ f.sum = 0) : normA f z = (1, []) := by
  unfold normA
  rw [if_neg]
  rintro ⟨h1, h2, h3, h4⟩
  rcases h with h | h | h
  · have := (lgB_iff z).2 h4; rw [h] at this; cases this
  · have := (okC_iff 16777216 f).2 ⟨h1, h2⟩; rw [h] at this; cases this
  · omega
theorem toNat_back {f : List Int} (h : ∀ z ∈ f, 0 ≤ z) : (f.map Int.toNat).map Int.ofNat = f := by
  rw [List.map_map]
  conv => rhs; rw [← List.map_id f]
  exact List.map_congr_left (fun z hz => by have := h z hz; show ((z.toNat : Nat) : Int) = z; omega)
theorem norm_yes {F : List Nat} {z : Int} (h1 : lgB z = true) (hl : F.length = 65) (hf : ∀ x ∈ F, x ≤ 16777216) (h0 : 0 < F.sum) : normA (F.map Int.ofNat) z = (0, nrm z.toNat F) := by
  unfold normA
  rw [if_pos]
  · congr 2
    rw [List.map_map]
    conv => rhs; rw [← List.map_id F]
    exact List.map_congr_left (fun x _ => rfl)
  · refine ⟨by simpa using hl, fun y hy => ?_, by rw [sum_ofNat]; omega, (lgB_iff z).1 h1⟩
    obtain ⟨x, hx, rfl⟩ := List.mem_map.1 hy
    have := hf x hx
    exact ⟨Int.natCast_nonneg _, by show (x : Int) ≤ _; omega⟩
theorem set_same (l : List Nat) (k : Nat) : l.set k (l.getD k 0) = l := by
  induction l generalizing k with
  | nil => rfl
  | cons x l ih =>
    cases k with
    | zero => rfl
    | succ k => rw [List.set_cons_succ, List.getD_cons_succ, ih]
theorem nrm_lack {log : Nat} {F : List Nat} (h : (shares log F).sum ≤ 2 ^ log) : nrm log F = (shares log F).set (topOf F) ((shares log F).getD (topOf F) 0 + (2 ^ log - (shares log F).sum)) := by
  unfold nrm
  split
  · rfl
  · have e : 2 ^ log - (shares log F).sum = 0 := by omega
    have e2 : (shares log F).sum - 2 ^ log = 0 := by omega
    rw [e, e2, Nat.add_zero, set_same]; rfl
theorem nrm_much {log : Nat} {F : List Nat} (h : 2 ^ log ≤ (shares log F).sum) : nrm log F = decN ((shares log F).sum - 2 ^ log) (shares log F) := by
  unfold nrm
  rw [if_neg (by omega)]
theorem shares_bd {log : Nat} {F : List Nat} (hl : log ≤ 12) : ∀ x ∈ shares log F, x ≤ 4096 := by
  intro x hx
  obtain ⟨y, hy, rfl⟩ := List.mem_map.1 hx
  unfold share
  split
  · omega
  · have a := le_sum F y hy
    have p := pow_bd log hl
    have h1 : y * 2 ^ log ≤ F.sum * 2 ^ log := Nat.mul_le_mul_right _ a
    have h2 : y * 2 ^ log / F.sum ≤ F.sum * 2 ^ log / F.sum := Nat.div_le_div_right h1
    have h3 : F.sum * 2 ^ log / F.sum ≤ 2 ^ log := by
      rcases Nat.eq_zero_or_pos F.sum with e | e
      · rw [e]; simp
      · rw [Nat.mul_div_cancel_left _ e]; exact Nat.le_refl _
    omega
theorem shares_len (log : Nat) (F : List Nat) : (shares log F).length = F.length := by unfold shares; rw [List.length_map]
theorem sum_le (m : Nat) (l : List Nat) (h : ∀ x ∈ l, x ≤ m) : l.sum ≤ l.length * m := by
  induction l with
  | nil => simp
  | cons x l ih =>
    have := ih (fun y hy => h y (by simp [hy]))
    have := h x (by simp)
    rw [List.sum_cons, List.length_cons, Nat.succ_mul]; omega
theorem ofNat_bd {F : List Nat} {m : Nat} (h : ∀ x ∈ F, x ≤ m) : ∀ z ∈ F.map Int.ofNat, 0 ≤ z ∧ z ≤ (m : Int) := by
  intro z hz
  obtain ⟨x, hx, rfl⟩ := List.mem_map.1 hz
  have := h x hx
  exact ⟨Int.natCast_nonneg _, by show (x : Int) ≤ _; omega⟩
theorem own_ri' {W : World} {base : Nat} {a : Option Addr} {n cap : Nat} {zs : List Int} (h : W.ownsRow base 3 1 (.slice a n cap) n (ivs zs)) : RI W a n zs := by
  obtain ⟨a', c', hv, -, -, r⟩ := own_ri h
  cases hv
  exact r
theorem ri_fr {W : World} {a : Option Addr} {n : Nat} {f : List Int} (h : RI W a n f) (i : Nat) (hi : i < n) : ∃ x, a = some x ∧ W.cell? (x.add i) = some (.int .i64 (fr f i)) := by
  obtain ⟨x, hx, hc⟩ := h.2 (by omega)
  have hl := h.1
  exact ⟨x, hx, by rw [hc i (by omega), fr_at f i (by omega)]⟩
end Go.Proofs.YtofclflcicjlaaaGreat
