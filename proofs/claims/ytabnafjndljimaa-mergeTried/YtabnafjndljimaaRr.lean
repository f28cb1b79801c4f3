/-
  Repeat of a single 1; the lengths of order's classes, however many.
-/
import Derived.Test.YtabnafjndljimaaRm
import Derived.Laws.BitsAllLaws
import Derived.Laws.IdiomCopy
namespace Go.Proofs.Ytabnafjndljimaa
open Go.ChangeShapes Go.WideShapes Go.ChangeAt Go.RowKit
open Go.ChangeMaps (open_string shut_string)

theorem u_and0 : bits .and .u64 0 4294967295 = 0 := by decide
theorem u_and1 : bits .and .u64 1 4294967295 = 1 := by decide
theorem u_w0 : IntKind.u64.wrap 0 = 0 := by decide
theorem u_w1 : IntKind.u64.wrap 1 = 1 := by decide
set_option maxRecDepth 100000 in
theorem mul64_0 (w : World) : Calls Try.prog 41 #[.int .u64 1, .int .u64 0] w fun e w' => e = .returned (.tuple #[.int .u64 0, .int .u64 0]) ∧ w' = w := by
  have h0 := u_and0
  have h1 := u_and1
  have h2 := u_w0
  have h3 := u_w1
  go_enter Try.func41, Try.ntmps41
  go_wp2
  go_ret2
  exact ⟨rfl, rfl⟩
set_option maxRecDepth 100000 in
theorem mul64_1 (w : World) : Calls Try.prog 41 #[.int .u64 1, .int .u64 1] w fun e w' => e = .returned (.tuple #[.int .u64 0, .int .u64 1]) ∧ w' = w := by
  have h0 := u_and0
  have h1 := u_and1
  have h2 := u_w0
  have h3 := u_w1
  go_enter Try.func41, Try.ntmps41
  go_wp2
  go_ret2
  exact ⟨rfl, rfl⟩
set_option maxRecDepth 100000 in
theorem mul_0 (w : World) : Calls Try.prog 34 #[.int .u64 1, .int .u64 0] w fun e w' => e = .returned (.tuple #[.int .u64 0, .int .u64 0]) ∧ w' = w := by
  have M := mul64_0 w
  go_enter Try.func34, Try.ntmps34
  go_wp2_with fail
  with_reducible refine M.mono ?_
  rintro e w1 ⟨rfl, rfl⟩
  go_wp2_with fail
  go_ret2
  exact ⟨rfl, rfl⟩
set_option maxRecDepth 100000 in
theorem mul_1 (w : World) : Calls Try.prog 34 #[.int .u64 1, .int .u64 1] w fun e w' => e = .returned (.tuple #[.int .u64 0, .int .u64 1]) ∧ w' = w := by
  have M := mul64_1 w
  go_enter Try.func34, Try.ntmps34
  go_wp2_with fail
  with_reducible refine M.mono ?_
  rintro e w1 ⟨rfl, rfl⟩
  go_wp2_with fail
  go_ret2
  exact ⟨rfl, rfl⟩
theorem size3 : (Try.prog.info? 3).map (·.size) = some 1 := by kernel_rfl
set_option maxRecDepth 100000 in
set_option maxHeartbeats 1000000 in
theorem repeat_0 (b : Nat) (w : World) : Calls Try.prog 28 #[.slice (some ⟨b, 0, none⟩) 1 1, .int .i64 0] w fun e w' => ∃ a cap, e = .returned (.slice a 0 cap) ∧ Below w.heap.size w w' := by
  have M := mul_0 w
  have mk := make_ints 22 3 Try.underlying22 info3 0 (by omega) w
  have bn : Below w.heap.size w (w.alloc (.cells (madeCells #[.int .i64 0] 0) 3)) := (Below.refl _ _).alloc (Nat.le_refl _) _
  simp only [Int.natCast_zero] at mk
  have cp := run_copy_none (P := Try.prog) (w.alloc (.cells (madeCells #[.int .i64 0] 0) 3)) 22 22 3 3 (some ⟨w.heap.size, 0, none⟩) (some ⟨b, 0, none⟩) 0 0 1 1 Try.underlying22 size3 rfl
  generalize w.alloc (.cells (madeCells #[.int .i64 0] 0) 3) = w2 at *
  have BN := Hid.intro bn
  clear bn
  go_enter Try.func28, Try.ntmps28
  go_wp2_with fail
  with_reducible refine M.mono ?_
  rintro e w1 ⟨rfl, rfl⟩
  clear M
  go_wp2_with fail
  go_loopw [8] (fun sv wr => sv = .int .i64 0 ∧ wr = w2) (fun _ _ => 0)
  case atStart => exact ⟨rfl, rfl⟩
  case round =>
    obtain ⟨rfl, rfl⟩ := hrel
    clear cp mk
    go_wp2_with fail
    go_ret
    exact ⟨_, _, rfl, BN.out⟩
set_option maxRecDepth 100000 in
set_option maxHeartbeats 1000000 in
theorem repeat_1 (b : Nat) (w : World) (hb : b < w.heap.size) (hc : w.cell? ⟨b, 0, none⟩ = some (.int .i64 1)) : Calls Try.prog 28 #[.slice (some ⟨b, 0, none⟩) 1 1, .int .i64 1] w fun e w' => ∃ v, e = .returned v ∧ w'.ownsRow w.heap.size 3 1 v 1 (ni [1]) ∧ Below w.heap.size w w' := by
  have M := mul_1 w
  have mk := make_ints 22 3 Try.underlying22 info3 1 (by omega) w
  have om := own_made_ints w 3 1 (by omega)
  have bn : Below w.heap.size w (w.alloc (.cells (madeCells #[.int .i64 0] 1) 3)) := (Below.refl _ _).alloc (Nat.le_refl _) _
  simp only [Int.natCast_one] at mk
  have cp := run_copy_cells (P := Try.prog) (w.alloc (.cells (madeCells #[.int .i64 0] 1) 3)) 22 22 3 3 w.heap.size 0 1 1 ⟨b, 0, none⟩ 1 1 [.int .i64 1] Try.underlying22 size3 rfl
    (fun j u hj => by
      have : j = 0 := by have := (List.getElem?_eq_some_iff.1 hj).1; simp at this; exact this
      subst this
      rw [Addr.add_lit, bn.cell (p := ⟨b, 0 + 0, none⟩) hb]; simpa [← hj] using hc)
    (fun j hj => by
      have : j = 0 := by simp at hj; exact hj
      subst this
      exact (own_there om 0 (by omega)).2.1)
    (fun j hj => by
      have : j = 0 := by simp at hj; exact hj
      subst this
      exact (own_there om 0 (by omega)).2.2)
    (by intro v hv; simp at hv; subst hv; rfl)
  have e1 : goInt [Value.int .i64 1].length = .int .i64 1 := rfl
  rw [e1] at cp
  have ow : Hid (((w.alloc (.cells (madeCells #[.int .i64 0] 1) 3)).setCells w.heap.size 0 [.int .i64 1]).ownsRow w.heap.size 3 1 (.slice (some ⟨w.heap.size, 0, none⟩) 1 1) 1 (ni [1])) := own_set om 0 (.int .i64 1)
  have bw : Hid (Below w.heap.size w ((w.alloc (.cells (madeCells #[.int .i64 0] 1) 3)).setCells w.heap.size 0 [.int .i64 1])) := by
    have c : Chg (fun _ => False) w ((w.alloc (.cells (madeCells #[.int .i64 0] 1) 3)).setCells w.heap.size 0 [.int .i64 1]) := chg_set (chg_alloc (chg_refl _ _) _) ⟨w.heap.size, 0, none⟩ _ (fun h => by simp at h)
    exact chg_below c (Nat.le_refl _) (fun _ h => h.elim)
  generalize hw3 : (w.alloc (.cells (madeCells #[.int .i64 0] 1) 3)).setCells w.heap.size 0 [.int .i64 1] = w3 at *
  clear hw3 e1 om bn
  generalize w.alloc (.cells (madeCells #[.int .i64 0] 1) 3) = w2 at *
  go_enter Try.func28, Try.ntmps28
  go_wp2_with fail
  with_reducible refine M.mono ?_
  rintro e w1 ⟨rfl, rfl⟩
  clear M
  go_wp2_with fail
  go_loopw [8] (fun sv wr => sv = .int .i64 1 ∧ wr = w3) (fun _ _ => 0)
  case atStart => exact ⟨rfl, rfl⟩
  case round =>
    obtain ⟨rfl, rfl⟩ := hrel
    clear cp mk
    go_wp2_with fail
    go_ret
    exact ⟨_, rfl, ow.out, bw.out⟩
theorem ri_ni {W : World} {N : Nat} {p : Pk} (h : Tm W N p) : RI W (some ⟨p.b, 0, none⟩) N (p.ts.map Int.ofNat) := by
  have l : p.ts.length = N := by have := h.1; rw [ni_len] at this; omega
  refine ⟨by simp [l], fun _ => ⟨_, rfl, fun i hi => ?_⟩⟩
  have hi' : i < p.ts.length := by simpa using hi
  rw [tm_cell h i hi']; simp
set_option maxRecDepth 100000 in
set_option maxHeartbeats 1000000 in
theorem ranked_any (af : Option Addr) (cf : Nat) (f : List Int) (ao : Option Addr) (N cap limit : Nat) (o : List Nat) (W : World) (hf : RI W af f.length f) (hfb : ∀ z ∈ f, 0 ≤ z ∧ z ≤ 16777216) (ho : Ordered f f.length o) (hN : o.length = N) (h65 : f.length = 65)
    (hr : W.ownsRow 0 3 1 (.slice ao N cap) N (nis o)) (h7 : 7 ≤ limit) (h15 : limit ≤ 15) :
    Calls Try.prog 20 #[.slice af f.length cf, .slice ao N cap, .int .i64 (limit : Int)] W fun e W' => ∃ (a : Option Addr) (c : Nat) (r : List Nat), e = .returned (.slice a N c) ∧ RI W' a N (r.map Int.ofNat) ∧ (0 < N → ∀ x, a = some x → W.heap.size ≤ x.block) ∧ Ranks f limit o r ∧ Below W.heap.size W W' := by
  have hol := ordered_len ho
  by_cases h2 : 2 ≤ N
  · obtain ⟨b, c', hv⟩ := own_slice hr (by omega)
    injection hv with hv _ _
    subst hv
    refine (ranked_many af cf f b N cap limit o W hf hfb ho hN h2 (by omega) (by omega) hr h7 h15).mono ?_
    rintro e W' ⟨pk, r, rfl, rfl, k1, k2, k4, k3⟩
    exact ⟨_, _, pk.ts, rfl, ri_ni k2, fun _ x hx => by injection hx with hx; rw [← hx]; exact k4, k1, k3⟩
  · have bn : Below W.heap.size W (W.alloc (.cells #[.int .i64 1] 3)) := (Below.refl _ _).alloc (Nat.le_refl _) _
    have bk := blk_new W #[.int .i64 1] 3
    have BN := Hid.intro bn
    rcases (by omega : N = 0 ∨ N = 1) with h | h
    · subst h
      have R0 := repeat_0 W.heap.size (W.alloc (.cells #[.int .i64 1] 3))
      have HR : Hid (Ranks f limit o []) := ⟨by rw [hN]; rfl, fun h => by omega, fun h => by omega⟩
      clear bn bk hf hfb ho hN hr hol h2
      go_enter Try.func20, Try.ntmps20
      go_wp2_with fail
      with_reducible refine R0.mono ?_
      rintro e w1 ⟨a, c, rfl, k2⟩
      have K2 := Hid.intro (BN.out.trans (k2.mono BN.out.size))
      clear R0 k2
      go_wp2_with fail
      go_ret
      exact ⟨a, c, [], rfl, ⟨rfl, fun h => by omega⟩, fun h => by omega, HR.out, K2.out⟩
    · subst h
      have R0 := repeat_1 W.heap.size (W.alloc (.cells #[.int .i64 1] 3)) (by simp) (by rw [blk_cell bk]; rfl)
      have HR : Hid (Ranks f limit o [1]) := ⟨by rw [hN]; rfl, fun h => rfl, fun h => by omega⟩
      clear bn bk hf hfb ho hN hr hol h2
      go_enter Try.func20, Try.ntmps20
      go_wp2_with fail
      with_reducible refine R0.mono ?_
      rintro e w1 ⟨v, rfl, k1, k2⟩
      have K2 := Hid.intro (BN.out.trans (k2.mono BN.out.size))
      obtain ⟨a, c, rfl, _, _, hri⟩ := own_ri (zs := [1].map Int.ofNat) k1
      have HI := Hid.intro hri
      have HX : Hid (∀ x, a = some x → W.heap.size ≤ x.block) := fun x hx => by
        subst hx
        rcases k1.2 with ⟨hv, _⟩ | ⟨g9, c9, cur, hv, hg, _⟩
        · cases hv
        · injection hv with hv _ _; injection hv with hv; rw [hv]; exact Nat.le_trans BN.out.size hg
      clear R0 k1 k2 hri
      go_wp2_with fail
      go_ret
      exact ⟨a, c, [1], rfl, HI.out, fun _ => HX.out, HR.out, K2.out⟩
end Go.Proofs.Ytabnafjndljimaa
