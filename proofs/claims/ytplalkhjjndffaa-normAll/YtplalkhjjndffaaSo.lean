/-
  One number, or a row of noughts, of any text; each condition stands at its theorem.
-/
import Derived.Test.YtplalkhjjndffaaGm
import Derived.Test.YtplalkhjjndffaaCatv
import Derived.Deep.QuietTactic
import Derived.Deep.RegionWith
import Derived.OwnWalk
namespace Go.Proofs.Ytplalkhjjndffaa
open Go.ChangeShapes Go.WideShapes Go.ChangeAt Go.RowKit
open Go.ChangeMaps (open_string shut_string)

theorem numb_lt {t : List UInt8} {n k : Nat} (h : numb t = (n, k, 0)) : n < 18446744073709551616 := by
  have key : ∀ (f i acc : Nat) (l : List UInt8) (n k : Nat), i + f = 10 → acc < 128 ^ i → numF f i acc l = (n, k, 0) → n < 18446744073709551616 := by
    intro f
    induction f with
    | zero => intro i acc l n k _ _ h; simp [numF] at h
    | succ f ih =>
      intro i acc l n k hi ha h
      cases l with
      | nil => simp [numF] at h
      | cons c l =>
        have h255 : c.toNat < 256 := c.toNat_lt
        simp only [numF] at h
        split at h
        · rename_i hc
          unfold endd at h
          split at h
          · simp at h
          · rename_i hb
            simp only [Prod.mk.injEq] at h
            have hcases : i = 9 ∨ i ≤ 8 := by omega
            rcases hcases with rfl | h8
            · have h9 : (128 : Nat) ^ 9 = 9223372036854775808 := by decide
              rw [h9] at ha h
              have : c.toNat ≤ 1 := by omega
              have : c.toNat * 9223372036854775808 ≤ 1 * 9223372036854775808 := Nat.mul_le_mul_right _ this
              omega
            · have h1 : (128 : Nat) ^ i ≤ 128 ^ 8 := Nat.pow_le_pow_right (by decide) h8
              have h8' : (128 : Nat) ^ 8 = 72057594037927936 := by decide
              have h2 : c.toNat * 128 ^ i ≤ 127 * 128 ^ 8 := Nat.mul_le_mul (by omega) h1
              rw [h8'] at h1 h2
              omega
        · refine ih _ _ _ _ _ (by omega) ?_ h
          have : (c.toNat - 128) * 128 ^ i ≤ 127 * 128 ^ i := Nat.mul_le_mul_right _ (by omega)
          rw [Nat.pow_succ]; omega
  exact key 10 0 0 t n k rfl (by decide) h
theorem numb_le {t : List UInt8} {n k : Nat} (h : numb t = (n, k, 0)) : k ≤ t.length ∧ n < 18446744073709551616 := by
  have key : ∀ (f i acc : Nat) (l : List UInt8) (n k : Nat), numF f i acc l = (n, k, 0) → k ≤ i + l.length := by
    intro f
    induction f with
    | zero => intro i acc l n k h; simp [numF] at h
    | succ f ih =>
      intro i acc l n k h
      cases l with
      | nil => simp [numF] at h
      | cons c l =>
        simp only [numF] at h
        rw [List.length_cons]
        split at h
        · unfold endd at h
          split at h
          · simp at h
          · simp only [Prod.mk.injEq] at h; omega
        · have := ih _ _ _ _ _ h; omega
  have := key _ _ _ _ _ _ h
  refine ⟨by omega, ?_⟩
  exact numb_lt h
theorem own_cell1 (w : World) (z : Int) : (w.alloc (.cells #[.int .i64 z] 3)).ownsRow w.heap.size 3 1 (.slice (some ⟨w.heap.size, 0, none⟩) 1 1) 1 (ivs [z]) :=
  ⟨rfl, .inr ⟨_, 1, _, rfl, Nat.le_refl _, blk_new _ _ _, Nat.le_refl _, by decide, rfl, rfl⟩⟩
theorem make_u (n : Nat) (hn : n ≤ 100000) (W : World) :
    (Instr.makeSlice 22 (.int .u64 (n : Int)) (.int .u64 (n : Int))).run Try.prog W = .ok (.slice (some ⟨W.heap.size, 0, none⟩) n n) (W.alloc (.cells (madeCells #[.int .i64 0] n) 3)) :=
  run_make_row' 22 3 (.int .i64 0) 8 Try.underlying22 info3 rfl .u64 .u64 n (by omega) (by omega) W
def SmPost (A : Nat × List Nat × Nat) (p : Nat) (w : World) (e : Ending) (w' : World) : Prop :=
  ∃ v q, e = .returned (.tuple #[v, .int .i64 (q : Nat), .int .i64 (A.1 : Nat)]) ∧ (A.1 = 0 → q = p + A.2.2 ∧ w'.ownsRow w.heap.size 3 1 v A.2.1.length (ivs (A.2.1.map wc))) ∧ Below w.heap.size w w'
set_option maxRecDepth 100000 in
set_option maxHeartbeats 2000000 in
theorem some_any (s : ByteArray) (p left : Nat) (w : World) (hs : s.size ≤ 1000000) (hp : p ≤ s.size) (hl : left ≤ 65) :
    Calls Try.prog 44 #[.string s, .int .i64 (p : Int), .int .i64 (left : Int)] w fun e w' => SmPost (someF (s.data.toList.drop p) left) p w e w' := by
  obtain ⟨x, k, z, hR⟩ : ∃ x k z, numb (s.data.toList.drop p) = (x, k, z) := ⟨_, _, _, rfl⟩
  by_cases hz : z = 0
  · subst hz
    obtain ⟨kl, x64⟩ := numb_le hR
    rw [List.length_drop, len_data] at kl
    obtain ⟨q, hq⟩ : ∃ q, p + k = q := ⟨_, rfl⟩
    have G1 := get_any s p w hs x q 0 (by rw [getAt_ok numb s p (by omega) (by omega) x k (by rw [Int.toNat_natCast]; exact hR), Int.toNat_natCast, hq])
    by_cases hx : 0 < x
    · have N : Hid (someF (s.data.toList.drop p) left = (0, [x], k)) := by show _ = _; unfold someF; rw [hR]; simp [hx]
      have e1 : wrap64 (x : Int) = wc x := by unfold wrap64 wc; split <;> omega
      have E1 : Hid (ivs ([x].map wc) = ivs [wrap64 (x : Int)]) := by show _ = _; rw [e1]; rfl
      clear e1
      have x0 : (x : Int) ≤ 18446744073709551615 := by omega
      have ow := own_cell1 w (wrap64 (x : Int))
      have b1 : Below w.heap.size w (w.alloc (.cells #[.int .i64 (wrap64 (x : Int))] 3)) := (Below.refl _ _).alloc (Nat.le_refl _) _
      have HQ := Hid.intro hq
      clear hR hq
      go_enter Try.func44, Try.ntmps44
      go_wp2_with fail
      with_reducible refine G1.mono ?_
      rintro e w1 ⟨rfl, rfl⟩
      clear G1
      go_wp2_with fail
      go_ret3
      exact ⟨_, q, by rw [N.out]; rfl, fun _ => by rw [N.out]; exact ⟨HQ.out.symm, by rw [E1.out]; exact ow⟩, b1⟩
    · obtain rfl : x = 0 := by omega
      obtain ⟨m, j, z2, hR2⟩ : ∃ m j z2, numb (s.data.toList.drop q) = (m, j, z2) := ⟨_, _, _, rfl⟩
      have hR2' : numb ((s.data.toList.drop p).drop k) = (m, j, z2) := by rw [List.drop_drop, hq]; exact hR2
      by_cases hz2 : z2 = 0
      · subst hz2
        obtain ⟨jl, m64⟩ := numb_le hR2
        rw [List.length_drop, len_data] at jl
        obtain ⟨t, ht⟩ : ∃ t, q + j = t := ⟨_, rfl⟩
        have G2 := get_any s q w hs m t 0 (by rw [getAt_ok numb s q (by omega) (by omega) m j (by rw [Int.toNat_natCast]; exact hR2), Int.toNat_natCast, ht])
        have wl : IntKind.u64.wrap (left : Int) = (left : Int) := by rw [IntKind.wrap_u64]; omega
        by_cases hm : left ≤ m
        · have N : Hid (someF (s.data.toList.drop p) left = (3, [], 0)) := by show _ = _; unfold someF; rw [hR]; simp [hq, hR2, hm]
          have m0 : (m : Int) ≤ 18446744073709551615 := by omega
          clear hR hR2 hR2' hq ht
          go_enter Try.func44, Try.ntmps44
          go_wp2_with fail
          with_reducible refine G1.mono ?_
          rintro e w1 ⟨rfl, rfl⟩
          clear G1
          go_wp2_with fail
          with_reducible refine G2.mono ?_
          rintro e w2 ⟨rfl, rfl⟩
          clear G2
          go_wp2_with fail
          go_ret3
          exact ⟨_, 0, by rw [N.out]; rfl, fun h => by rw [N.out] at h; simp at h, Below.refl _ _⟩
        · have N : Hid (someF (s.data.toList.drop p) left = (0, List.replicate (m + 1) 0, k + j)) := by show _ = _; unfold someF; rw [hR]; simp [hq, hR2, hm]
          obtain ⟨m1, hm1⟩ : ∃ m1 : Nat, (m : Int) + 1 = (m1 : Int) := ⟨m + 1, by omega⟩
          have M1 : Hid (m + 1 = m1) := by show _ = _; omega
          have mk := make_u m1 (by omega) w
          have ow := own_made_ints w 3 m1 (by omega)
          have b1 : Below w.heap.size w (w.alloc (.cells (madeCells #[.int .i64 0] m1) 3)) := (Below.refl _ _).alloc (Nat.le_refl _) _
          have QT : Hid (t = p + (k + j)) := by show _ = _; omega
          clear hR hR2 hR2' hq ht
          go_enter Try.func44, Try.ntmps44
          go_wp2_with fail
          with_reducible refine G1.mono ?_
          rintro e w1 ⟨rfl, rfl⟩
          clear G1
          go_wp2_with fail
          with_reducible refine G2.mono ?_
          rintro e w2 ⟨rfl, rfl⟩
          clear G2
          go_wp2_with fail
          go_ret3
          exact ⟨_, t, by rw [N.out]; rfl, fun _ => by rw [N.out, M1.out]; exact ⟨QT.out, by rw [wc_zero, List.length_replicate]; exact ow⟩, b1⟩
      · have N : Hid (someF (s.data.toList.drop p) left = (z2, [], 0)) := by show _ = _; unfold someF; rw [hR]; simp [hq, hR2, hz2]
        have G2 := get_any s q w hs 0 0 z2 (getAt_no numb s q (by omega) (by omega) m j z2 (by rw [Int.toNat_natCast]; exact hR2) hz2)
        have t : ((z2 : Int) != 0) = true := by simp; omega
        have HZ := Hid.intro hz2
        clear hR hR2 hR2' hq hz2
        go_enter Try.func44, Try.ntmps44
        go_wp2_with fail
        with_reducible refine G1.mono ?_
        rintro e w1 ⟨rfl, rfl⟩
        clear G1
        go_wp2_with fail
        with_reducible refine G2.mono ?_
        rintro e w2 ⟨rfl, rfl⟩
        clear G2
        go_wp2_with fail
        go_ret3
        exact ⟨_, 0, by rw [N.out]; rfl, fun h => by rw [N.out] at h; exact absurd h HZ.out, Below.refl _ _⟩
  · have N : Hid (someF (s.data.toList.drop p) left = (z, [], 0)) := by show _ = _; unfold someF; rw [hR]; simp [hz]
    have G1 := get_any s p w hs 0 0 z (getAt_no numb s p (by omega) (by omega) x k z (by rw [Int.toNat_natCast]; exact hR) hz)
    have t : ((z : Int) != 0) = true := by simp; omega
    have HZ := Hid.intro hz
    have b1 : Below w.heap.size w (w.alloc (.cells #[.int .i64 0] 3)) := (Below.refl _ _).alloc (Nat.le_refl _) _
    clear hR hz
    go_enter Try.func44, Try.ntmps44
    go_wp2_with fail
    with_reducible refine G1.mono ?_
    rintro e w1 ⟨rfl, rfl⟩
    clear G1
    go_wp2_with fail
    go_ret3
    exact ⟨_, 0, by rw [N.out]; rfl, fun h => by rw [N.out] at h; exact absurd h HZ.out, b1⟩
end Go.Proofs.Ytplalkhjjndffaa
