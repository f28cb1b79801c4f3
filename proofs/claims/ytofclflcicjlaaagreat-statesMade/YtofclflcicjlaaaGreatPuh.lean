/-
  Bits in lists: codes with their highest bit first, rests with their lowest; the bits of bytes; laid ahead for layer 11; what is read by codes that begin no other one, bit by bit; parts by codes; laid ahead for layer 11; the tree of codes; the next bit of a reader; a class is found by its code; a part is read; rows of parts; what Get tells; may a part be put?; the reference's Put of parts by codes.
-/
import Derived.Test.YtofclflcicjlaaaGreatPushh
import Derived.Test.YtofclflcicjlaaaGreatLy
import Derived.Test.YtofclflcicjlaaaGreatSc
import Derived.Test.YtofclflcicjlaaaGreatSg
import Derived.Test.YtofclflcicjlaaaGreatBqh
import Derived.Test.YtofclflcicjlaaaGreatBuh
import Derived.Test.YtofclflcicjlaaaGreatTyh
import Derived.Test.YtofclflcicjlaaaGreatOfyh
import Derived.WalkKit
import Derived.ProofKit
import Derived.OpenShut
import Derived.Deep.QuietTactic
import Derived.BigQuiet
import Derived.Deep.RegionHeld3
import Derived.Below
import Derived.Deep.Heap
import Derived.ArgAppend
import Derived.Maps.AppendAt
import Derived.Laws.IdiomStrings
import Derived.Deep.OwnRows
import Derived.Deep.RegionLaw
import Derived.Handy
import Derived.Deep.RegionWith
import Derived.OwnWalk
import Derived.Laws.OwnMore
import Derived.Lib.AppendZeros
import Derived.Laws.BitsAllLaws
import Derived.Laws.IdiomCopy
import Derived.BigRegion
import Derived.Laws.MakeOwn
namespace Go.Proofs.YtofclflcicjlaaaGreat
open Go.ChangeShapes Go.WideShapes Go.ChangeAt Go.RowKit
open Go.ChangeMaps (open_string shut_string)
set_option maxRecDepth 100000

/-! ### bits in a list, the lowest of a byte first -/
/-- The number of bits. -/
def b2 : List Nat → Nat
  | [] => 0
  | x :: r => x + 2 * b2 r
theorem own_rp {W : World} {base e : Nat} {v : Value} {n : Nat} {ps : List (Int × Int)} (h : W.ownsRow base e 2 v n (pvs ps)) : ∃ a cap, v = .slice a n cap ∧ n ≤ cap ∧ cap ≤ maxLen ∧ RP W a n ps := by
  have hl : ps.length = n := by have := h.1; rw [pvs_len] at this; omega
  rcases h.2 with ⟨hv, hn⟩ | ⟨g, cap, cur, hv, _, hg, hc, hm, hs, ht⟩
  · exact ⟨none, 0, by rw [hv, hn], by omega, by decide, hl, fun h0 => by omega⟩
  · refine ⟨_, cap, hv, hc, hm, hl, fun _ => ⟨_, rfl, fun i hi => ⟨?_, ?_⟩⟩⟩
    · exact h.cells (g := g) (by rw [hv]; rfl) _ _ (pvs_fst ps i hi)
    · exact h.cells (g := g) (by rw [hv]; rfl) _ _ (pvs_snd ps i hi)

theorem rput_own {w W : World} (A : Nat) (v : Value) (sz N x : Nat) (n : Int) (h : Ro W A v sz N) (hu : Up w.heap.size A v) (hb : Below w.heap.size w W) (hsz : sz ≤ 100000) (hx : x < 18446744073709551616)
    (sz' N' : Nat) (e1 : sz + cl n = sz') (e2 : N + x % 2 ^ cl n * 2 ^ sz = N') :
    Calls Tryz.prog 57 #[ptr A, .int .u64 x, .int .i64 n] W fun e W' => e = .returned (.tuple #[]) ∧ ∃ v', Ro W' A v' sz' N' ∧ Up w.heap.size A v' ∧ Below w.heap.size w W' ∧ Chg (foot A v) W W' ∧ Moved W v v' := by
  subst e1 e2
  refine (rput_any A v sz N x n W h hsz hx).mono ?_
  rintro e W' ⟨rfl, v', k1, k2, k3⟩
  exact ⟨rfl, v', k1, up_moved hu k3 hb.size, below_foot hb k2 hu, k2, k3⟩
set_option maxRecDepth 100000 in
theorem rrest_own {w W : World} (A : Nat) (v : Value) (sz N c r m : Nat) (h : Ro W A v sz N) (hu : Up w.heap.size A v) (hb : Below w.heap.size w W) (hsz : sz ≤ 100000) (hx : r < 18446744073709551616) (hm : c - 1 = m) (hc : c ≤ 64)
    (sz' N' : Nat) (e1 : sz + m = sz') (e2 : N + r % 2 ^ m * 2 ^ sz = N') :
    Calls Tryz.prog 26 #[.pointer (some ⟨A, 0, none⟩), .agg #[.int .i64 c, .int .u64 r]] W fun e W' => e = .returned (.tuple #[]) ∧ ∃ v', Ro W' A v' sz' N' ∧ Up w.heap.size A v' ∧ Below w.heap.size w W' := by
  have PO := rput_own (w := w) (W := W.alloc (.cells #[.int .i64 c, .int .u64 r] 74)) A v sz N r (m : Int) (ro_kept (S := fun _ => False) h (chg_alloc (chg_refl _ _) _) (fun _ _ h => h)) hu (hb.alloc hb.size _) hsz hx sz' N' (by rw [cl_nat m (by omega)]; exact e1) (by rw [cl_nat m (by omega)]; exact e2)
  unfold ptr at PO
  clear h hu hb hsz e1 e2
  by_cases h0 : c = 0
  · subst h0
    obtain rfl : m = 0 := by omega
    have PO2 : Calls Tryz.prog 57 #[.pointer (some ⟨A, 0, none⟩), .int .u64 r, .int .i64 0] (W.alloc (.cells #[.int .i64 0, .int .u64 r] 74)) fun e W' => e = .returned (.tuple #[]) ∧ ∃ v', Ro W' A v' sz' N' ∧ Up w.heap.size A v' ∧ Below w.heap.size w W' ∧ Chg (foot A v) (W.alloc (.cells #[.int .i64 0, .int .u64 r] 74)) W' ∧ Moved (W.alloc (.cells #[.int .i64 0, .int .u64 r] 74)) v v' := PO
    have hmx : max (0 : Int) (-1) = 0 := by decide
    clear PO
    go_enter Tryz.func26, Tryz.ntmps26
    go_wp2_with fail
    with_reducible refine PO2.mono ?_
    rintro e w1 ⟨rfl, v', k1, k2, k3, -, -⟩
    go_wp2_with fail
    go_returns
    exact ⟨rfl, v', k1, k2, k3⟩
  · have h1 : (c : Int) - 1 = (m : Int) := by omega
    have hmx2 : max (0 : Int) (m : Int) = (m : Int) := by omega
    by_cases hm0 : 0 < m
    · clear hm
      go_enter Tryz.func26, Tryz.ntmps26
      go_wp2_with fail
      with_reducible refine PO.mono ?_
      rintro e w1 ⟨rfl, v', k1, k2, k3, -, -⟩
      go_wp2_with fail
      go_returns
      exact ⟨rfl, v', k1, k2, k3⟩
    · obtain rfl : m = 0 := by omega
      have PO2 : Calls Tryz.prog 57 #[.pointer (some ⟨A, 0, none⟩), .int .u64 r, .int .i64 0] (W.alloc (.cells #[.int .i64 c, .int .u64 r] 74)) fun e W' => e = .returned (.tuple #[]) ∧ ∃ v', Ro W' A v' sz' N' ∧ Up w.heap.size A v' ∧ Below w.heap.size w W' ∧ Chg (foot A v) (W.alloc (.cells #[.int .i64 c, .int .u64 r] 74)) W' ∧ Moved (W.alloc (.cells #[.int .i64 c, .int .u64 r] 74)) v v' := PO
      clear hm PO
      go_enter Tryz.func26, Tryz.ntmps26
      go_wp2_with fail
      with_reducible refine PO2.mono ?_
      rintro e w1 ⟨rfl, v', k1, k2, k3, -, -⟩
      go_wp2_with fail
      go_returns
      exact ⟨rfl, v', k1, k2, k3⟩
/-- A result's two cells set: what stands there. -/
theorem rb_end {w w4 : World} {u v : Value} {t : TypeId} (b : Blk w4 w.heap.size #[u, v] t) (h : Below w.heap.size w w4) (x y : Value) :
    ((w4.setCell ⟨w.heap.size, 0, none⟩ x).setCell ⟨w.heap.size, 1, none⟩ y).cell? ⟨w.heap.size, 0, none⟩ = some x ∧ ((w4.setCell ⟨w.heap.size, 0, none⟩ x).setCell ⟨w.heap.size, 1, none⟩ y).cell? ⟨w.heap.size, 1, none⟩ = some y ∧
      Below w.heap.size w ((w4.setCell ⟨w.heap.size, 0, none⟩ x).setCell ⟨w.heap.size, 1, none⟩ y) := by
  have b2 := blk_set (blk_set b 0 x) 1 y
  exact ⟨by rw [blk_cell b2]; rfl, by rw [blk_cell b2]; rfl, Below.setCell (Below.setCell h (p := ⟨w.heap.size, 0, none⟩) (Nat.le_refl _) x) (p := ⟨w.heap.size, 1, none⟩) (Nat.le_refl _) y⟩
theorem rb_cells {w w4 : World} {u v : Value} {t : TypeId} (b : Blk w4 w.heap.size #[u, v] t) : w4.cell? ⟨w.heap.size, 0, none⟩ = some u ∧ w4.cell? ⟨w.heap.size, 1, none⟩ = some v ∧ w4.frozen? ⟨w.heap.size, 0, none⟩ = false ∧ w4.frozen? ⟨w.heap.size, 1, none⟩ = false :=
  ⟨by rw [blk_cell b]; rfl, by rw [blk_cell b]; rfl, blk_free b 0, blk_free b 1⟩
theorem rp_cells2 {w wr : World} {x : Addr} {i : Nat} {u v : Value} (b : Below w.heap.size w wr) (h0 : w.cell? (x.add (i * 2)) = some u) (h1 : w.cell? (x.add (i * 2 + 1)) = some v) :
    wr.cell? (x.add (i * 2)) = some u ∧ wr.cell? ⟨(x.add (i * 2)).block, (x.add (i * 2)).off + 1, none⟩ = some v := by
  rw [← b.cell (World.block_lt_of_cell? _ _ h0)] at h0
  rw [← b.cell (World.block_lt_of_cell? _ _ h1), add_next] at h1
  exact ⟨h0, h1⟩
end Go.Proofs.YtofclflcicjlaaaGreat
