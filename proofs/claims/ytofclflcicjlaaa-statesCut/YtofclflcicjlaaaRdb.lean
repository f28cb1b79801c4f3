/-
  Objects in memory: which blocks a call may change; a writer of bits and a reader of bits as blocks; what stays of them when other blocks change; objects that a call owns, two of them apart, Put and New for an owner; bits joined; package back, the reader: its small functions, and where the mark stands.
-/
import Derived.Test.YtofclflcicjlaaaRr
import Derived.Test.YtofclflcicjlaaaLy
import Derived.Test.YtofclflcicjlaaaC2
import Derived.Test.YtofclflcicjlaaaSg
import Derived.Test.YtofclflcicjlaaaBuh
import Derived.Test.YtofclflcicjlaaaTyh
import Derived.Test.YtofclflcicjlaaaPushh
import Derived.Test.YtofclflcicjlaaaOfyh
import Derived.Test.YtofclflcicjlaaaRpyh
import Derived.Test.YtofclflcicjlaaaMarkb
import Derived.WalkKit
import Derived.ProofKit
import Derived.OpenShut
import Derived.Deep.QuietTactic
import Derived.BigQuiet
import Derived.Deep.RegionHeld3
import Derived.Below
import Derived.Deep.Heap
import Derived.ArgAppend
import Derived.Maps.AppendAt
import Derived.Laws.IdiomStrings
import Derived.Deep.OwnRows
import Derived.Deep.RegionLaw
import Derived.Handy
import Derived.Deep.RegionWith
import Derived.OwnWalk
import Derived.Laws.OwnMore
import Derived.Lib.AppendZeros
import Derived.Laws.BitsAllLaws
import Derived.Laws.IdiomCopy
import Derived.BigRegion
import Derived.Lib.Strings
import Derived.Lib.Slices
import Derived.Lib.Small
import Derived.Lib.Walk
import Derived.Lib.BitFns
namespace Go.Proofs.Ytofclflcicjlaaa
open Go.ChangeShapes Go.WideShapes Go.ChangeAt Go.RowKit
open Go.ChangeMaps (open_string shut_string)
theorem own_keptb {W W' : World} {S : Nat → Prop} {v : Value} {n : Nat} {xs : List Value} (h : W.ownsRow 0 5 1 v n xs) (g : Chg S W W') (hS : ∀ k, v.ownBlock = some k → ¬ S k) : W'.ownsRow 0 5 1 v n xs := by
  refine ⟨h.1, ?_⟩
  rcases h.2 with hn | ⟨b, cap, cur, rfl, hb, hg, rest⟩
  · exact .inl hn
  · exact .inr ⟨b, cap, cur, rfl, hb, (g.2.2.2.2 b (Array.getElem?_eq_some_iff.1 hg).1 (hS b rfl)).trans hg, rest⟩

/-- A row of bytes with at least one: where it lies. -/
theorem own_at {W : World} {v : Value} {n : Nat} {l : List UInt8} (h : W.ownsRow 0 5 1 v n (l.map byteV)) (hn : 0 < n) :
    ∃ g cap cur, v = .slice (some ⟨g, 0, none⟩) n cap ∧ n ≤ cap ∧ Blk W g cur 5 ∧ cap ≤ cur.size ∧ cur.toList.take n = l.map byteV ∧ l.length = n := by
  obtain ⟨h1, h2⟩ := h
  rcases h2 with ⟨_, h0⟩ | ⟨g, cap, cur, hv, _, hg, hc, _, hs, ht⟩
  · omega
  · exact ⟨g, cap, cur, hv, hc, hg, by omega, by simpa using ht, by simpa using h1⟩

theorem own_cell {W : World} {g n : Nat} {cur : Array Value} {l : List UInt8} (h : Blk W g cur 5) (ht : cur.toList.take n = l.map byteV) (j : Nat) (hj : j < l.length) (hn : l.length = n) :
    W.cell? ⟨g, j, none⟩ = some (byteV l[j]) := by
  rw [blk_cell h]
  have : (cur.toList.take n)[j]? = some (byteV l[j]) := by rw [ht]; simp [hj]
  rw [List.getElem?_take, if_pos (by omega)] at this
  simpa using this
/-- What a Put leaves, for one who owns the writer. -/
theorem put_own {w W : World} (A : Nat) (v : Value) (sz N x : Nat) (n : Int) (h : Wr W A v sz N) (hu : Up w.heap.size A v) (hb : Below w.heap.size w W) (hsz : sz ≤ 999000) (hx : x < 18446744073709551616) (hn0 : -9223372036854775808 ≤ n) (hn1 : n ≤ 9223372036854775807)
    (sz' N' : Nat) (e1 : sz + cl n = sz') (e2 : N + x % 2 ^ cl n * 2 ^ sz = N') :
    Calls Try.prog 45 #[ptr A, .int .u64 x, .int .i64 n] W fun e W' => e = .returned (.tuple #[]) ∧ ∃ v', Wr W' A v' sz' N' ∧ Up w.heap.size A v' ∧ Below w.heap.size w W' ∧ Chg (foot A v) W W' ∧ Moved W v v' := by
  subst e1 e2
  refine (put_any A v sz N x n W h hsz hx hn0 hn1).mono ?_
  rintro e W' ⟨rfl, v', k1, k2, k3⟩
  exact ⟨rfl, v', k1, up_moved hu k3 hb.size, below_foot hb k2 hu, k2, k3⟩

/-- Block A is a reader of s with a bits left. -/
def Rdb (W : World) (A : Nat) (s : ByteArray) (a : Nat) : Prop := Blk W A #[.string s, .int .i64 a] 136
theorem low_any (n L : Nat) (w : World) (h : n ≤ 8) (hL : L = 2 ^ n - 1) : Calls Try.prog 96 #[.int .i64 n] w fun e w' => e = .returned (.int .u8 L) ∧ w = w' := by
  have H : Hid (L = 2 ^ n - 1) := hL
  clear hL
  go_enter Try.func96, Try.ntmps96
  go_wp2
  go_ret
  exact ⟨ret_int (by rw [low_eq n h, H.out]), rfl⟩

theorem len8_log : ∀ n : Fin 256, n.val ≠ 0 → Lib.bitLen n.val = Nat.log2 n.val + 1 := by decide +kernel

set_option maxRecDepth 100000 in
theorem len8_int (b : Int) (w : World) (h0 : 0 ≤ b) (h : b ≤ 255) : Calls Try.prog 71 #[.int .u8 b] w fun e w' => e = .returned (.int .i64 (Lib.bitLen b.toNat : Nat)) ∧ w = w' := by
  go_enter Try.func71, Try.ntmps71
  go_wp2
  go_ret
  refine ⟨ret_int ?_, rfl⟩
  have e1 := Lib.len8_of b h0 h
  have e2 := Lib.bitLen_le8' b h0 h
  unfold wrap64
  omega
theorem len8_any (c : Nat) (w : World) (h0 : c ≠ 0) (h : c < 256) : Calls Try.prog 71 #[.int .u8 c] w fun e w' => e = .returned (.int .i64 ((Nat.log2 c + 1 : Nat) : Int)) ∧ w = w' := by
  have e := len8_log ⟨c, h⟩ h0
  have := len8_int c w (by omega) (by omega)
  rw [Int.toNat_natCast, show Lib.bitLen c = Nat.log2 c + 1 from e] at this
  exact this

theorem last_zero (w : World) : Calls Try.prog 72 #[.int .i64 0] w fun e w' => e = .returned (.int .i64 0) ∧ w = w' := by
  go_enter Try.func72, Try.ntmps72
  go_wp2
  go_ret
  exact ⟨rfl, rfl⟩
theorem last_any (a r : Nat) (w : World) (h : a ≤ 10000000) (hr : r = if a = 0 then 0 else (a - 1) % 8 + 1) : Calls Try.prog 72 #[.int .i64 a] w fun e w' => e = .returned (.int .i64 r) ∧ w = w' := by
  by_cases h0 : a = 0
  · subst h0
    rw [if_pos rfl] at hr
    rw [hr]
    exact last_zero w
  · rw [if_neg h0] at hr
    have h1 : ¬ (a : Int) = 0 := by omega
    go_enter Try.func72, Try.ntmps72
    go_wp2
    go_ret
    exact ⟨ret_int (by omega), rfl⟩
end Go.Proofs.Ytofclflcicjlaaa
