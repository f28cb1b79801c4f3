/-
  Objects that a call owns, two of them apart, Put for an owner; the document's example.
-/
import Derived.Test.YthjokhfjfiaaiaaBs
namespace Go.Proofs.Ythjokhfjfiaaiaa
open Go.ChangeShapes Go.WideShapes Go.ChangeAt Go.RowKit
open Go.ChangeMaps (open_string shut_string)

/-- What lies at A and in v came from block B on. -/
def Up (B A : Nat) (v : Value) : Prop := B ≤ A ∧ ∀ k, v.ownBlock = some k → B ≤ k
theorem up_nil (B A : Nat) (h : B ≤ A) : Up B A (.slice none 0 0) := ⟨h, fun k hk => by simp [Value.ownBlock] at hk⟩
theorem up_moved {B A : Nat} {v v' : Value} {W : World} (h : Up B A v) (m : Moved W v v') (hB : B ≤ W.heap.size) : Up B A v' :=
  ⟨h.1, fun k hk => (m k hk).elim (h.2 k) (fun g => Nat.le_trans hB g)⟩
theorem up_foot {B A : Nat} {v : Value} (h : Up B A v) (k : Nat) (hk : foot A v k) : B ≤ k := hk.elim (fun e => e ▸ h.1) (h.2 k)
theorem below_foot {w W W' : World} {A : Nat} {v : Value} (hb : Below w.heap.size w W) (hc : Chg (foot A v) W W') (hu : Up w.heap.size A v) : Below w.heap.size w W' :=
  hb.trans (chg_below hc hb.size (up_foot hu))
theorem below_no {w W W' : World} (hb : Below w.heap.size w W) (hc : Chg (fun _ => False) W W') : Below w.heap.size w W' :=
  hb.trans (chg_below hc hb.size (fun _ h => h.elim))
theorem below_one {w W W' : World} {A : Nat} (hb : Below w.heap.size w W) (hc : Chg (· = A) W W') (hu : w.heap.size ≤ A) : Below w.heap.size w W' :=
  hb.trans (chg_below hc hb.size (fun _ h => h ▸ hu))
theorem wr_lt {W : World} {A : Nat} {v : Value} {sz N : Nat} (h : Wr W A v sz N) (k : Nat) (hk : foot A v k) : k < W.heap.size :=
  hk.elim (fun e => e ▸ blk_lt h.1) (fun e => (h.2.1.lt k e).2)

/-- Two objects do not touch one another. -/
def Apart (A : Nat) (v : Value) (B : Nat) (u : Value) : Prop := ∀ k, foot A v k → ¬ foot B u k
theorem apart_symm {A B : Nat} {v u : Value} (h : Apart A v B u) : Apart B u A v := fun k h1 h2 => h k h2 h1
theorem apart_moved {A B : Nat} {v v' u : Value} {W : World} (h : Apart A v B u) (m : Moved W v v') (hu : ∀ k, foot B u k → k < W.heap.size) : Apart A v' B u := by
  rintro k (e | e) hk
  · exact h k (.inl e) hk
  · rcases m k e with g | g
    · exact h k (.inr g) hk
    · have := hu k hk; omega

/-- What a Put leaves, for one who owns the writer. -/
theorem put_own {w W : World} (A : Nat) (v : Value) (sz N x : Nat) (n : Int) (h : Wr W A v sz N) (hu : Up w.heap.size A v) (hb : Below w.heap.size w W) (hsz : sz ≤ 999000) (hx : x < 18446744073709551616) (hn0 : -9223372036854775808 ≤ n) (hn1 : n ≤ 9223372036854775807)
    (sz' N' : Nat) (e1 : sz + cl n = sz') (e2 : N + x % 2 ^ cl n * 2 ^ sz = N') :
    Calls Try.prog 24 #[ptr A, .int .u64 x, .int .i64 n] W fun e W' => e = .returned (.tuple #[]) ∧ ∃ v', Wr W' A v' sz' N' ∧ Up w.heap.size A v' ∧ Below w.heap.size w W' ∧ Chg (foot A v) W W' ∧ Moved W v v' := by
  subst e1 e2
  refine (put_any A v sz N x n W h hsz hx hn0 hn1).mono ?_
  rintro e W' ⟨rfl, v', k1, k2, k3⟩
  exact ⟨rfl, v', k1, up_moved hu k3 hb.size, below_foot hb k2 hu, k2, k3⟩

theorem new_own {w W : World} (hb : Below w.heap.size w W) : Calls Try.prog 22 #[] W fun e W' => ∃ A, e = .returned (ptr A) ∧ W.heap.size ≤ A ∧ Wr W' A (.slice none 0 0) 0 0 ∧ Up w.heap.size A (.slice none 0 0) ∧ Below w.heap.size w W' ∧ Chg (fun _ => False) W W' := by
  refine (new_any W).mono ?_
  rintro e W' ⟨rfl, a1, a2⟩
  exact ⟨_, rfl, Nat.le_refl _, a1, up_nil _ _ hb.size, below_no hb a2, a2⟩

theorem from_own {w W : World} (s : ByteArray) (hb : Below w.heap.size w W) : Calls Try.prog 16 #[.string s] W fun e W' => ∃ A, e = .returned (ptr A) ∧ W.heap.size ≤ A ∧ Rd W' A s 0 ∧ w.heap.size ≤ A ∧ Below w.heap.size w W' ∧ Chg (fun _ => False) W W' := by
  refine (from_any s W).mono ?_
  rintro e W' ⟨rfl, a1, a2⟩
  exact ⟨_, rfl, Nat.le_refl _, a1, hb.size, below_no hb a2, a2⟩

/-- A new object and one that was there. -/
theorem apart_new {A B : Nat} {v : Value} {W : World} (h : ∀ k, foot A v k → k < W.heap.size) (hB : W.heap.size ≤ B) : Apart A v B (.slice none 0 0) := by
  rintro k hk (e | e)
  · have := h k hk; omega
  · simp [Value.ownBlock] at e

/-- What a Get leaves, for one who owns the reader. -/
theorem get_own {w W : World} (A : Nat) (s : ByteArray) (a : Nat) (n : Int) (h : Rd W A s a) (hu : w.heap.size ≤ A) (hb : Below w.heap.size w W) (hs : s.size ≤ 100000) (ha : a ≤ 8 * s.size)
    (a' : Nat) (y : Nat) (er : Nat) (e1 : a + gk (8 * s.size) a n = a') (e2 : got (le s.data.toList) a (gk (8 * s.size) a n) = y) (e3 : ge (8 * s.size) a n = er) :
    Calls Try.prog 31 #[ptr A, .int .i64 n] W fun e W' => e = .returned (.tuple #[.int .u64 y, .int .i64 er]) ∧ Rd W' A s a' ∧ Below w.heap.size w W' ∧ Chg (· = A) W W' := by
  subst e1 e2 e3
  refine (get_any A s a n W h hs ha).mono ?_
  rintro e W' ⟨rfl, k1, k2⟩
  exact ⟨rfl, k1, below_one hb k2 hu, k2⟩
end Go.Proofs.Ythjokhfjfiaaiaa
