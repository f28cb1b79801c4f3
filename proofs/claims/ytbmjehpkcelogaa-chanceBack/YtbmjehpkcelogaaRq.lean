/-
  The reference's decoder, for a call that owns it.
-/
import Derived.Test.YtbmjehpkcelogaaRj
namespace Go.Proofs.Ytbmjehpkcelogaa
open Go.ChangeShapes Go.WideShapes Go.ChangeAt Go.RowKit
open Go.ChangeMaps (open_string shut_string)


/-- The reference's reader that a call made since w. -/
def RO (w W : World) (A : Nat) (s : ByteArray) (B : Nat) (v : Value) (st : Nat × Nat × Nat) (bad : Bool) : Prop := Re W A s B v st bad ∧ (∀ k, rfoot A B v k → w.heap.size ≤ k) ∧ Iv st
theorem ro_kept {w W W' : World} {S : Nat → Prop} {A : Nat} {s : ByteArray} {B : Nat} {v : Value} {st : Nat × Nat × Nat} {bad : Bool} (h : RO w W A s B v st bad) (g : Chg S W W') (hS : ∀ k, rfoot A B v k → ¬ S k) : RO w W' A s B v st bad := ⟨re_kept h.1 g hS, h.2⟩
theorem ro_lt {w W : World} {A : Nat} {s : ByteArray} {B : Nat} {v : Value} {st : Nat × Nat × Nat} {bad : Bool} (h : RO w W A s B v st bad) (k : Nat) (hk : rfoot A B v k) : k < W.heap.size := re_lt h.1 k hk
theorem below_rfoot {w W W' : World} {A B : Nat} {v : Value} (hb : Below w.heap.size w W) (hc : Chg (rfoot A B v) W W') (hu : ∀ k, rfoot A B v k → w.heap.size ≤ k) : Below w.heap.size w W' := hb.trans (chg_below hc hb.size hu)
theorem rfrom_own {w W : World} (s : ByteArray) (hb : Below w.heap.size w W) : Calls Try.prog 19 #[.string s] W fun e W' => ∃ A B v, e = .returned (ptr A) ∧ RO w W' A s B v st0 false ∧ (∀ k, rfoot A B v k → W.heap.size ≤ k) ∧ Below w.heap.size w W' ∧ Chg (fun _ => False) W W' := by
  refine (rfrom_any s W).mono ?_
  rintro e W' ⟨A, B, v, rfl, k1, k2, k3⟩
  exact ⟨A, B, v, rfl, ⟨k1, fun k hk => Nat.le_trans hb.size (k2 k hk), iv0⟩, k2, below_no hb k3, k3⟩
def RoPost (w W : World) (A : Nat) (s : ByteArray) (B : Nat) (v : Value) (n er : Nat) (st : Nat × Nat × Nat) (bad : Bool) (e : Ending) (W' : World) : Prop :=
  e = .returned (agg3 n er) ∧ ∃ v', RO w W' A s B v' st bad ∧ Below w.heap.size w W' ∧ Chg (rfoot A B v) W W' ∧ Moved W v v'
theorem ro_post {w W W' : World} {A : Nat} {s : ByteArray} {B : Nat} {v : Value} {n er : Nat} {st st' : Nat × Nat × Nat} {bad bad' : Bool} {e : Ending} (h : RO w W A s B v st bad) (hb : Below w.heap.size w W) (hi : Iv st')
    (p : RbPost A s B v n er st' bad' W e W') : RoPost w W A s B v n er st' bad' e W' := by
  obtain ⟨h1, v', h2, h3, h4⟩ := p
  refine ⟨h1, v', ⟨h2, ?_, hi⟩, below_rfoot hb h3 h.2.1, h3, h4⟩
  rintro k (e | e | e)
  · exact h.2.1 k (.inl e)
  · exact h.2.1 k (.inr (.inl e))
  · exact (h4 k e).elim (fun g => h.2.1 k (.inr (.inr g))) (fun g => Nat.le_trans hb.size g)
theorem gd_iv {s : List UInt8} {st : Nat × Nat × Nat} {bad : Bool} (h : Gd s st bad) : Iv st := h.1
theorem iv_bit {s : List UInt8} {st : Nat × Nat × Nat} {bad : Bool} (p : Int) (h : Iv st) : Iv (gBit s p st bad).2.2.1 := by
  unfold gBit
  split
  · exact (bitS_ok p _ st h).1
  · exact h
theorem iv_dir (s : List UInt8) : ∀ (n acc : Nat) (st : Nat × Nat × Nat) (bad : Bool), Iv st → Iv (gDir s n acc st bad).2.2.1
  | 0, _, _, _, h => h
  | n + 1, acc, st, bad, h => by
    rw [gDir]
    split
    · exact iv_dir s n _ _ _ (dirS_ok _ st h).1
    · exact h
theorem rget_own {w W : World} (A : Nat) (s : ByteArray) (B : Nat) (v : Value) (st : Nat × Nat × Nat) (bad : Bool) (p : Int) (h : RO w W A s B v st bad) (hb : Below w.heap.size w W) (hk : st.1 ≤ 80000) (hs : s.size ≤ 100000)
    (b er : Nat) (st' : Nat × Nat × Nat) (bad' : Bool) (hr : gBit s.data.toList p st bad = (b, er, st', bad')) :
    Calls Try.prog 24 #[ptr A, .int .i64 p] W (RoPost w W A s B v b er st' bad') := by
  have hv := iv_bit (s := s.data.toList) (bad := bad) p h.2.2
  have D := rget_any A s B v st bad p W h.1 h.2.2 (by omega) hs
  rw [hr] at hv D
  exact D.mono fun e W' g => ro_post h hb hv g
theorem rgdir_own {w W : World} (A : Nat) (s : ByteArray) (B : Nat) (v : Value) (st : Nat × Nat × Nat) (bad : Bool) (n : Int) (h : RO w W A s B v st bad) (hb : Below w.heap.size w W) (hk : st.1 ≤ 80000) (hs : s.size ≤ 100000)
    (x er : Nat) (st' : Nat × Nat × Nat) (bad' : Bool) (hr : gDir s.data.toList (cl n) 0 st bad = (x, er, st', bad')) :
    Calls Try.prog 21 #[ptr A, .int .i64 n] W (RoPost w W A s B v x er st' bad') := by
  have hv := iv_dir s.data.toList (cl n) 0 st bad h.2.2
  have D := rgdir_any A s B v st bad n W h.1 h.2.2 hk hs
  rw [hr] at hv D
  exact D.mono fun e W' g => ro_post h hb hv g
theorem rend_own {w W : World} (A : Nat) (s : ByteArray) (B : Nat) (v : Value) (st : Nat × Nat × Nat) (bad : Bool) (h : RO w W A s B v st bad) (hb : Below w.heap.size w W) (hk : st.1 ≤ 80000) (hs : s.size ≤ 100000)
    (er : Nat) (bad' : Bool) (hr : gEnd s.data.toList st bad = (er, bad')) :
    Calls Try.prog 26 #[ptr A] W fun e W' => e = .returned (.int .i64 er) ∧ RO w W' A s B v st bad' ∧ Below w.heap.size w W' ∧ Chg (rfoot A B v) W W' := by
  have D := rend_any A s B v st bad W h.1 h.2.2 (by omega) hs
  rw [hr] at D
  refine D.mono ?_
  rintro e W' ⟨rfl, k1, k2⟩
  exact ⟨rfl, ⟨k1, h.2⟩, below_rfoot hb (chg_ah k2) h.2.1, chg_ah k2⟩
/-- A decoder and a reader of the reference do not touch one another. -/
def Apr (A : Nat) (v : Value) (B C : Nat) (u : Value) : Prop := ∀ k, foot A v k → ¬ rfoot B C u k
theorem apr_left {A : Nat} {v v' : Value} {B C : Nat} {u : Value} {W : World} (h : Apr A v B C u) (m : Moved W v v') (hu : ∀ k, rfoot B C u k → k < W.heap.size) : Apr A v' B C u := by
  rintro k (e | e) hk
  · exact h k (.inl e) hk
  · rcases m k e with g | g
    · exact h k (.inr g) hk
    · have := hu k hk; omega
theorem apr_right {A : Nat} {v : Value} {B C : Nat} {u u' : Value} {W : World} (h : Apr A v B C u) (m : Moved W u u') (hu : ∀ k, foot A v k → k < W.heap.size) : Apr A v B C u' := by
  rintro k hk (e | e | e)
  · exact h k hk (.inl e)
  · exact h k hk (.inr (.inl e))
  · rcases m k e with g | g
    · exact h k hk (.inr (.inr g))
    · have := hu k hk; omega
theorem er_bit (s : List UInt8) (p : Int) (st : Nat × Nat × Nat) (bad : Bool) : (gBit s p st bad).1 < 2 ∧ (gBit s p st bad).2.1 ≤ 3 := by
  unfold gBit
  split
  · refine ⟨?_, by simp⟩
    split <;> simp
  · rename_i h
    exact ⟨by simp, (ovr_err s st bad h).2⟩
theorem er_dir (s : List UInt8) : ∀ (n acc : Nat) (st : Nat × Nat × Nat) (bad : Bool), (gDir s n acc st bad).2.1 ≤ 3
  | 0, _, _, _ => by simp [gDir]
  | n + 1, acc, st, bad => by
    rw [gDir]
    split
    · exact er_dir s n _ _ _
    · rename_i h
      exact (ovr_err s st bad h).2
theorem er_end (s : List UInt8) (st : Nat × Nat × Nat) (bad : Bool) : (gEnd s st bad).1 ≤ 3 := by
  unfold gEnd
  split
  · split <;> simp
  · rename_i h
    exact (ovr_err s st bad h).2
theorem up_bit (s : List UInt8) (p : Int) (st : Nat × Nat × Nat) (bad : Bool) : (gBit s p st bad).2.2.1.1 ≤ st.1 + 2 := by
  unfold gBit
  split
  · exact bitS_up p _ st
  · exact Nat.le_add_right _ _
theorem up_dir (s : List UInt8) : ∀ (n acc : Nat) (st : Nat × Nat × Nat) (bad : Bool), (gDir s n acc st bad).2.2.1.1 ≤ st.1 + 2 * n
  | 0, _, _, _ => by simp [gDir]
  | n + 1, acc, st, bad => by
    rw [gDir]
    split
    · have h1 := up_dir s n (acc * 2 + if st.2.2 / 2 ≤ (ovr s st bad).2.1 then 1 else 0) (dirS (decide (st.2.2 / 2 ≤ (ovr s st bad).2.1)) st) false
      have h2 := dirS_up (decide (st.2.2 / 2 ≤ (ovr s st bad).2.1)) st
      omega
    · exact Nat.le_add_right _ _
end Go.Proofs.Ytbmjehpkcelogaa
