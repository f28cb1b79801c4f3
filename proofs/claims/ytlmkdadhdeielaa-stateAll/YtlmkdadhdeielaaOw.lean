/-
  Write of package state: whatever piece; awake; states that a call owns.
-/
import Derived.Test.YtlmkdadhdeielaaWp
namespace Go.Proofs.Ytlmkdadhdeielaa
open Go.ChangeShapes Go.WideShapes Go.ChangeAt Go.RowKit
open Go.ChangeMaps (open_string shut_string)


set_option maxRecDepth 100000 in
set_option maxHeartbeats 2000000 in
/-- Whatever piece. -/
theorem write_any {W : World} {A seed : Nat} {l : List UInt8} (h : St W A seed l) (s : ByteArray) (hn : l.length + s.size ≤ 1000000) :
    Calls Try.prog 8 #[ptr A, .string s] W fun e W' => e = .returned (.tuple #[]) ∧ St W' A seed (l ++ s.data.toList) ∧ Chg (· = A) W W' := by
  by_cases hs : l.length % 32 + s.size ≤ 32
  · exact write_small h s hn hs
  · have CL : Calls Try.prog 12 #[ptr A] W fun e w' => e = .returned (.int .i64 (l.length % 32 : Nat)) ∧ w' = W := by
      obtain ⟨_, f, k, h, _, _⟩ := h
      exact left_any h (by omega)
    have CP := inP_any h s hn (32 - l.length % 32) rfl
    have hm : l.length % 32 < 32 := by omega
    generalize l.length % 32 = m at *
    have m4 : 32 - m < s.size := by omega
    rw [show ((32 - m : Nat) : Int) = 32 - (m : Int) from by omega] at CP
    clear h
    unfold ptr at *
    go_enter Try.func8, Try.ntmps8
    go_wp2_with (first | (go_at_call 12; refine CL.mono ?_; rintro e w' ⟨rfl, rfl⟩) | fail)
    refine CP.mono ?_
    rintro e w5 ⟨rfl, h1, h2⟩
    have HW := hidI (And.intro h1 h2)
    clear h1 h2
    go_wp2
    refine bodyPost_ret (results_none rfl _ _ _) rfl ?_
    exact ⟨rfl, HW.out⟩

theorem st_sum {W : World} {A seed : Nat} {l : List UInt8} (h : St W A seed l) (hl : l.length ≤ 1000000) :
    Calls Try.prog 9 #[ptr A] W fun e w' => e = .returned (.int .u64 (sum seed l : Nat)) ∧ Below W.heap.size W w' := sumS_any h hl
theorem st_len {W : World} {A seed : Nat} {l : List UInt8} (h : St W A seed l) :
    Calls Try.prog 11 #[ptr A] W fun e w' => e = .returned (.int .i64 l.length) ∧ w' = W := by
  obtain ⟨_, f, k, h, _, _⟩ := h
  exact len_any h
set_option maxRecDepth 100000 in
theorem awake_any (W : World) : Calls Try.prog 7 #[] W fun e w' => e = .returned (.bool true) ∧ Below W.heap.size W w' := by
  have C6 := new_any 0 (by decide) W
  have C9 : ∀ V, St V W.heap.size 0 [] → Calls Try.prog 9 #[ptr W.heap.size] V fun e w' => e = .returned (.int .u64 17241709254077376921) ∧ Below V.heap.size V w' := by
    intro V hV
    have := st_sum hV (by simp)
    rw [sum_nil] at this
    exact this
  have C11 : ∀ V, St V W.heap.size 0 [] → Calls Try.prog 11 #[ptr W.heap.size] V fun e w' => e = .returned (.int .i64 0) ∧ w' = V := fun V hV => st_len hV
  unfold ptr at *
  go_enter Try.func7, Try.ntmps7
  go_wp2_with fail
  refine C6.mono ?_
  rintro e w1 ⟨rfl, h1, h2⟩
  have D9 := C9 w1 h1
  clear C6 C9
  go_wp2_with fail
  refine D9.mono ?_
  rintro e w2 ⟨rfl, h3⟩
  have D11 := C11 w2 (st_below h1 h3)
  have hb := hidI (h2.trans (h3.mono h2.size))
  clear D9 C11 h1 h2 h3
  go_wp2_with fail
  refine D11.mono ?_
  rintro e w3 ⟨rfl, h4⟩
  subst h4
  go_wp2
  go_ret
  exact ⟨rfl, hb.out⟩

/-! ### owners: one state, two, three, all of them the call's own -/
def I1 (w : World) (A seed : Nat) (l : List UInt8) (V : World) : Prop := St V A seed l ∧ w.heap.size ≤ A ∧ Below w.heap.size w V
def I2 (w : World) (A B sa sb : Nat) (la lb : List UInt8) (V : World) : Prop := I1 w A sa la V ∧ I1 w B sb lb V ∧ A ≠ B
def I3 (w : World) (A B C sa sb sc : Nat) (la lb lc : List UInt8) (V : World) : Prop := I2 w A B sa sb la lb V ∧ I1 w C sc lc V ∧ A ≠ C ∧ B ≠ C
theorem i1_below {w V V' : World} {A seed : Nat} {l : List UInt8} (h : I1 w A seed l V) (g : Below V.heap.size V V') : I1 w A seed l V' :=
  ⟨st_below h.1 g, h.2.1, h.2.2.trans (g.mono h.2.2.size)⟩
theorem i1_other {w V V' : World} {A B seed : Nat} {l : List UInt8} (h : I1 w A seed l V) (hB : w.heap.size ≤ B) (g : Chg (· = B) V V') (hne : A ≠ B) : I1 w A seed l V' :=
  ⟨st_chg h.1 g hne, h.2.1, h.2.2.trans (chg_below g h.2.2.size (fun _ e => e ▸ hB))⟩
theorem i1_new {w V : World} (hb : Below w.heap.size w V) (seed : Nat) (hs : seed < 18446744073709551616) :
    Calls Try.prog 6 #[.int .u64 seed] V fun e V' => e = .returned (ptr V.heap.size) ∧ I1 w V.heap.size seed [] V' ∧ Below V.heap.size V V' := by
  refine (new_any seed hs V).mono ?_
  rintro e V' ⟨rfl, h1, h2⟩
  exact ⟨rfl, ⟨h1, hb.size, hb.trans (h2.mono hb.size)⟩, h2⟩
theorem i1_write {w V : World} {A seed : Nat} {l : List UInt8} (h : I1 w A seed l V) (s : ByteArray) (hn : l.length + s.size ≤ 1000000) (l' : List UInt8) (hl' : l ++ s.data.toList = l') :
    Calls Try.prog 8 #[ptr A, .string s] V fun e V' => e = .returned (.tuple #[]) ∧ I1 w A seed l' V' ∧ Chg (· = A) V V' := by
  subst hl'
  refine (write_any h.1 s hn).mono ?_
  rintro e V' ⟨rfl, h1, h2⟩
  exact ⟨rfl, ⟨h1, h.2.1, h.2.2.trans (chg_below h2 h.2.2.size (fun _ e => e ▸ h.2.1))⟩, h2⟩
theorem i1_sum {w V : World} {A seed : Nat} {l : List UInt8} (h : I1 w A seed l V) (hl : l.length ≤ 1000000) :
    Calls Try.prog 9 #[ptr A] V fun e V' => e = .returned (.int .u64 (sum seed l : Nat)) ∧ I1 w A seed l V' ∧ Below V.heap.size V V' := by
  refine (st_sum h.1 hl).mono ?_
  rintro e V' ⟨rfl, h1⟩
  exact ⟨rfl, i1_below h h1, h1⟩
theorem i1_len {w V : World} {A seed : Nat} {l : List UInt8} (h : I1 w A seed l V) : Calls Try.prog 11 #[ptr A] V fun e V' => e = .returned (.int .i64 l.length) ∧ V' = V := st_len h.1
theorem awake_own {w V : World} (h : Below w.heap.size w V) : Calls Try.prog 7 #[] V fun e V' => e = .returned (.bool true) ∧ Below w.heap.size w V' := by
  refine (awake_any V).mono ?_
  rintro e V' ⟨rfl, h1⟩
  exact ⟨rfl, h.trans (h1.mono h.size)⟩
theorem i2_of {w V : World} {A B sa sb : Nat} {la lb : List UInt8} (h : I1 w A sa la V) (g : I1 w B sb lb V) (hne : A ≠ B) : I2 w A B sa sb la lb V := ⟨h, g, hne⟩
theorem i2_below {w V V' : World} {A B sa sb : Nat} {la lb : List UInt8} (h : I2 w A B sa sb la lb V) (g : Below V.heap.size V V') : I2 w A B sa sb la lb V' := ⟨i1_below h.1 g, i1_below h.2.1 g, h.2.2⟩
theorem i3_below {w V V' : World} {A B C sa sb sc : Nat} {la lb lc : List UInt8} (h : I3 w A B C sa sb sc la lb lc V) (g : Below V.heap.size V V') : I3 w A B C sa sb sc la lb lc V' := ⟨i2_below h.1 g, i1_below h.2.1 g, h.2.2⟩
theorem i2_sumA {w V : World} {A B sa sb : Nat} {la lb : List UInt8} (h : I2 w A B sa sb la lb V) (hl : la.length ≤ 1000000) : Calls Try.prog 9 #[ptr A] V fun e V' => e = .returned (.int .u64 (sum sa la : Nat)) ∧ I2 w A B sa sb la lb V' := by
  refine (st_sum h.1.1 hl).mono ?_
  rintro e V' ⟨rfl, h1⟩
  exact ⟨rfl, i2_below h h1⟩
theorem i2_sumB {w V : World} {A B sa sb : Nat} {la lb : List UInt8} (h : I2 w A B sa sb la lb V) (hl : lb.length ≤ 1000000) : Calls Try.prog 9 #[ptr B] V fun e V' => e = .returned (.int .u64 (sum sb lb : Nat)) ∧ I2 w A B sa sb la lb V' := by
  refine (st_sum h.2.1.1 hl).mono ?_
  rintro e V' ⟨rfl, h1⟩
  exact ⟨rfl, i2_below h h1⟩
theorem i2_writeA {w V : World} {A B sa sb : Nat} {la lb : List UInt8} (h : I2 w A B sa sb la lb V) (s : ByteArray) (hn : la.length + s.size ≤ 1000000) (l' : List UInt8) (hl' : la ++ s.data.toList = l') :
    Calls Try.prog 8 #[ptr A, .string s] V fun e V' => e = .returned (.tuple #[]) ∧ I2 w A B sa sb l' lb V' := by
  refine (i1_write h.1 s hn l' hl').mono ?_
  rintro e V' ⟨rfl, h1, h2⟩
  exact ⟨rfl, h1, i1_other h.2.1 h.1.2.1 h2 (Ne.symm h.2.2), h.2.2⟩
theorem i2_writeB {w V : World} {A B sa sb : Nat} {la lb : List UInt8} (h : I2 w A B sa sb la lb V) (s : ByteArray) (hn : lb.length + s.size ≤ 1000000) (l' : List UInt8) (hl' : lb ++ s.data.toList = l') :
    Calls Try.prog 8 #[ptr B, .string s] V fun e V' => e = .returned (.tuple #[]) ∧ I2 w A B sa sb la l' V' := by
  refine (i1_write h.2.1 s hn l' hl').mono ?_
  rintro e V' ⟨rfl, h1, h2⟩
  exact ⟨rfl, i1_other h.1 h.2.1.2.1 h2 h.2.2, h1, h.2.2⟩
theorem i3_writeB {w V : World} {A B C sa sb sc : Nat} {la lb lc : List UInt8} (h : I3 w A B C sa sb sc la lb lc V) (s : ByteArray) (hn : lb.length + s.size ≤ 1000000) (l' : List UInt8) (hl' : lb ++ s.data.toList = l') :
    Calls Try.prog 8 #[ptr B, .string s] V fun e V' => e = .returned (.tuple #[]) ∧ I3 w A B C sa sb sc la l' lc V' := by
  refine (i1_write h.1.2.1 s hn l' hl').mono ?_
  rintro e V' ⟨rfl, h1, h2⟩
  exact ⟨rfl, ⟨i1_other h.1.1 h.1.2.1.2.1 h2 h.1.2.2, h1, h.1.2.2⟩, i1_other h.2.1 h.1.2.1.2.1 h2 (Ne.symm h.2.2.2), h.2.2⟩
theorem i3_writeA {w V : World} {A B C sa sb sc : Nat} {la lb lc : List UInt8} (h : I3 w A B C sa sb sc la lb lc V) (s : ByteArray) (hn : la.length + s.size ≤ 1000000) (l' : List UInt8) (hl' : la ++ s.data.toList = l') :
    Calls Try.prog 8 #[ptr A, .string s] V fun e V' => e = .returned (.tuple #[]) ∧ I3 w A B C sa sb sc l' lb lc V' := by
  refine (i1_write h.1.1 s hn l' hl').mono ?_
  rintro e V' ⟨rfl, h1, h2⟩
  exact ⟨rfl, ⟨h1, i1_other h.1.2.1 h.1.1.2.1 h2 (Ne.symm h.1.2.2), h.1.2.2⟩, i1_other h.2.1 h.1.1.2.1 h2 (Ne.symm h.2.2.1), h.2.2⟩
theorem i3_writeC {w V : World} {A B C sa sb sc : Nat} {la lb lc : List UInt8} (h : I3 w A B C sa sb sc la lb lc V) (s : ByteArray) (hn : lc.length + s.size ≤ 1000000) (l' : List UInt8) (hl' : lc ++ s.data.toList = l') :
    Calls Try.prog 8 #[ptr C, .string s] V fun e V' => e = .returned (.tuple #[]) ∧ I3 w A B C sa sb sc la lb l' V' := by
  refine (i1_write h.2.1 s hn l' hl').mono ?_
  rintro e V' ⟨rfl, h1, h2⟩
  exact ⟨rfl, ⟨i1_other h.1.1 h.2.1.2.1 h2 h.2.2.1, i1_other h.1.2.1 h.2.1.2.1 h2 h.2.2.2, h.1.2.2⟩, h1, h.2.2⟩
theorem i3_sumA {w V : World} {A B C sa sb sc : Nat} {la lb lc : List UInt8} (h : I3 w A B C sa sb sc la lb lc V) (hl : la.length ≤ 1000000) : Calls Try.prog 9 #[ptr A] V fun e V' => e = .returned (.int .u64 (sum sa la : Nat)) ∧ I3 w A B C sa sb sc la lb lc V' := by
  refine (st_sum h.1.1.1 hl).mono ?_
  rintro e V' ⟨rfl, h1⟩
  exact ⟨rfl, i3_below h h1⟩
theorem i3_sumB {w V : World} {A B C sa sb sc : Nat} {la lb lc : List UInt8} (h : I3 w A B C sa sb sc la lb lc V) (hl : lb.length ≤ 1000000) : Calls Try.prog 9 #[ptr B] V fun e V' => e = .returned (.int .u64 (sum sb lb : Nat)) ∧ I3 w A B C sa sb sc la lb lc V' := by
  refine (st_sum h.1.2.1.1 hl).mono ?_
  rintro e V' ⟨rfl, h1⟩
  exact ⟨rfl, i3_below h h1⟩
end Go.Proofs.Ytlmkdadhdeielaa
