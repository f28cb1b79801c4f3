/-
  Package chance, the decoder: From, need, fail.
-/
import Derived.Test.YtbmjehpkcelogaaBt
namespace Go.Proofs.Ytbmjehpkcelogaa
open Go.ChangeShapes Go.WideShapes Go.ChangeAt Go.RowKit
open Go.ChangeMaps (open_string shut_string)

/-- A decoder's cells. -/
def F1 (s a b : Value) (x y z : Value) : Array Value := #[s, x, y, z, a, b]
theorem fit1 (s a b : Value) : Fit (F1 s a b) 1 := by
  intro x y z
  refine ⟨rfl, rfl, rfl, fun u => rfl, fun u => rfl, fun u => rfl⟩
/-- Block A is a decoder of s that has come to st. -/
def De (W : World) (A : Nat) (s : ByteArray) (v : Value) (st : Nat × Nat × Nat) (bad : Bool) : Prop :=
  En (F1 (.string s) (.int .i64 (st.1 : Int)) (.bool bad)) 73 W A v 0 st.2.1 st.2.2
theorem from_any (s : ByteArray) (w : World) : Calls Try.prog 18 #[.string s] w fun e w' => e = .returned (ptr w.heap.size) ∧ De w' w.heap.size s (.slice none 0 0) st0 false ∧ Chg (fun _ => False) w w' := by
  go_enter Try.func18, Try.ntmps18
  go_wp2
  go_ret
  exact ⟨rfl, ⟨blk_new _ _ _, World.ownsRow_nil _ _ _ _, by simp [Value.ownBlock], by decide⟩, chg_alloc (chg_refl _ _) _⟩
theorem need_any (A : Nat) (s : ByteArray) (v : Value) (st : Nat × Nat × Nat) (bad : Bool) (W : World) (h : De W A s v st bad) (hk : st.1 ≤ 100000) :
    Calls Try.prog 42 #[ptr A] W fun e W' => e = .returned (.int .i64 ((5 + st.1 : Nat) : Int)) ∧ W = W' := by
  have c4 : W.cell? ⟨A, 4, none⟩ = some (.int .i64 (st.1 : Int)) := by rw [blk_cell h.1]; rfl
  generalize st.1 = k at *
  unfold ptr
  go_enter Try.func42, Try.ntmps42
  go_wp2
  go_ret
  exact ⟨ret_int (by omega), rfl⟩
theorem fail_any (A : Nat) (s : ByteArray) (v : Value) (st : Nat × Nat × Nat) (bad : Bool) (er : Nat) (W : World) (h : De W A s v st bad) :
    Calls Try.prog 43 #[ptr A, .int .i64 er] W fun e W' => e = .returned (.int .i64 er) ∧ De W' A s v st true ∧ Chg (· = A) W W' := by
  have f5 := blk_free h.1 5
  have k1 : Chg (· = A) W (W.setCell ⟨A, 5, none⟩ (.bool true)) := chg_set (chg_refl _ _) _ _ (fun _ => rfl)
  have b1 : Blk (W.setCell ⟨A, 5, none⟩ (.bool true)) A (F1 (.string s) (.int .i64 (st.1 : Int)) (.bool true) v (lstV st.2.1) (gonV st.2.2)) 73 := by
    have := blk_set h.1 5 (.bool true)
    simpa [F1] using this
  have d1 : De (W.setCell ⟨A, 5, none⟩ (.bool true)) A s v st true := ⟨b1, own_kept h.2.1 k1 (fun k hk e => h.2.2.1 (by rw [hk, e])), h.2.2.1, h.2.2.2⟩
  have c5 : W.cell? ⟨A, 5, none⟩ = some (.bool bad) := by rw [blk_cell h.1]; rfl
  clear b1 h
  unfold ptr
  go_enter Try.func43, Try.ntmps43
  go_wp2
  go_ret
  exact ⟨rfl, d1, k1⟩

def NuRel (l : List UInt8) (W : World) (nv iv : Value) (wr : World) : Prop :=
  ∃ i, i ≤ l.length ∧ iv = .int .i64 (i : Int) ∧ nv = .int .u32 ((num (l.take i) : Nat) : Int) ∧ W = wr
theorem num_le (l : List UInt8) (i : Nat) (h : i ≤ 3) : num (l.take i) < 16777216 := by
  have h1 := num_lt (l.take i).length (l.take i) rfl
  have h2 : (l.take i).length ≤ 3 := by rw [List.length_take]; omega
  have h3 : 256 ^ (l.take i).length ≤ 256 ^ 3 := Nat.pow_le_pow_right (by decide) h2
  have h4 : (256 : Nat) ^ 3 = 16777216 := rfl
  omega
theorem or_byte (x c : Nat) (h : x < 16777216) (hc : c < 256) : bits .or .u32 ((x : Int) * 256) (c : Int) = ((x * 256 + c : Nat) : Int) := by
  have h8 : (2 : Nat) ^ 8 = 256 := rfl
  have := or_hi c x 8 (by omega)
  rw [h8] at this
  rw [show (x : Int) * 256 = ((x * 256 : Nat) : Int) from by simp, u32_or_nat _ _ (by omega) (by omega), Nat.or_comm, this]; simp; omega
end Go.Proofs.Ytbmjehpkcelogaa
