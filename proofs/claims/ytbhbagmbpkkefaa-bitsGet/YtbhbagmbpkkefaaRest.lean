/-
  Package bits, Rest, and the methods of nil.
-/
import Derived.Test.YtbhbagmbpkkefaaRdB
namespace Go.Proofs.Ytbhbagmbpkkefaa
open Go.ChangeShapes Go.WideShapes Go.ChangeAt Go.RowKit
open Go.ChangeMaps (open_string shut_string)

theorem nat_beq (y : Nat) : ((y : Int) == 0) = decide (y = 0) := by by_cases h : y = 0 <;> simp [h]

theorem rest_far (A : Nat) (s : ByteArray) (a : Nat) (W : World) (h : Rd W A s a) (hs : s.size ≤ 100000) (ha : a + 8 ≤ 8 * s.size) :
    Calls Try.prog 21 #[ptr A] W fun e W' => e = .returned (.bool false) ∧ W' = W.drew := by
  obtain ⟨m, hm'⟩ : ∃ m : Nat, m = 8 * s.size - a := ⟨_, rfl⟩
  have LL := left_any A s a W h hs (by omega) m hm'
  have hnm : 8 ≤ m := by omega
  clear hm'
  unfold ptr at *
  go_enter Try.func21, Try.ntmps21
  go_wp2_with (first | (go_at_call 28; refine LL.mono ?_; rintro e w1 ⟨rfl, rfl⟩))
  go_ret
  exact ⟨rfl, rfl⟩

theorem rest_near (A : Nat) (s : ByteArray) (a : Nat) (W : World) (h : Rd W A s a) (hs : s.size ≤ 100000) (ha : a ≤ 8 * s.size) (ha8 : 8 * s.size < a + 8) :
    Calls Try.prog 21 #[ptr A] W fun e W' => e = .returned (.bool (decide (got (le s.data.toList) a (8 * s.size - a) = 0))) ∧ Chg (fun _ => False) W W' := by
  obtain ⟨m, hm'⟩ : ∃ m : Nat, m = 8 * s.size - a := ⟨_, rfl⟩
  have LL := left_any A s a W h hs (by omega) m hm'
  have c0 : W.cell? ⟨A, 0, none⟩ = some (.string s) := by rw [blk_cell h]; rfl
  have c1 : W.cell? ⟨A, 1, none⟩ = some (.int .i64 a) := by rw [blk_cell h]; rfl
  have hnm : m < 8 := by omega
  have HM : Hid (m = 8 * s.size - a) := hm'
  rw [← hm']
  clear hm'
  unfold ptr at *
  go_enter Try.func21, Try.ntmps21
  go_wp2_with fail
  refine LL.mono ?_
  rintro e w1 ⟨rfl, rfl⟩
  go_wp2_with fail
  have hR : Rd (W.alloc (Obj.cells #[Value.string s, Value.int IntKind.i64 a] 59)).drew W.heap.size s a := blk_drew (blk_new W _ _)
  have hch : Chg (fun _ => False) W (W.alloc (Obj.cells #[Value.string s, Value.int IntKind.i64 a] 59)).drew := chg_drew (chg_alloc (chg_refl _ _) _)
  generalize (W.alloc (Obj.cells #[Value.string s, Value.int IntKind.i64 a] 59)).drew = W1 at *
  generalize hA : W.heap.size = A1 at hR ⊢
  have HA : Hid (W.heap.size = A1) := hA
  clear hA
  refine (left_any A1 s a W1 hR hs ha m HM.out).mono ?_
  rintro e w1 ⟨rfl, rfl⟩
  go_wp2_with fail
  refine (get_nat A1 s hs m a W1.drew (rd_drew hR) (by have := HM.out; omega) (by omega)).mono ?_
  rintro e w2 ⟨rfl, k1, k2⟩
  go_wp2
  go_ret
  refine ⟨?_, chg_trans hch (chg_trans (chg_drew (chg_refl (fun x => x = A1) W1)) k2 (fun _ _ h => h)) ?_⟩
  · show Ending.returned (.bool ((got (le s.data.toList) a m : Int) == 0)) = _
    rw [nat_beq]
  · intro k hk e
    have := HA.out
    omega

/-- Whether nothing but noughts, fewer than eight, are left. -/
def rs (s : ByteArray) (a : Nat) : Bool := decide (8 * s.size < a + 8) && decide (got (le s.data.toList) a (8 * s.size - a) = 0)
theorem rest_any (A : Nat) (s : ByteArray) (a : Nat) (W : World) (h : Rd W A s a) (hs : s.size ≤ 100000) (ha : a ≤ 8 * s.size) :
    Calls Try.prog 21 #[ptr A] W fun e W' => e = .returned (.bool (rs s a)) ∧ Chg (fun _ => False) W W' := by
  by_cases h8 : 8 * s.size < a + 8
  · refine (rest_near A s a W h hs ha h8).mono ?_
    rintro e w1 ⟨rfl, k⟩
    exact ⟨by rw [rs, decide_eq_true h8, Bool.true_and], k⟩
  · refine (rest_far A s a W h hs (by omega)).mono ?_
    rintro e w1 ⟨rfl, rfl⟩
    exact ⟨by rw [rs, decide_eq_false h8, Bool.false_and], chg_refl _ _⟩

theorem nil_put (x : Nat) (n : Int) (W : World) : Calls Try.prog 11 #[.pointer none, .int .u64 x, .int .i64 n] W fun e W' => e = .returned (.tuple #[]) ∧ W = W' := by
  go_enter Try.func11, Try.ntmps11
  go_wp2
  refine bodyPost_ret (results_none rfl _ _ _) rfl ?_
  exact ⟨rfl, rfl⟩
theorem nil_len (W : World) : Calls Try.prog 13 #[.pointer none] W fun e W' => e = .returned (.int .i64 0) ∧ W = W' := by
  go_enter Try.func13, Try.ntmps13
  go_wp2
  go_ret
  exact ⟨rfl, rfl⟩
theorem nil_bytes (W : World) : Calls Try.prog 14 #[.pointer none] W fun e W' => e = .returned (.string (bs [])) ∧ W = W' := by
  go_enter Try.func14, Try.ntmps14
  go_wp2
  go_ret
  exact ⟨rfl, rfl⟩
theorem nil_get (n : Int) (W : World) : Calls Try.prog 18 #[.pointer none, .int .i64 n] W fun e W' => e = .returned (.tuple #[.int .u64 0, .int .i64 6]) ∧ W = W' := by
  go_enter Try.func18, Try.ntmps18
  go_wp2
  go_ret2
  exact ⟨rfl, rfl⟩
theorem nil_rest (W : World) : Calls Try.prog 21 #[.pointer none] W fun e W' => e = .returned (.bool false) ∧ W = W' := by
  go_enter Try.func21, Try.ntmps21
  go_wp2
  go_ret
  exact ⟨rfl, rfl⟩
end Go.Proofs.Ytbhbagmbpkkefaa
