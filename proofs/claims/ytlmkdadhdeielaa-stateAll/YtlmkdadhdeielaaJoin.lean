/-
  joined, of the four: what it returns.
-/
import Derived.Test.YtlmkdadhdeielaaJoinM
namespace Go.Proofs.Ytlmkdadhdeielaa
open Go.ChangeShapes Go.WideShapes Go.ChangeAt Go.RowKit
open Go.ChangeMaps (open_string shut_string)

def JRel (f : F4) (h : Nat) (hv iv : Value) : Prop := ∃ i : Nat, i ≤ 4 ∧ iv = .int .i64 i ∧ hv = .int .u64 (hl f h i : Nat)

theorem idx0 (a b c d : Value) (W : World) : (Instr.index 60 (.agg #[a, b, c, d]) (.int .i64 0)).run Try.prog W = .ok a W := by rfl
theorem idx1 (a b c d : Value) (W : World) : (Instr.index 60 (.agg #[a, b, c, d]) (.int .i64 1)).run Try.prog W = .ok b W := by rfl
theorem idx2 (a b c d : Value) (W : World) : (Instr.index 60 (.agg #[a, b, c, d]) (.int .i64 2)).run Try.prog W = .ok c W := by rfl
theorem idx3 (a b c d : Value) (W : World) : (Instr.index 60 (.agg #[a, b, c, d]) (.int .i64 3)).run Try.prog W = .ok d W := by rfl
set_option maxRecDepth 100000 in
set_option maxHeartbeats 1000000 in
theorem joined_any (f : F4) (hf : Fits f) (w : World) :
    Calls Try.prog 35 #[agg4 f] w fun e w' => e = .returned (.int .u64 (join4 f : Nat)) ∧ Below w.heap.size w w' := by
  have c1 : ∀ w, Calls Try.prog 43 #[.int .u64 f.a, .int .i64 1] w fun e w' => e = .returned (.int .u64 (rol f.a 1 : Nat)) ∧ w' = w := fun w => turned_any f.a 1 hf.1 (by decide) w
  have c2 : ∀ w, Calls Try.prog 43 #[.int .u64 f.b, .int .i64 7] w fun e w' => e = .returned (.int .u64 (rol f.b 7 : Nat)) ∧ w' = w := fun w => turned_any f.b 7 hf.2.1 (by decide) w
  have c3 : ∀ w, Calls Try.prog 43 #[.int .u64 f.c, .int .i64 12] w fun e w' => e = .returned (.int .u64 (rol f.c 12 : Nat)) ∧ w' = w := fun w => turned_any f.c 12 hf.2.2.1 (by decide) w
  have c4 : ∀ w, Calls Try.prog 43 #[.int .u64 f.d, .int .i64 18] w fun e w' => e = .returned (.int .u64 (rol f.d 18 : Nat)) ∧ w' = w := fun w => turned_any f.d 18 hf.2.2.2 (by decide) w
  have J := hidI (hl_join f)
  have B : Blk (w.alloc (.cells (cells4 f) 60)) w.heap.size (cells4 f) 60 := blk_new w _ _
  have b0 : World.cell? _ ⟨w.heap.size, 0, none⟩ = some (.int .u64 (f.a : Nat)) := blk_cell B 0
  have b1 : World.cell? _ ⟨w.heap.size, 1, none⟩ = some (.int .u64 (f.b : Nat)) := blk_cell B 1
  have b2 : World.cell? _ ⟨w.heap.size, 2, none⟩ = some (.int .u64 (f.c : Nat)) := blk_cell B 2
  have b3 : World.cell? _ ⟨w.heap.size, 3, none⟩ = some (.int .u64 (f.d : Nat)) := blk_cell B 3
  have H1 : Below w.heap.size w (w.alloc (.cells (cells4 f) 60)) := (Below.refl _ _).alloc (Nat.le_refl _) _
  generalize rol f.a 1 = r1 at *
  generalize rol f.b 7 = r2 at *
  generalize rol f.c 12 = r3 at *
  generalize rol f.d 18 = r4 at *
  have e1 := wrapAdd r1 r2
  generalize (r1 + r2) % 18446744073709551616 = s1 at *
  have e2 := wrapAdd s1 r3
  generalize (s1 + r3) % 18446744073709551616 = s2 at *
  have e3 := wrapAdd s2 r4
  have e4 := m64 (s2 + r4)
  generalize (s2 + r4) % 18446744073709551616 = h at *
  unfold agg4
  clear B hf
  go_enter Try.func35, Try.ntmps35
  go_wp2
  unfold cells4 at *
  generalize (w.alloc (.cells #[.int .u64 (f.a : Int), .int .u64 (f.b : Int), .int .u64 (f.c : Int), .int .u64 (f.d : Int)] 60)) = W at *
  replace H1 := hidI H1
  go_quiet ((go_at_call 43; first | with_reducible exact Calls.quiet_of_same (c1 _) | with_reducible exact Calls.quiet_of_same (c2 _) | with_reducible exact Calls.quiet_of_same (c3 _) | with_reducible exact Calls.quiet_of_same (c4 _)))
  clear c1 c2 c3 c4 e1 e2 e3
  go_wp2
  clear b0 b1 b2 b3
  replace H1 : Hid (Below w.heap.size w (W.drewN nq)) := below_drewN H1.out nq
  generalize W.drewN nq = V at *
  go_loop [3, 22] (fun hv iv => JRel f h hv iv) (fun _ iv => 4 - (intOf iv).toNat)
  case atStart => exact ⟨0, by omega, rfl, by rw [hl0]⟩
  case round =>
    obtain ⟨i, hi, rfl, rfl⟩ := hrel
    have l := hl_lt f h e4 i
    have hc : i = 0 ∨ i = 1 ∨ i = 2 ∨ i = 3 ∨ i = 4 := by omega
    rcases hc with rfl | rfl | rfl | rfl | rfl
    · have cl := fun w => hlane_any (hl f h 0) f.a l w
      have ix := idx0 (.int .u64 (f.a : Int)) (.int .u64 (f.b : Int)) (.int .u64 (f.c : Int)) (.int .u64 (f.d : Int))
      have E : Hid (hlane (hl f h 0) f.a = hl f h 1) := by show _ = _; rw [hl0, hl1]
      generalize hlane (hl f h 0) f.a = z at *
      generalize hl f h 0 = y at *
      go_wp2_with (first | (go_at_call 44; refine (cl _).mono ?_; rintro e w' ⟨rfl, rfl⟩) | go_in)
      go_round
      case rel => exact ⟨1, by omega, rfl, by rw [E.out]⟩
      case measure => simp [intOf]
    · have cl := fun w => hlane_any (hl f h 1) f.b l w
      have ix := idx1 (.int .u64 (f.a : Int)) (.int .u64 (f.b : Int)) (.int .u64 (f.c : Int)) (.int .u64 (f.d : Int))
      have E : Hid (hlane (hl f h 1) f.b = hl f h 2) := by show _ = _; rw [hl1, hl2]
      generalize hlane (hl f h 1) f.b = z at *
      generalize hl f h 1 = y at *
      go_wp2_with (first | (go_at_call 44; refine (cl _).mono ?_; rintro e w' ⟨rfl, rfl⟩) | go_in)
      go_round
      case rel => exact ⟨2, by omega, rfl, by rw [E.out]⟩
      case measure => simp [intOf]
    · have cl := fun w => hlane_any (hl f h 2) f.c l w
      have ix := idx2 (.int .u64 (f.a : Int)) (.int .u64 (f.b : Int)) (.int .u64 (f.c : Int)) (.int .u64 (f.d : Int))
      have E : Hid (hlane (hl f h 2) f.c = hl f h 3) := by show _ = _; rw [hl2, hl3]
      generalize hlane (hl f h 2) f.c = z at *
      generalize hl f h 2 = y at *
      go_wp2_with (first | (go_at_call 44; refine (cl _).mono ?_; rintro e w' ⟨rfl, rfl⟩) | go_in)
      go_round
      case rel => exact ⟨3, by omega, rfl, by rw [E.out]⟩
      case measure => simp [intOf]
    · have cl := fun w => hlane_any (hl f h 3) f.d l w
      have ix := idx3 (.int .u64 (f.a : Int)) (.int .u64 (f.b : Int)) (.int .u64 (f.c : Int)) (.int .u64 (f.d : Int))
      have E : Hid (hlane (hl f h 3) f.d = hl f h 4) := by show _ = _; rw [hl3, hl4]
      generalize hlane (hl f h 3) f.d = z at *
      generalize hl f h 3 = y at *
      go_wp2_with (first | (go_at_call 44; refine (cl _).mono ?_; rintro e w' ⟨rfl, rfl⟩) | go_in)
      go_round
      case rel => exact ⟨4, by omega, rfl, by rw [E.out]⟩
      case measure => simp [intOf]
    · generalize hl f h 4 = y at *
      go_wp2
      go_ret
      exact ⟨ret64 J.out, H1.out⟩
end Go.Proofs.Ytlmkdadhdeielaa
