/-
  number, newFour and joined of package state: what they return.
-/
import Derived.Test.YtlmkdadhdeielaaOb
import Derived.Deep.QuietTactic
import Derived.Deep.RegionWith
import Derived.BigQuiet
namespace Go.Proofs.Ytlmkdadhdeielaa
open Go.ChangeShapes Go.WideShapes Go.ChangeAt Go.RowKit
open Go.ChangeMaps (open_string shut_string)

set_option maxRecDepth 100000 in
theorem newF_any (s : Nat) (w : World) :
    Calls Try.prog 21 #[.int .u64 s] w fun e w' => e = .returned (agg4 (new4 s)) ∧ Below w.heap.size w w' := by
  obtain ⟨e1, e2, e3⟩ := new4_bits s
  have E : Hid (new4 s = ⟨(new4 s).a, (new4 s).b, s, (new4 s).d⟩) := rfl
  generalize (new4 s).a = a at *
  generalize (new4 s).b = b at *
  generalize (new4 s).d = d at *
  go_enter Try.func21, Try.ntmps21
  go_wp2
  exact bodyPost_ret (v := agg4 ⟨a, b, s, d⟩) (by simp [results, Try.results21, go_sem, agg4]) rfl ⟨by rw [E.out], (Below.refl _ _).alloc (Nat.le_refl _) _⟩

def NRel (l : List UInt8) (nv iv : Value) : Prop := ∃ k : Nat, k ≤ 8 ∧ iv = .int .i64 k ∧ nv = .int .u64 (wval (l.take k))
theorem take_snocL (l : List UInt8) (k : Nat) (h : k < l.length) : l.take (k + 1) = l.take k ++ [l[k]] := List.take_succ_eq_append_getElem h

set_option maxRecDepth 100000 in
set_option maxHeartbeats 1000000 in
theorem numb_any (B o cap : Nat) (l : List UInt8) (hl : l.length = 8) (_hcap : 8 ≤ cap) (w : World) (hc : ∀ j, (h : j < l.length) → w.cell? ⟨B, o + j, none⟩ = some (byteV l[j])) :
    Calls Try.prog 31 #[.slice (some ⟨B, o, none⟩) 8 cap] w fun e w' => e = .returned (.int .u64 (wval l : Nat)) ∧ w' = w := by
  have N : Hid (l.take 8 = l) := List.take_of_length_le (by rw [hl]; exact Nat.le_refl _)
  have HC := hidI hc
  clear hc
  go_enter Try.func31, Try.ntmps31
  go_wp2
  go_loop [3, 8] (fun nv iv => NRel l nv iv) (fun _ iv => 8 - (intOf iv).toNat)
  case atStart => exact ⟨0, by omega, rfl, by simp [wval]⟩
  case round =>
    obtain ⟨k, hk, rfl, rfl⟩ := hrel
    by_cases hlt : k < 8
    · have l2 : k < l.length := by omega
      have hb := word_bits (l.take k) l[k] k (by rw [List.length_take]; omega) (by omega)
      rw [← take_snocL l k l2, Nat.mul_comm 8 k] at hb
      have hcell := HC.out k l2
      unfold byteV at hcell
      go_wp2
      go_round
      case rel => exact ⟨k + 1, by omega, by go_num, rfl⟩
      case measure => simp [intOf]; omega
    · obtain rfl : k = 8 := by omega
      go_wp2
      go_ret
      exact ⟨by rw [N.out]; rfl, rfl⟩

theorem jdx0 (a b c d : Value) (W : World) : (Instr.index 36 (.agg #[a, b, c, d]) (.int .i64 0)).run Try.prog W = .ok a W := by rfl
theorem jdx1 (a b c d : Value) (W : World) : (Instr.index 36 (.agg #[a, b, c, d]) (.int .i64 1)).run Try.prog W = .ok b W := by rfl
theorem jdx2 (a b c d : Value) (W : World) : (Instr.index 36 (.agg #[a, b, c, d]) (.int .i64 2)).run Try.prog W = .ok c W := by rfl
theorem jdx3 (a b c d : Value) (W : World) : (Instr.index 36 (.agg #[a, b, c, d]) (.int .i64 3)).run Try.prog W = .ok d W := by rfl
theorem lane_bits (h l : Nat) (hh : h < 18446744073709551616) : ∃ x y : Nat, bits .xor .u64 (h : Int) (rnd 0 l : Nat) = (x : Int) ∧ IntKind.u64.wrap ((x : Int) * 11400714785074694791) = (y : Int) ∧ IntKind.u64.wrap ((y : Int) + 9650029242287828579) = ((hlane h l : Nat) : Int) := by
  obtain ⟨y, h1, h2⟩ := mulP14 (h ^^^ rnd 0 l)
  exact ⟨_, y, u64_xor_nat h _ hh (rnd_lt _ _), h1, h2⟩
theorem round0 (x : Nat) (w : World) : Calls Try.prog 30 #[.int .u64 0, .int .u64 x] w fun e w' => e = .returned (.int .u64 (rnd 0 x : Nat)) ∧ w' = w := round_any 0 x w

set_option maxRecDepth 100000 in
set_option maxHeartbeats 1000000 in
theorem joinF_any (f : F4) (hf : Fits f) (w : World) :
    Calls Try.prog 29 #[agg4 f] w fun e w' => e = .returned (.int .u64 (join4 f : Nat)) ∧ Below w.heap.size w w' := by
  have c1 : ∀ w, Calls Try.prog 39 #[.int .u64 f.a, .int .i64 1] w fun e w' => e = .returned (.int .u64 (rol f.a 1 : Nat)) ∧ w' = w := fun w => rot_any f.a 1 hf.1 (by decide) w
  have c2 : ∀ w, Calls Try.prog 39 #[.int .u64 f.b, .int .i64 7] w fun e w' => e = .returned (.int .u64 (rol f.b 7 : Nat)) ∧ w' = w := fun w => rot_any f.b 7 hf.2.1 (by decide) w
  have c3 : ∀ w, Calls Try.prog 39 #[.int .u64 f.c, .int .i64 12] w fun e w' => e = .returned (.int .u64 (rol f.c 12 : Nat)) ∧ w' = w := fun w => rot_any f.c 12 hf.2.2.1 (by decide) w
  have c4 : ∀ w, Calls Try.prog 39 #[.int .u64 f.d, .int .i64 18] w fun e w' => e = .returned (.int .u64 (rol f.d 18 : Nat)) ∧ w' = w := fun w => rot_any f.d 18 hf.2.2.2 (by decide) w
  have J := hidI (hl_join f)
  have B : Blk (w.alloc (.cells (cells4 f) 36)) w.heap.size (cells4 f) 36 := blk_new w _ _
  have b0 : World.cell? _ ⟨w.heap.size, 0, none⟩ = some (.int .u64 (f.a : Nat)) := blk_cell B 0
  have b1 : World.cell? _ ⟨w.heap.size, 1, none⟩ = some (.int .u64 (f.b : Nat)) := blk_cell B 1
  have b2 : World.cell? _ ⟨w.heap.size, 2, none⟩ = some (.int .u64 (f.c : Nat)) := blk_cell B 2
  have b3 : World.cell? _ ⟨w.heap.size, 3, none⟩ = some (.int .u64 (f.d : Nat)) := blk_cell B 3
  have H1 : Below w.heap.size w (w.alloc (.cells (cells4 f) 36)) := (Below.refl _ _).alloc (Nat.le_refl _) _
  generalize rol f.a 1 = r1 at *
  generalize rol f.b 7 = r2 at *
  generalize rol f.c 12 = r3 at *
  generalize rol f.d 18 = r4 at *
  have e1 := wrapAdd r1 r2
  generalize (r1 + r2) % 18446744073709551616 = s1 at *
  have e2 := wrapAdd s1 r3
  generalize (s1 + r3) % 18446744073709551616 = s2 at *
  have e3 := wrapAdd s2 r4
  have e4 := m64 (s2 + r4)
  generalize (s2 + r4) % 18446744073709551616 = h at *
  unfold agg4
  clear B hf
  go_enter Try.func29, Try.ntmps29
  go_wp2
  unfold cells4 at *
  generalize (w.alloc (.cells #[.int .u64 (f.a : Int), .int .u64 (f.b : Int), .int .u64 (f.c : Int), .int .u64 (f.d : Int)] 36)) = W at *
  replace H1 := hidI H1
  go_quiet ((go_at_call 39; first | with_reducible exact Calls.quiet_of_same (c1 _) | with_reducible exact Calls.quiet_of_same (c2 _) | with_reducible exact Calls.quiet_of_same (c3 _) | with_reducible exact Calls.quiet_of_same (c4 _)))
  clear c1 c2 c3 c4 e1 e2 e3
  go_wp2
  clear b0 b1 b2 b3
  replace H1 : Hid (Below w.heap.size w (W.drewN nq)) := below_drewN H1.out nq
  generalize W.drewN nq = V at *
  go_loop [3, 22] (fun hv iv => JRel f h hv iv) (fun _ iv => 4 - (intOf iv).toNat)
  case atStart => exact ⟨0, by omega, rfl, by rw [hl0]⟩
  case round =>
    obtain ⟨i, hi, rfl, rfl⟩ := hrel
    have l := hl_lt f h e4 i
    have hc : i = 0 ∨ i = 1 ∨ i = 2 ∨ i = 3 ∨ i = 4 := by omega
    rcases hc with rfl | rfl | rfl | rfl | rfl
    · have cl := fun w => round0 f.a w
      have ix := jdx0 (.int .u64 (f.a : Int)) (.int .u64 (f.b : Int)) (.int .u64 (f.c : Int)) (.int .u64 (f.d : Int))
      have E : Hid (hlane (hl f h 0) f.a = hl f h 1) := by show _ = _; rw [hl0, hl1]
      obtain ⟨x, y, q1, q2, q3⟩ := lane_bits (hl f h 0) f.a l
      generalize hlane (hl f h 0) f.a = z at *
      generalize hl f h 0 = yy at *
      generalize rnd 0 f.a = rr at *
      go_wp2_with (first | (go_at_call 30; refine (cl _).mono ?_; rintro e w' ⟨rfl, rfl⟩) | go_in)
      go_round
      case rel => exact ⟨1, by omega, rfl, by rw [E.out]⟩
      case measure => simp [intOf]
    · have cl := fun w => round0 f.b w
      have ix := jdx1 (.int .u64 (f.a : Int)) (.int .u64 (f.b : Int)) (.int .u64 (f.c : Int)) (.int .u64 (f.d : Int))
      have E : Hid (hlane (hl f h 1) f.b = hl f h 2) := by show _ = _; rw [hl1, hl2]
      obtain ⟨x, y, q1, q2, q3⟩ := lane_bits (hl f h 1) f.b l
      generalize hlane (hl f h 1) f.b = z at *
      generalize hl f h 1 = yy at *
      generalize rnd 0 f.b = rr at *
      go_wp2_with (first | (go_at_call 30; refine (cl _).mono ?_; rintro e w' ⟨rfl, rfl⟩) | go_in)
      go_round
      case rel => exact ⟨2, by omega, rfl, by rw [E.out]⟩
      case measure => simp [intOf]
    · have cl := fun w => round0 f.c w
      have ix := jdx2 (.int .u64 (f.a : Int)) (.int .u64 (f.b : Int)) (.int .u64 (f.c : Int)) (.int .u64 (f.d : Int))
      have E : Hid (hlane (hl f h 2) f.c = hl f h 3) := by show _ = _; rw [hl2, hl3]
      obtain ⟨x, y, q1, q2, q3⟩ := lane_bits (hl f h 2) f.c l
      generalize hlane (hl f h 2) f.c = z at *
      generalize hl f h 2 = yy at *
      generalize rnd 0 f.c = rr at *
      go_wp2_with (first | (go_at_call 30; refine (cl _).mono ?_; rintro e w' ⟨rfl, rfl⟩) | go_in)
      go_round
      case rel => exact ⟨3, by omega, rfl, by rw [E.out]⟩
      case measure => simp [intOf]
    · have cl := fun w => round0 f.d w
      have ix := jdx3 (.int .u64 (f.a : Int)) (.int .u64 (f.b : Int)) (.int .u64 (f.c : Int)) (.int .u64 (f.d : Int))
      have E : Hid (hlane (hl f h 3) f.d = hl f h 4) := by show _ = _; rw [hl3, hl4]
      obtain ⟨x, y, q1, q2, q3⟩ := lane_bits (hl f h 3) f.d l
      generalize hlane (hl f h 3) f.d = z at *
      generalize hl f h 3 = yy at *
      generalize rnd 0 f.d = rr at *
      go_wp2_with (first | (go_at_call 30; refine (cl _).mono ?_; rintro e w' ⟨rfl, rfl⟩) | go_in)
      go_round
      case rel => exact ⟨4, by omega, rfl, by rw [E.out]⟩
      case measure => simp [intOf]
    · generalize hl f h 4 = y at *
      go_wp2
      go_ret
      exact ⟨ret64 J.out, H1.out⟩
end Go.Proofs.Ytlmkdadhdeielaa
