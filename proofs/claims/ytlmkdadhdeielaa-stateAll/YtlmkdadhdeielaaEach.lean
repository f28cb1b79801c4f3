/-
  each, of a hash: what it returns, for all texts.
-/
import Derived.Test.YtlmkdadhdeielaaNext
namespace Go.Proofs.Ytlmkdadhdeielaa
open Go.ChangeShapes Go.WideShapes Go.ChangeAt Go.RowKit
open Go.ChangeMaps (open_string shut_string)

theorem hidI {p : Prop} (h : p) : Hid p := h
def strOf : Value → Nat
  | .string s => s.size
  | _ => 0
def ERel (g : Nat → List UInt8 → Nat) (sz : Nat) (l : List UInt8) (h : Nat) (w : World) (hv sv : Value) (wr : World) : Prop :=
  ∃ (k m : Nat) (t : ByteArray), sz * k ≤ l.length ∧ hv = .int .u64 (pieces g sz l h k : Nat) ∧ sv = .string t ∧ t.data.toList = l.drop (sz * k) ∧ wr = w.drewN m
theorem left_size (l : List UInt8) (t : ByteArray) (a : Nat) (h : t.data.toList = l.drop a) : t.size = l.length - a := by
  rw [← len_data, h, List.length_drop]
theorem each_end (g : Nat → List UInt8 → Nat) (sz : Nat) (l : List UInt8) (h k : Nat) (t : ByteArray) (hk : sz * k ≤ l.length) (ht : t.data.toList = l.drop (sz * k)) (hlt : t.size < sz) :
    pieces g sz l h k = (each g sz h l).1 ∧ t = bs (each g sz h l).2 := by
  have e := left_size l t _ ht
  have q : l.length / sz = k := by
    rw [Nat.div_eq_iff (by omega)]
    rw [Nat.mul_comm] at hk
    rw [Nat.mul_comm] at e
    omega
  unfold each
  rw [q]
  refine ⟨rfl, ?_⟩
  show t = bs (l.drop (sz * k))
  rw [← ht]; rfl
theorem each_step (sz k : Nat) (l : List UInt8) (t : ByteArray) (hk : sz * k ≤ l.length) (ht : t.data.toList = l.drop (sz * k)) (hlt : ¬ t.size < sz) :
    sz * (k + 1) ≤ l.length ∧ (t.extract sz t.size).data.toList = l.drop (sz * (k + 1)) := by
  have e := left_size l t _ ht
  rw [Nat.mul_succ]
  refine ⟨by omega, ?_⟩
  rw [rest_list, ht, List.drop_drop]
theorem pieces_at (g : Nat → List UInt8 → Nat) (sz : Nat) (l : List UInt8) (h k : Nat) (t : ByteArray) (ht : t.data.toList = l.drop (sz * k)) :
    Hid (pieces g sz l h (k + 1) = g (pieces g sz l h k) (t.data.toList.take sz)) := by
  show _ = _
  rw [ht]; rfl
theorem ret_pair {a b : Nat} {s t : ByteArray} (h : a = b ∧ s = t) : Ending.returned (.tuple #[.int .u64 (a : Int), .string s]) = .returned (.tuple #[.int .u64 (b : Int), .string t]) := by rw [h.1, h.2]

set_option maxRecDepth 100000 in
theorem each17 (h : Nat) (s : ByteArray) (hh : h < 18446744073709551616) (w : World) :
    Calls Try.prog 24 #[.int .u64 h, .string s, .int .i64 8, .func (.func 25) #[] #[]] w fun e w' => e = .returned (.tuple #[.int .u64 ((each hword 8 h s.data.toList).1 : Nat), .string (bs (each hword 8 h s.data.toList).2)]) ∧ ∃ m, w' = w.drewN m := by
  go_enter Try.func24, Try.ntmps24
  go_wp2
  go_loopw [0, 1] (fun hv sv wr => ERel hword 8 s.data.toList h w hv sv wr) (fun _ sv _ => strOf sv)
  case atStart => exact ⟨0, 0, s, by omega, rfl, rfl, rfl, rfl⟩
  case round =>
    obtain ⟨k, m, t, hk', rfl, rfl, ht', rfl⟩ := hrel
    have hp : pieces hword 8 s.data.toList h k < 18446744073709551616 := pieces_pres (· < 18446744073709551616) hword hword_lt 8 _ _ hh k
    have hk : Hid (8 * k ≤ s.data.toList.length) := hk'
    have ht : Hid (t.data.toList = s.data.toList.drop (8 * k)) := ht'
    clear hk' ht' hh
    by_cases hlt : t.size < 8
    · have E := hidI (each_end hword 8 s.data.toList h k t hk.out ht.out hlt)
      go_wp2
      go_ret2
      exact ⟨ret_pair E.out, m, rfl⟩
    · have E := hidI (each_step 8 k s.data.toList t hk.out ht.out hlt)
      have c := fun w => next17 _ t hp (by omega) w
      have P := pieces_at hword 8 s.data.toList h k t ht.out
      obtain ⟨z, hz⟩ : ∃ z, hword (pieces hword 8 s.data.toList h k) (t.data.toList.take 8) = z := ⟨_, rfl⟩
      rw [hz] at P
      replace P := fun (_ : Unit) => P
      simp only [hz] at c
      clear hz
      generalize pieces hword 8 s.data.toList h k = y at *
      go_wp2_with (first | (go_at_call 36; refine (c _).mono ?_; rintro e w' ⟨rfl, m', rfl⟩) | go_in)
      go_roundw
      case rel => exact ⟨k + 1, m + m', t.extract 8 t.size, E.out.1, by rw [(P ()).out], rfl, E.out.2, rfl⟩
      case measure => have es := rest_size t 8; simp only [strOf, es]; omega

set_option maxRecDepth 100000 in
theorem each18 (h : Nat) (s : ByteArray) (hh : h < 18446744073709551616) (w : World) :
    Calls Try.prog 24 #[.int .u64 h, .string s, .int .i64 4, .func (.func 26) #[] #[]] w fun e w' => e = .returned (.tuple #[.int .u64 ((each hhalf 4 h s.data.toList).1 : Nat), .string (bs (each hhalf 4 h s.data.toList).2)]) ∧ ∃ m, w' = w.drewN m := by
  go_enter Try.func24, Try.ntmps24
  go_wp2
  go_loopw [0, 1] (fun hv sv wr => ERel hhalf 4 s.data.toList h w hv sv wr) (fun _ sv _ => strOf sv)
  case atStart => exact ⟨0, 0, s, by omega, rfl, rfl, rfl, rfl⟩
  case round =>
    obtain ⟨k, m, t, hk', rfl, rfl, ht', rfl⟩ := hrel
    have hp : pieces hhalf 4 s.data.toList h k < 18446744073709551616 := pieces_pres (· < 18446744073709551616) hhalf hhalf_lt 4 _ _ hh k
    have hk : Hid (4 * k ≤ s.data.toList.length) := hk'
    have ht : Hid (t.data.toList = s.data.toList.drop (4 * k)) := ht'
    clear hk' ht' hh
    by_cases hlt : t.size < 4
    · have E := hidI (each_end hhalf 4 s.data.toList h k t hk.out ht.out hlt)
      go_wp2
      go_ret2
      exact ⟨ret_pair E.out, m, rfl⟩
    · have E := hidI (each_step 4 k s.data.toList t hk.out ht.out hlt)
      have c := fun w => next18 _ t hp (by omega) w
      have P := pieces_at hhalf 4 s.data.toList h k t ht.out
      obtain ⟨z, hz⟩ : ∃ z, hhalf (pieces hhalf 4 s.data.toList h k) (t.data.toList.take 4) = z := ⟨_, rfl⟩
      rw [hz] at P
      replace P := fun (_ : Unit) => P
      simp only [hz] at c
      clear hz
      generalize pieces hhalf 4 s.data.toList h k = y at *
      go_wp2_with (first | (go_at_call 36; refine (c _).mono ?_; rintro e w' ⟨rfl, m', rfl⟩) | go_in)
      go_roundw
      case rel => exact ⟨k + 1, m + m', t.extract 4 t.size, E.out.1, by rw [(P ()).out], rfl, E.out.2, rfl⟩
      case measure => have es := rest_size t 4; simp only [strOf, es]; omega

set_option maxRecDepth 100000 in
theorem each19 (h : Nat) (s : ByteArray) (hh : h < 18446744073709551616) (w : World) :
    Calls Try.prog 24 #[.int .u64 h, .string s, .int .i64 1, .func (.func 27) #[] #[]] w fun e w' => e = .returned (.tuple #[.int .u64 ((each hsingle 1 h s.data.toList).1 : Nat), .string (bs (each hsingle 1 h s.data.toList).2)]) ∧ ∃ m, w' = w.drewN m := by
  go_enter Try.func24, Try.ntmps24
  go_wp2
  go_loopw [0, 1] (fun hv sv wr => ERel hsingle 1 s.data.toList h w hv sv wr) (fun _ sv _ => strOf sv)
  case atStart => exact ⟨0, 0, s, by omega, rfl, rfl, rfl, rfl⟩
  case round =>
    obtain ⟨k, m, t, hk', rfl, rfl, ht', rfl⟩ := hrel
    have hp : pieces hsingle 1 s.data.toList h k < 18446744073709551616 := pieces_pres (· < 18446744073709551616) hsingle hsingle_lt 1 _ _ hh k
    have hk : Hid (1 * k ≤ s.data.toList.length) := hk'
    have ht : Hid (t.data.toList = s.data.toList.drop (1 * k)) := ht'
    clear hk' ht' hh
    by_cases hlt : t.size < 1
    · have E := hidI (each_end hsingle 1 s.data.toList h k t hk.out ht.out hlt)
      go_wp2
      go_ret2
      exact ⟨ret_pair E.out, m, rfl⟩
    · have E := hidI (each_step 1 k s.data.toList t hk.out ht.out hlt)
      have c := fun w => next19 _ t hp (by omega) w
      have P := pieces_at hsingle 1 s.data.toList h k t ht.out
      obtain ⟨z, hz⟩ : ∃ z, hsingle (pieces hsingle 1 s.data.toList h k) (t.data.toList.take 1) = z := ⟨_, rfl⟩
      rw [hz] at P
      replace P := fun (_ : Unit) => P
      simp only [hz] at c
      clear hz
      generalize pieces hsingle 1 s.data.toList h k = y at *
      go_wp2_with (first | (go_at_call 36; refine (c _).mono ?_; rintro e w' ⟨rfl, m', rfl⟩) | go_in)
      go_roundw
      case rel => exact ⟨k + 1, m + m', t.extract 1 t.size, E.out.1, by rw [(P ()).out], rfl, E.out.2, rfl⟩
      case measure => have es := rest_size t 1; simp only [strOf, es]; omega
end Go.Proofs.Ytlmkdadhdeielaa
