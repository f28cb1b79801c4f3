/-
  inPieces of package state.
-/
import Derived.Test.YtlmkdadhdeielaaWr
namespace Go.Proofs.Ytlmkdadhdeielaa
open Go.ChangeShapes Go.WideShapes Go.ChangeAt Go.RowKit
open Go.ChangeMaps (open_string shut_string)

def PRel (l : List UInt8) (s : ByteArray) (A seed : Nat) (W : World) (sv zv : Value) (wr : World) : Prop :=
  ∃ (j : Nat) (t : ByteArray), j ≤ s.size ∧ sv = .string t ∧ t.data.toList = s.data.toList.drop j ∧ zv = .int .i64 ((32 - (l.length + j) % 32 : Nat) : Int) ∧ St wr A seed (l ++ s.data.toList.take j) ∧ Chg (· = A) W wr
def strLen : Value → Nat
  | .string t => t.size
  | _ => 0
theorem take_drop_app (l s : List UInt8) (j z : Nat) : l ++ s.take j ++ (s.drop j).take z = l ++ s.take (j + z) := by
  rw [List.append_assoc, List.take_add]
theorem prel_step {l : List UInt8} {s t : ByteArray} {A seed : Nat} {W wr w' : World} {j z : Nat} (ht : t.data.toList = s.data.toList.drop j) (hz : 32 - (l.length + j) % 32 = z) (hj : j + z ≤ s.size)
    (hS : St w' A seed (l ++ s.data.toList.take j ++ (t.extract 0 z).data.toList)) (hC : Chg (· = A) W wr) (hC' : Chg (· = A) wr w') : PRel l s A seed W (.string (t.extract z t.size)) (.int .i64 32) w' := by
  refine ⟨j + z, _, hj, rfl, ?_, ?_, ?_, chg_same hC hC'⟩
  · rw [rest_list, ht, List.drop_drop]
  · rw [show 32 - (l.length + (j + z)) % 32 = 32 from by omega]; rfl
  · rw [cut_list, ht, take_drop_app] at hS; exact hS
set_option maxRecDepth 100000 in
set_option maxHeartbeats 2000000 in
theorem inP_any {W : World} {A seed : Nat} {l : List UInt8} (h : St W A seed l) (s : ByteArray) (hn : l.length + s.size ≤ 1000000) (first : Nat) (hf : 32 - l.length % 32 = first) :
    Calls Try.prog 13 #[.string s, .int .i64 first, .func (.func 8) #[ptr A] #[]] W fun e W' => e = .returned (.tuple #[]) ∧ St W' A seed (l ++ s.data.toList) ∧ Chg (· = A) W W' := by
  have H := hidI h
  have HF := hidI hf
  clear h hf
  have hsl := hidI (len_data s)
  unfold ptr
  go_enter Try.func13, Try.ntmps13
  go_wp2
  go_loopw [0, 6] (fun sv zv wr => PRel l s A seed W sv zv wr) (fun sv _ _ => strLen sv)
  case atStart => exact ⟨0, s, Nat.zero_le _, rfl, rfl, by rw [Nat.add_zero, HF.out], by simpa using H.out, chg_refl _ _⟩
  case round =>
    clear H HF
    obtain ⟨j, t, hj, rfl, ht, rfl, hS, hC⟩ := hrel
    have ts := left_size _ _ _ ht
    rw [hsl.out] at ts
    obtain ⟨z, hz⟩ : ∃ z, 32 - (l.length + j) % 32 = z := ⟨_, rfl⟩
    have hz1 : 1 ≤ z := by omega
    have hz2 : z ≤ 32 := by omega
    rw [hz]
    have hll : (l ++ s.data.toList.take j).length = l.length + j := by rw [List.length_append, List.length_take, hsl.out]; omega
    by_cases hlt : z < t.size
    · have C := write_small hS (t.extract 0 z) (by rw [hll, cut_size t z (by omega)]; omega) (by rw [hll, cut_size t z (by omega)]; omega)
      have HS := hidI (And.intro ht (And.intro hz (And.intro hC ts)))
      clear ht hz hC ts hS hll hj hn
      unfold ptr at C
      go_wp2_with (first | (go_at_call 8; refine C.mono ?_; rintro e w' ⟨rfl, h1, h2⟩; have HW := hidI (And.intro h1 h2); clear h1 h2) | fail)
      go_roundw
      case rel => exact prel_step HS.out.1 HS.out.2.1 (by have h := HS.out.2.2.2; omega) HW.out.1 HS.out.2.2.1 HW.out.2
      case measure => simp only [strLen, rest_size]; omega
    · have C := write_small hS t (by rw [hll]; omega) (by rw [hll]; omega)
      have HS := hidI (And.intro ht hC)
      clear ht hz hC ts hS hll hj hn
      unfold ptr at C
      go_wp2_with (first | (go_at_call 8; refine C.mono ?_; rintro e w' ⟨rfl, h1, h2⟩; have HW := hidI (And.intro h1 h2); clear h1 h2) | fail)
      go_end0
      refine ⟨rfl, ?_, chg_same HS.out.2 HW.out.2⟩
      have h := HW.out.1
      rw [HS.out.1, List.append_assoc, List.take_append_drop] at h
      exact h
end Go.Proofs.Ytlmkdadhdeielaa
