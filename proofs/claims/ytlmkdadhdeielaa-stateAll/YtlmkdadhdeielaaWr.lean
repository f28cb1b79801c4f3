/-
  Write of package state, of a piece that goes not beyond the end of a step.
-/
import Derived.Test.YtlmkdadhdeielaaSu
namespace Go.Proofs.Ytlmkdadhdeielaa
open Go.ChangeShapes Go.WideShapes Go.ChangeAt Go.RowKit
open Go.ChangeMaps (open_string shut_string)

theorem sizeOf5 (w : World) : (Go.sizeOf 5).run Try.prog w = .ok 1 w := by rfl
/-- Some state of this seed, these four, so many that came. -/
def Sx (A seed : Nat) (f : F4) (n : Nat) (V : World) : Prop := ∃ k, Sb V A seed f k n
theorem sx_left {V : World} {A seed n : Nat} {f : F4} (h : Sx A seed f n V) (hn : n ≤ 1000000) : Calls Try.prog 12 #[ptr A] V fun e w' => e = .returned (.int .i64 (n % 32 : Nat)) ∧ w' = V := by
  obtain ⟨k, h⟩ := h
  exact left_any h hn

theorem step_both {W : World} {A seed n : Nat} {f : F4} {k : List UInt8} (h : Sb W A seed f k n) :
    Calls Try.prog 14 #[ptr A] W fun e W' => e = .returned (.tuple #[]) ∧ Sb W' A seed (step4 (if n = 32 then new4 seed else f) k) k n ∧ Chg (· = A) W W' := by
  by_cases hn : n = 32
  · subst hn; rw [if_pos rfl]; exact stepN_any h
  · rw [if_neg hn]; exact stepS_any h hn
set_option maxRecDepth 100000 in
set_option maxHeartbeats 2000000 in
theorem writeA {W : World} {A seed n : Nat} {f : F4} {k : List UInt8} (h : Sb W A seed f k n) (s : ByteArray) (hn : n + s.size ≤ 1000000) (hs : n % 32 + s.size < 32) :
    Calls Try.prog 8 #[ptr A, .string s] W fun e W' => e = .returned (.tuple #[]) ∧ Sb W' A seed f (k.take (n % 32) ++ s.data.toList ++ k.drop (n % 32 + s.data.toList.length)) (n + s.size) ∧ Chg (· = A) W W' := by
  have CL := left_any h (by omega)
  have C1 := fun (V : World) (hV : Sx A seed f n V) => sx_left hV (by omega)
  have X0 : Sx A seed f n W.drew := ⟨k, h⟩
  have hm : n % 32 < 32 := by omega
  have hsl := len_data s
  have R1 : Sb (W.drew.setCells A (5 + n % 32) (s.data.toList.map byteV)) A seed f (k.take (n % 32) ++ s.data.toList ++ k.drop (n % 32 + s.data.toList.length)) n := sb_copy (W := W.drew) h (n % 32) s.data.toList (by omega)
  have R2 : Chg (· = A) W (W.drew.setCells A (5 + n % 32) (s.data.toList.map byteV)) := chg_sets (S := (· = A)) A (fun _ => rfl) _ _ W.drew (chg_drew (chg_refl _ W))
  have X1 : Sx A seed f n (W.drew.setCells A (5 + n % 32) (s.data.toList.map byteV)) := ⟨_, R1⟩
  have RC : (Builtin.copy_ #[32, 9] 3 #[.slice (some ⟨A, 5 + n % 32, none⟩) (32 - n % 32) (32 - n % 32), .string s]).run Try.prog W.drew = .ok (goInt s.size) (W.drew.setCells A (5 + n % 32) (s.data.toList.map byteV)) :=
    run_copy_string W.drew 32 9 3 5 A (5 + n % 32) (32 - n % 32) (32 - n % 32) s Try.underlying32 sizeOf5 (by omega) (fun j hj => sb_there (W := W.drew) h _ (by omega)) (fun j _ => sb_free (W := W.drew) h _)
  generalize W.drew.setCells A (5 + n % 32) (s.data.toList.map byteV) = V1 at *
  generalize k.take (n % 32) ++ s.data.toList ++ k.drop (n % 32 + s.data.toList.length) = k' at *
  generalize n % 32 = m at *
  have m2 : (m : Int) ≤ 32 := by omega
  have m3 : (0 : Int) ≤ (m : Int) := by omega
  have m4 : ¬ 32 - m < s.size := by omega
  have c1 := sb_came R1
  have c2 := sb_free R1
  obtain ⟨N, hN⟩ : ∃ N : Nat, n + s.size = N := ⟨_, rfl⟩
  have e1 : (n : Int) + (s.size : Int) = (N : Int) := by omega
  have hN2 : N ≤ 1000000 := by omega
  have m5 : ¬ s.size = 32 - m := by omega
  rw [hN]
  have H := hidI (And.intro R1 (And.intro R2 hN))
  clear R1 R2 h hN
  replace X0 := hidI X0
  replace X1 := hidI X1
  unfold ptr at *
  go_enter Try.func8, Try.ntmps8
  go_wp2_with (first | (go_at_call 12; refine CL.mono ?_; rintro e w' ⟨rfl, rfl⟩) | fail)
  go_region_held3 (fun V => Sx A seed f n V) (first | exact X0.out | assumption | exact X1.out) (first | (go_at_call 12; refine (C1 _ (by assumption)).mono ?_; rintro e w4 ⟨rfl, rfl⟩))
  all_goals
    clear C1 CL RC
    go_wp2_with fail
    go_end0
    exact ⟨rfl, sb_setn H.out.1 N, chg_set H.out.2.1 _ _ (fun _ => rfl)⟩
set_option maxRecDepth 100000 in
set_option maxHeartbeats 2000000 in
theorem writeB {W : World} {A seed n : Nat} {f : F4} {k : List UInt8} (h : Sb W A seed f k n) (s : ByteArray) (hn : n + s.size ≤ 1000000) (hs : n % 32 + s.size = 32) :
    Calls Try.prog 8 #[ptr A, .string s] W fun e W' => e = .returned (.tuple #[]) ∧ Sb W' A seed (step4 (if n + s.size = 32 then new4 seed else f) (k.take (n % 32) ++ s.data.toList ++ k.drop (n % 32 + s.data.toList.length))) (k.take (n % 32) ++ s.data.toList ++ k.drop (n % 32 + s.data.toList.length)) (n + s.size) ∧ Chg (· = A) W W' := by
  have CL := left_any h (by omega)
  have C1 := fun (V : World) (hV : Sx A seed f n V) => sx_left hV (by omega)
  have X0 : Sx A seed f n W.drew := ⟨k, h⟩
  have hm : n % 32 < 32 := by omega
  have hsl := len_data s
  have R1 : Sb (W.drew.setCells A (5 + n % 32) (s.data.toList.map byteV)) A seed f (k.take (n % 32) ++ s.data.toList ++ k.drop (n % 32 + s.data.toList.length)) n := sb_copy (W := W.drew) h (n % 32) s.data.toList (by omega)
  have R2 : Chg (· = A) W (W.drew.setCells A (5 + n % 32) (s.data.toList.map byteV)) := chg_sets (S := (· = A)) A (fun _ => rfl) _ _ W.drew (chg_drew (chg_refl _ W))
  have X1 : Sx A seed f n (W.drew.setCells A (5 + n % 32) (s.data.toList.map byteV)) := ⟨_, R1⟩
  have RC : (Builtin.copy_ #[32, 9] 3 #[.slice (some ⟨A, 5 + n % 32, none⟩) (32 - n % 32) (32 - n % 32), .string s]).run Try.prog W.drew = .ok (goInt s.size) (W.drew.setCells A (5 + n % 32) (s.data.toList.map byteV)) :=
    run_copy_string W.drew 32 9 3 5 A (5 + n % 32) (32 - n % 32) (32 - n % 32) s Try.underlying32 sizeOf5 (by omega) (fun j hj => sb_there (W := W.drew) h _ (by omega)) (fun j _ => sb_free (W := W.drew) h _)
  generalize W.drew.setCells A (5 + n % 32) (s.data.toList.map byteV) = V1 at *
  generalize k.take (n % 32) ++ s.data.toList ++ k.drop (n % 32 + s.data.toList.length) = k' at *
  generalize n % 32 = m at *
  have m2 : (m : Int) ≤ 32 := by omega
  have m3 : (0 : Int) ≤ (m : Int) := by omega
  have m4 : ¬ 32 - m < s.size := by omega
  have c1 := sb_came R1
  have c2 := sb_free R1
  obtain ⟨N, hN⟩ : ∃ N : Nat, n + s.size = N := ⟨_, rfl⟩
  have e1 : (n : Int) + (s.size : Int) = (N : Int) := by omega
  have hN2 : N ≤ 1000000 := by omega
  have m6 : ((s.size : Int) == 32 - (m : Int)) = true := by simp; omega
  have C14 : Calls Try.prog 14 #[ptr A] (V1.setCell ⟨A, 37, none⟩ (.int .i64 N)) fun e W' => e = .returned (.tuple #[]) ∧ Sb W' A seed (step4 (if N = 32 then new4 seed else f) k') k' N ∧ Chg (· = A) (V1.setCell ⟨A, 37, none⟩ (.int .i64 N)) W' := step_both (sb_setn R1 N)
  rw [hN]
  generalize step4 (if N = 32 then new4 seed else f) k' = z at *
  have H := hidI (And.intro R1 (And.intro R2 hN))
  clear R1 R2 h hN
  replace X0 := hidI X0
  replace X1 := hidI X1
  unfold ptr at *
  go_enter Try.func8, Try.ntmps8
  go_wp2_with (first | (go_at_call 12; refine CL.mono ?_; rintro e w' ⟨rfl, rfl⟩) | fail)
  go_region_held3 (fun V => Sx A seed f n V) (first | exact X0.out | assumption | exact X1.out) (first | (go_at_call 12; refine (C1 _ (by assumption)).mono ?_; rintro e w4 ⟨rfl, rfl⟩))
  all_goals
    clear C1 CL RC
    go_wp2_with fail
    refine C14.mono ?_
    rintro e w5 ⟨rfl, h1, h2⟩
    replace h1 := hidI (And.intro h1 h2)
    clear h2
    go_wp2
    go_end0
    exact ⟨rfl, h1.out.1, chg_same (chg_set H.out.2.1 _ _ (fun _ => rfl)) h1.out.2⟩

/-- A piece that goes not beyond the end of a step. -/
theorem write_small {W : World} {A seed : Nat} {l : List UInt8} (h : St W A seed l) (s : ByteArray) (hn : l.length + s.size ≤ 1000000) (hs : l.length % 32 + s.size ≤ 32) :
    Calls Try.prog 8 #[ptr A, .string s] W fun e W' => e = .returned (.tuple #[]) ∧ St W' A seed (l ++ s.data.toList) ∧ Chg (· = A) W W' := by
  obtain ⟨h0, f, k, h, h1, h2⟩ := h
  have hsl := len_data s
  have hk : l.length % 32 ≤ k.length := by rw [h.2]; omega
  by_cases hlt : l.length % 32 + s.size < 32
  · refine (writeA h s hn hlt).mono ?_
    rintro e W' ⟨rfl, g1, g2⟩
    refine ⟨rfl, ⟨h0, f, _, by rw [List.length_append, hsl]; exact g1, ?_, ?_⟩, g2⟩
    · rw [rest_app l s.data.toList (by omega), List.length_append, show (l.length + s.data.toList.length) % 32 = l.length % 32 + s.data.toList.length from by omega]
      exact kept_app k (rest l) s.data.toList _ hk h1
    · intro hh
      rw [List.length_append] at hh
      rw [four4_app seed l s.data.toList (by omega)]
      exact h2 (by omega)
  · refine (writeB h s hn (by omega)).mono ?_
    rintro e W' ⟨rfl, g1, g2⟩
    refine ⟨rfl, ⟨h0, _, _, by rw [List.length_append, hsl]; exact g1, ?_, ?_⟩, g2⟩
    · rw [rest_full l s.data.toList (by omega), List.length_append, show (l.length + s.data.toList.length) % 32 = 0 from by omega]
      rfl
    · intro _
      rw [four4_full seed l s.data.toList (by omega), kept_full k (rest l) s.data.toList _ h1 (by rw [h.2]; omega)]
      by_cases h32 : l.length + s.size = 32
      · rw [if_pos h32]
        by_cases hl0 : l.length < 32
        · rw [four4_few seed l hl0]
        · exfalso; omega
      · rw [if_neg h32, h2 (by omega)]
end Go.Proofs.Ytlmkdadhdeielaa
