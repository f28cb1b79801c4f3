/-
  The reference's GetWord returns what the plain function says, for every text of at most a million bytes.
-/
import Derived.Test.YtpngpilgbiddgaaRef
namespace Go.Proofs.Ytpngpilgbiddgaa
open Go.ChangeShapes Go.WideShapes Go.ChangeAt Go.RowKit

def agg3 (t : Nat × Nat × Nat) : Value := .agg #[.int .u64 t.1, .int .i64 t.2.1, .int .i64 t.2.2]
theorem ret_agg {t : Nat × Nat × Nat} {a b c : Nat} (h : t = (a, b, c)) : Ending.returned (.agg #[.int .u64 a, .int .i64 b, .int .i64 c]) = .returned (agg3 t) := by rw [h]; rfl
theorem ret_agg' {t : Nat × Nat × Nat} {a b c : Nat} {y : Int} (h : t = (a, b, c)) (hy : y = (b : Int)) : Ending.returned (.agg #[.int .u64 a, .int .i64 y, .int .i64 c]) = .returned (agg3 t) := by rw [h, hy]; rfl

theorem drop_snoc (s : ByteArray) (A k : Nat) (h : A + k < s.size) : (s.data.toList.drop A).take (k + 1) = (s.data.toList.drop A).take k ++ [s[A + k]] := by
  have hk : k < (s.data.toList.drop A).length := by rw [List.length_drop, len_data]; omega
  rw [List.take_succ_eq_append_getElem hk, List.getElem_drop]; rfl
theorem drop_take_len (s : ByteArray) (A k : Nat) (h : A + k ≤ s.size) : ((s.data.toList.drop A).take k).length = k := by
  rw [List.length_take, List.length_drop, len_data]; omega

def GwRel (s : ByteArray) (A : Nat) (nv iv : Value) : Prop := ∃ k : Nat, k ≤ 8 ∧ iv = .int .i64 k ∧ nv = .int .u64 (wval ((s.data.toList.drop A).take k))

set_option maxRecDepth 100000 in
set_option maxHeartbeats 1000000 in
theorem refGetw_any (s : ByteArray) (a : Int) (w : World) (hs : s.size ≤ 1000000) :
    Calls Try.prog 13 #[.string s, .int .i64 a] w fun e w' => e = .returned (agg3 (getAt getw s.data.toList a)) ∧ Below w.heap.size w w' := by
  by_cases h1 : a < 0
  · have N : Hid (getAt getw s.data.toList a = (0, 0, 1)) := getAt_lo getw s a (.inl h1)
    go_enter Try.func13, Try.ntmps13
    go_wp2
    exact bodyPost_ret (v := .agg #[.int .u64 0, .int .i64 0, .int .i64 1]) (by simp [results, Try.results13, go_sem]) rfl ⟨ret_agg N.out, (Below.refl _ _).alloc (Nat.le_refl _) _⟩
  · obtain ⟨A, rfl⟩ := Int.eq_ofNat_of_zero_le (show 0 ≤ a by omega)
    by_cases h2 : s.size < A
    · have N : Hid (getAt getw s.data.toList A = (0, 0, 1)) := getAt_lo getw s A (.inr (by omega))
      go_enter Try.func13, Try.ntmps13
      go_wp2
      exact bodyPost_ret (v := .agg #[.int .u64 0, .int .i64 0, .int .i64 1]) (by simp [results, Try.results13, go_sem]) rfl ⟨ret_agg N.out, (Below.refl _ _).alloc (Nat.le_refl _) _⟩
    · by_cases h3 : s.size < A + 8
      · have N : Hid (getAt getw s.data.toList A = (0, 0, 2)) := by
          refine getAt_no getw s A h1 (by omega) 0 0 2 ?_ (by decide)
          rw [Int.toNat_natCast, getw, if_pos (by rw [List.length_drop, len_data]; omega)]
        go_enter Try.func13, Try.ntmps13
        go_wp2
        exact bodyPost_ret (v := .agg #[.int .u64 0, .int .i64 0, .int .i64 2]) (by simp [results, Try.results13, go_sem]) rfl ⟨ret_agg N.out, (Below.refl _ _).alloc (Nat.le_refl _) _⟩
      · have N : Hid (getAt getw s.data.toList A = (wval ((s.data.toList.drop A).take 8), A + 8, 0)) := by
          refine getAt_ok getw s A h1 (by omega) _ 8 ?_
          rw [Int.toNat_natCast, getw, if_neg (by rw [List.length_drop, len_data]; omega)]
        clear h1
        go_enter Try.func13, Try.ntmps13
        go_wp2
        go_loop [5, 6] (fun nv iv => GwRel s A nv iv) (fun _ iv => 8 - (intOf iv).toNat)
        case atStart => exact ⟨0, by omega, rfl, by simp [wval]⟩
        case round =>
          obtain ⟨k, hk, rfl, rfl⟩ := hrel
          by_cases hlt : k < 8
          · have l2 : A + k < s.size := by omega
            have hb := word_bits ((s.data.toList.drop A).take k) s[A + k] k (drop_take_len s A k (by omega)) (by omega)
            rw [← drop_snoc s A k l2] at hb
            go_wp2
            go_round
            case rel => exact ⟨k + 1, by omega, by go_num, rfl⟩
            case measure => simp [intOf]; omega
          · obtain rfl : k = 8 := by omega
            go_wp2
            exact bodyPost_ret (v := .agg #[.int .u64 (wval ((s.data.toList.drop A).take 8)), .int .i64 ((A : Int) + 8), .int .i64 0]) (by simp [results, Try.results13, go_sem]) rfl ⟨ret_agg' N.out rfl, (Below.refl _ _).alloc (Nat.le_refl _) _⟩
end Go.Proofs.Ytpngpilgbiddgaa
