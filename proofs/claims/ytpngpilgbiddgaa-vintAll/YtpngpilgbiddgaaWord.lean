/-
  The number told in eight bytes: package vint, Word, for every number; what it makes lies in new memory.
-/
import Derived.Test.YtpngpilgbiddgaaPut
namespace Go.Proofs.Ytpngpilgbiddgaa
open Go.ChangeShapes Go.WideShapes Go.ChangeAt Go.RowKit

def WordRel (n : Nat) (w : World) (iv : Value) (wr : World) : Prop :=
  ∃ k : Nat, k ≤ 8 ∧ iv = .int .i64 k ∧ Room w.heap.size w wr 8 ((wd n).take k)

theorem room_zero8 (w : World) : Room w.heap.size w (w.alloc (.cells #[.int .u8 0, .int .u8 0, .int .u8 0, .int .u8 0, .int .u8 0, .int .u8 0, .int .u8 0, .int .u8 0] 46)) 8 [] := by
  refine ⟨fun j hj => ⟨?_, World.frozen?_alloc_at _ _ _ _ rfl⟩, fun j hj => by simp at hj, (Below.refl _ _).alloc (Nat.le_refl _) _, by simp⟩
  rw [World.cell?_alloc_at _ _ _ _ rfl]
  simp; omega

theorem wd_take (n k : Nat) (hk : k < 8) : (wd n).take (k + 1) = (wd n).take k ++ [UInt8.ofNat (n / 256 ^ k % 256)] := by
  rw [List.take_add_one, wd, wdF_get 8 n k hk]; rfl

theorem shr_byte (n k : Nat) : (n : Int) / 2 ^ (8 * k) % 256 = ((UInt8.ofNat (n / 256 ^ k % 256)).toNat : Int) := by
  rw [u8_of _ (by omega)]
  have : (2 : Int) ^ (8 * k) = ((256 ^ k : Nat) : Int) := by rw [show (256 : Nat) = 2 ^ 8 from rfl, ← Nat.pow_mul]; simp
  rw [this, ← Int.natCast_ediv]
  omega

set_option maxRecDepth 100000 in
set_option maxHeartbeats 1000000 in
theorem word_any (n : Nat) (h : n < 18446744073709551616) (w : World) :
    Calls Try.prog 16 #[.int .u64 n] w fun e w' => e = .returned (.string (bs (wd n))) ∧ Below w.heap.size w w' := by
  have H : Hid (n < 18446744073709551616) := h
  clear h
  go_enter Try.func16, Try.ntmps16
  go_wp2
  go_loopw [5] (fun iv wr => WordRel n w iv wr) (fun iv _ => 8 - (intOf iv).toNat)
  case atStart => exact ⟨0, by omega, rfl, room_zero8 w⟩
  case round =>
    obtain ⟨k, hk, rfl, hr⟩ := hrel
    by_cases hlt : k < 8
    · obtain ⟨u, r1⟩ := Option.isSome_iff_exists.1 (hr.1 _ hlt).1
      have r2 : wr.frozen? ⟨w.heap.size, k, none⟩ = false := (hr.1 _ hlt).2
      go_wp2
      go_roundw
      case rel =>
        refine ⟨k + 1, by omega, by go_num, ?_⟩
        have hl : ((wd n).take k).length = k := by rw [List.length_take, wd_len]; omega
        have := room_set hr (by omega) _ _ (shr_byte n k)
        rw [hl] at this
        rw [wd_take n k hlt]
        exact this
      case measure => simp [intOf]; omega
    · obtain rfl : k = 8 := by omega
      have e : (wd n).take 8 = wd n := List.take_of_length_le (by rw [wd_len]; omega)
      have R : Room w.heap.size w wr 8 (wd n) := by rw [← e]; exact hr
      have hcv := room_string R 8 (by rw [wd_len])
      have hb : Below w.heap.size w wr := R.2.2.1
      clear R hr e
      go_wp2
      go_ret
      exact ⟨rfl, hb⟩

end Go.Proofs.Ytpngpilgbiddgaa
