/-
  The readings of a text's bytes: package vint, number, ended, word, read, Get, GetWord, for every text of less than a million bytes.
-/
import Derived.Test.YtofclflcicjlaaaGreatPutvw
import Derived.Test.YtofclflcicjlaaaGreatLy
import Derived.Test.YtofclflcicjlaaaGreatSc
import Derived.Test.YtofclflcicjlaaaGreatSg
import Derived.Test.YtofclflcicjlaaaGreatBuh
import Derived.Test.YtofclflcicjlaaaGreatRefHxh
import Derived.Test.YtofclflcicjlaaaGreatPuh
import Derived.Test.YtofclflcicjlaaaGreatRpyh
import Derived.Test.YtofclflcicjlaaaGreatTyh
import Derived.Test.YtofclflcicjlaaaGreatRdb
import Derived.Laws.OwnMore
namespace Go.Proofs.YtofclflcicjlaaaGreat
set_option maxRecDepth 100000
open Go.ChangeShapes Go.WideShapes Go.ChangeAt Go.RowKit

theorem pow_lt63 (k : Nat) (hk : k ≤ 63) : (2 : Nat) ^ k ≤ 9223372036854775808 := by
  have h : (2 : Nat) ^ k ≤ 2 ^ 63 := Nat.pow_le_pow_right (by decide) hk
  have e : (2 : Nat) ^ 63 = 9223372036854775808 := by decide
  omega

theorem or_shl (a x k : Nat) (ha : a < 2 ^ k) (hk : k ≤ 63) : bits .or .u64 (a : Int) (IntKind.u64.wrap ((x : Int) * 2 ^ k)) = ((a + x * 2 ^ k % 18446744073709551616 : Nat) : Int) := by
  have e : IntKind.u64.wrap ((x : Int) * 2 ^ k) = ((x * 2 ^ k % 18446744073709551616 : Nat) : Int) := by
    have : (x : Int) * 2 ^ k = ((x * 2 ^ k : Nat) : Int) := by simp
    rw [this]
    simp only [IntKind.wrap, IntKind.bits, IntKind.signed]
    simp
  have h := pow_lt63 k hk
  rw [e, u64_or_nat a _ (by omega) (Nat.mod_lt _ (by decide)), shl_mod x k (by omega), or_hi a _ k ha]

theorem andNot128 (c : UInt8) : bits .andNot .u8 (c.toNat : Int) 128 = ((c.toNat % 128 : Nat) : Int) := by
  have := c.toNat_lt
  rw [show (128 : Int) = ((128 : Nat) : Int) from rfl, u8_andNot_nat _ _ (by omega) (by omega), nat_mask7]
theorem and127 (c : UInt8) : bits .and .u8 (c.toNat : Int) 127 = ((c.toNat % 128 : Nat) : Int) := by
  have := c.toNat_lt
  rw [show (127 : Int) = ((127 : Nat) : Int) from rfl, u8_and_nat _ _ (by omega) (by omega), nat_mask7]
theorem wrap_small (x : Nat) (h : x < 256) : IntKind.u64.wrap (x : Int) = (x : Int) := by
  simp only [IntKind.wrap, IntKind.bits, IntKind.signed]; simp; omega
theorem pow128 (k : Nat) : (2 : Nat) ^ (7 * k) = 128 ^ k := by rw [Nat.pow_mul]
/-- One byte more, seven bits of it, above those that were read. -/
theorem num_bits (l : List UInt8) (c : UInt8) (k : Nat) (hl : l.length = k) (hk : k ≤ 9) :
    bits .or .u64 (val l : Int) (IntKind.u64.wrap (IntKind.u64.wrap (bits .andNot .u8 (c.toNat : Int) 128) * 2 ^ (7 * k))) = ((val l + c.toNat % 128 * 128 ^ k % 18446744073709551616 : Nat) : Int) := by
  have h := val_lt l
  rw [hl] at h
  rw [andNot128, wrap_small _ (by omega), or_shl _ _ _ (by rw [pow128]; exact h) (by omega), pow128]
theorem num_bits' (l : List UInt8) (c : UInt8) (k : Nat) (hl : l.length = k) (hk : k ≤ 9) :
    bits .or .u64 (val l : Int) (IntKind.u64.wrap (IntKind.u64.wrap (bits .and .u8 (c.toNat : Int) 127) * 2 ^ (7 * k))) = ((val l + c.toNat % 128 * 128 ^ k % 18446744073709551616 : Nat) : Int) := by
  have h := val_lt l
  rw [hl] at h
  rw [and127, wrap_small _ (by omega), or_shl _ _ _ (by rw [pow128]; exact h) (by omega), pow128]

theorem take_snocv (s : ByteArray) (k : Nat) (h : k < s.size) : s.data.toList.take (k + 1) = s.data.toList.take k ++ [s[k]] := by
  rw [List.take_succ_eq_append_getElem (by simpa using h)]; rfl
theorem take_len (s : ByteArray) (k : Nat) (h : k ≤ s.size) : (s.data.toList.take k).length = k := by
  rw [List.length_take, Array.length_toList]; exact Nat.min_eq_left h
theorem split_at (s : ByteArray) (k : Nat) (h : k < s.size) : s.data.toList = s.data.toList.take k ++ (s[k] :: s.data.toList.drop (k + 1)) := by
  have e : s[k] :: s.data.toList.drop (k + 1) = s.data.toList.drop k := by
    rw [List.drop_eq_getElem_cons (i := k) (by simpa using h)]; rfl
  rw [e, List.take_append_drop]

theorem num_stop (s : ByteArray) (k : Nat) (hk : k < s.size) (hk10 : k < 10) (hp : ∀ c ∈ s.data.toList.take k, 128 ≤ c.toNat) (hc : s[k].toNat < 128) :
    numb s.data.toList = endd (val (s.data.toList.take k) + s[k].toNat * 128 ^ k % 18446744073709551616) k s[k].toNat := by
  have hl := take_len s k (by omega)
  rw [split_at s k hk, numb_at _ _ hp (by omega), hl]
  obtain ⟨f, hf⟩ : ∃ f, 10 - k = f + 1 := ⟨9 - k, by omega⟩
  rw [hf, numF, if_pos hc]
  rw [← split_at s k hk]

theorem num_more (s : ByteArray) (hs : s.size < 10) (hp : ∀ c ∈ s.data.toList.take s.size, 128 ≤ c.toNat) : numb s.data.toList = (0, 0, 2) := by
  have e : s.data.toList.take s.size = s.data.toList := List.take_of_length_le (by rw [Array.length_toList]; exact Nat.le_refl _)
  rw [e] at hp
  have hl : s.data.toList.length = s.size := Array.length_toList
  have := numb_at s.data.toList [] hp (by omega)
  rw [List.append_nil] at this
  rw [this, hl]
  obtain ⟨f, hf⟩ : ∃ f, 10 - s.size = f + 1 := ⟨9 - s.size, by omega⟩
  rw [hf, numF]
theorem num_form (s : ByteArray) (hs : 10 ≤ s.size) (hp : ∀ c ∈ s.data.toList.take 10, 128 ≤ c.toNat) : numb s.data.toList = (0, 0, 3) := by
  have hl := take_len s 10 hs
  have := numb_at (s.data.toList.take 10) (s.data.toList.drop 10) hp (by omega)
  rw [List.take_append_drop] at this
  rw [this, hl, numF]

theorem num_rel_step (s : ByteArray) (k : Nat) (hk : k < s.size) (hp : ∀ c ∈ s.data.toList.take k, 128 ≤ c.toNat) (hc : ¬ s[k].toNat < 128) :
    ∀ c ∈ s.data.toList.take (k + 1), 128 ≤ c.toNat := by
  intro c hmem
  rw [take_snocv s k hk, List.mem_append] at hmem
  rcases hmem with hm | hm
  · exact hp c hm
  · simp at hm; subst hm; omega
theorem val_step (s : ByteArray) (k : Nat) (hk : k < s.size) (h9 : k + 1 ≤ 9) :
    val (s.data.toList.take k) + s[k].toNat % 128 * 128 ^ k % 18446744073709551616 = val (s.data.toList.take (k + 1)) := by
  rw [take_snocv s k hk, val_snoc, take_len s k (by omega)]
  congr 1
  apply Nat.mod_eq_of_lt
  have h1 : (128 : Nat) ^ k ≤ 128 ^ 8 := Nat.pow_le_pow_right (by decide) (by omega)
  have h2 : s[k].toNat % 128 * 128 ^ k ≤ 127 * 128 ^ 8 := Nat.mul_le_mul (by omega) h1
  have e : (128 : Nat) ^ 8 = 72057594037927936 := by decide
  rw [e] at h2
  omega

def badEnd (i c : Nat) : Prop := (0 < i ∧ c = 0) ∨ (i = 9 ∧ 1 < c)
theorem endd_bad (n i c : Nat) (h : badEnd i c) : endd n i c = (0, 0, 3) := by unfold badEnd at h; unfold endd; rw [if_pos h]
theorem endd_good (n i c : Nat) (h : ¬ badEnd i c) : endd n i c = (n, i + 1, 0) := by unfold badEnd at h; unfold endd; rw [if_neg h]

theorem ended_bad (n : Int) (i c : Nat) (w : World) (hi : i ≤ 9) (hc : c < 128) (h : badEnd i c) :
    Calls Tryz.prog 119 #[.int .u64 n, .int .i64 i, .int .u8 c] w fun e w' => e = .returned (.tuple #[.int .u64 0, .int .i64 0, .int .i64 3]) ∧ w' = w := by
  rcases h with ⟨h1, h2⟩ | ⟨h1, h2⟩
  · subst h2
    go_enter Tryz.func119, Tryz.ntmps119
    go_wp2
    go_ret3
    exact ⟨rfl, rfl⟩
  · subst h1
    by_cases h0 : c = 0
    · omega
    · go_enter Tryz.func119, Tryz.ntmps119
      go_wp2
      go_ret3
      exact ⟨rfl, rfl⟩
theorem ended_good (n : Int) (i c : Nat) (w : World) (hi : i ≤ 9) (hc : c < 128) (h : ¬ badEnd i c) :
    Calls Tryz.prog 119 #[.int .u64 n, .int .i64 i, .int .u8 c] w fun e w' => e = .returned (.tuple #[.int .u64 n, .int .i64 (i + 1), .int .i64 0]) ∧ w' = w := by
  unfold badEnd at h
  by_cases h1 : 0 < i
  · have h2 : c ≠ 0 := fun e => h (.inl ⟨h1, e⟩)
    by_cases h9 : i = 9
    · subst h9
      obtain rfl : c = 1 := by omega
      clear h
      go_enter Tryz.func119, Tryz.ntmps119
      go_wp2
      go_ret3
      exact ⟨rfl, rfl⟩
    · clear h
      go_enter Tryz.func119, Tryz.ntmps119
      go_wp2
      go_ret3
      exact ⟨rfl, rfl⟩
  · obtain rfl : i = 0 := by omega
    clear h
    go_enter Tryz.func119, Tryz.ntmps119
    go_wp2
    go_ret3
    exact ⟨rfl, rfl⟩

def NumRel (s : ByteArray) (nv iv : Value) : Prop :=
  ∃ k x : Nat, k ≤ s.size ∧ k ≤ 10 ∧ iv = .int .i64 k ∧ (∀ c ∈ s.data.toList.take k, 128 ≤ c.toNat) ∧ nv = .int .u64 x ∧ (k ≤ 9 → x = val (s.data.toList.take k))

def tri (t : Nat × Nat × Nat) : Value := .tuple #[.int .u64 t.1, .int .i64 t.2.1, .int .i64 t.2.2]
theorem ret_tri {t : Nat × Nat × Nat} {a b c : Nat} (h : t = (a, b, c)) : Ending.returned (.tuple #[.int .u64 a, .int .i64 b, .int .i64 c]) = .returned (tri t) := by rw [h]; rfl

set_option maxRecDepth 100000 in
set_option maxHeartbeats 1000000 in
theorem number_anyv (s : ByteArray) (w : World) (hs : s.size ≤ 9223372036854775807) :
    Calls Tryz.prog 110 #[.string s] w fun e w' => e = .returned (tri (numb s.data.toList)) ∧ w' = w := by
  go_enter Tryz.func110, Tryz.ntmps110
  go_wp2
  all_goals
    go_loop [5, 11] (fun nv iv => NumRel s nv iv) (fun _ iv => 10 - (intOf iv).toNat)
    case atStart => exact ⟨0, 0, by omega, by omega, rfl, by simp, rfl, by simp [val]⟩
    case round =>
      obtain ⟨k, x, hk, hk10, rfl, hp, rfl, hx⟩ := hrel
      by_cases hlt : k < 10 ∧ k < s.size
      · obtain ⟨l1, l2⟩ := hlt
        obtain rfl := hx (by omega)
        have hb := num_bits (s.data.toList.take k) s[k] k (take_len s k (by omega)) (by omega)
        clear hx
        by_cases hc : s[k].toNat < 128
        · have N : Hid (numb s.data.toList = endd (val (s.data.toList.take k) + s[k].toNat * 128 ^ k % 18446744073709551616) k s[k].toNat) := num_stop s k l2 l1 hp hc
          rw [Nat.mod_eq_of_lt hc] at hb
          by_cases hbad : badEnd k s[k].toNat
          · go_wp2_with (first | (go_at_call 119; refine (ended_bad _ k s[k].toNat _ (by omega) hc hbad).mono ?_; rintro e w' ⟨rfl, rfl⟩) | go_in)
            go_ret3
            exact ⟨ret_tri (N.out.trans (endd_bad _ _ _ hbad)), rfl⟩
          · go_wp2_with (first | (go_at_call 119; refine (ended_good _ k s[k].toNat _ (by omega) hc hbad).mono ?_; rintro e w' ⟨rfl, rfl⟩) | go_in)
            go_ret3
            exact ⟨ret_tri (b := k + 1) (N.out.trans (endd_good _ _ _ hbad)), rfl⟩
        · go_wp2
          go_round
          case rel => exact ⟨k + 1, _, by omega, by omega, by go_num, num_rel_step s k l2 hp hc, rfl, fun h9 => val_step s k l2 h9⟩
          case measure => simp [intOf]; omega
      · by_cases h10 : s.size < 10
        · obtain rfl : k = s.size := by omega
          have N : Hid (numb s.data.toList = (0, 0, 2)) := num_more s h10 hp
          clear hx
          go_wp2
          all_goals
            go_ret3
            exact ⟨ret_tri N.out, rfl⟩
        · obtain rfl : k = 10 := by omega
          have N : Hid (numb s.data.toList = (0, 0, 3)) := num_form s (by omega) hp
          clear hx
          go_wp2
          all_goals
            go_ret3
            exact ⟨ret_tri N.out, rfl⟩
end Go.Proofs.YtofclflcicjlaaaGreat
