/-
  The reference's bits of bytes, the number of bits, its reader made.
-/
import Derived.Test.YtjojofcajabkeaaRefB
namespace Go.Proofs.Ytjojofcajabkeaa
open Go.ChangeShapes Go.WideShapes Go.ChangeAt Go.RowKit
open Go.ChangeMaps (open_string shut_string)

/-- A slice of n bits, those of X from the place a on. -/
def Bts (W : World) (v : Value) (X a n : Nat) : Prop :=
  ∃ s cap, v = .slice s n cap ∧ ∀ j, j < n → ∃ ad : Addr, s = some ad ∧ W.cell? (ad.add j) = some (.int .u8 (got X (a + j) 1 : Nat))

def NmRel (X a n : Nat) (nv iv : Value) : Prop := ∃ i : Nat, i ≤ n ∧ iv = .int .i64 i ∧ nv = .int .u64 (got X a i : Nat)

set_option maxRecDepth 100000 in
theorem number_any (v : Value) (X a n : Nat) (W : World) (hn : n ≤ 64) (h : Bts W v X a n) :
    Calls Try.prog 26 #[v] W fun e W' => e = .returned (.int .u64 (got X a n : Nat)) ∧ W = W' := by
  obtain ⟨s, cap, rfl, hc⟩ := h
  have HC := Hid.intro hc
  clear hc
  go_enter Try.func26, Try.ntmps26
  go_wp2
  go_loop [3, 4] (fun nv iv => NmRel X a n nv iv) (fun _ iv => n - (intOf iv).toNat)
  case atStart => exact ⟨0, by omega, rfl, by rw [got_zero]; rfl⟩
  case round =>
    obtain ⟨i, hi, rfl, rfl⟩ := hrel
    by_cases hlt : i < n
    · obtain ⟨ad, rfl, hc⟩ := HC.out i hlt
      have hj := u64_join (got X a i) (got X (a + i) 1) i 1 (got_lt _ _ _) (got_lt _ _ _) (by omega)
      rw [← got_two, ← IntKind.wrap_u64] at hj
      have hb := got_lt X (a + i) 1
      have hb2 : got X (a + i) 1 < 2 := by simpa using hb
      clear hb
      generalize got X (a + i) 1 = b at *
      generalize hz : got X a (i + 1) = z at *
      have HZ := Hid.intro hz
      clear hz
      go_wp2
      go_round
      case rel => exact ⟨i + 1, by omega, by go_num, by rw [HZ.out]⟩
      case measure => simp [intOf]; omega
    · obtain rfl : i = n := by omega
      go_wp2
      go_ret
      exact ⟨rfl, rfl⟩

/-- A row of k bits of X that the call has made. -/
def Bs (W W' : World) (v : Value) (X k : Nat) : Prop := W'.ownsRow 0 5 1 v k ((bit X k).map byteV) ∧ Chg (fun _ => False) W W' ∧ Moved W (.slice none 0 0) v
def BoRel (s : ByteArray) (W : World) (lv iv : Value) (wr : World) : Prop := ∃ i : Nat, i ≤ s.size ∧ iv = .int .i64 i ∧ Bs W wr lv (le s.data.toList) (8 * i)
def BiRel (s : ByteArray) (i : Nat) (W : World) (lv kv : Value) (wr : World) : Prop := ∃ k : Nat, k ≤ 8 ∧ kv = .int .i64 k ∧ Bs W wr lv (le s.data.toList) (8 * i + k)

theorem and_one8 (y : Nat) (h : y < 256) : bits .and .u8 (y : Int) 1 = ((y % 2 : Nat) : Int) := by
  rw [show (1 : Int) = ((1 : Nat) : Int) from rfl, u8_and_nat _ _ h (by decide), Nat.and_one_is_mod]

theorem bs_push {W wr w1 w2 : World} {v v' : Value} {X k : Nat} {b : Nat} (h : Bs W wr v X k) (h1 : Chg (fun _ => False) wr w1) (hb : b = X / 2 ^ k % 2)
    (g1 : w2.ownsRow 0 5 1 v' (k + 1) ((bit X k ++ [UInt8.ofNat b]).map byteV)) (g2 : w1.grownBy w2 v.ownBlock) (g3 : Moved w1 v v') : Bs W w2 v' X (k + 1) := by
  have c1 : Chg (fun _ => False) W w1 := chg_trans h.2.1 h1 (fun _ _ h => h)
  have key : ∀ k, v.ownBlock = some k → W.heap.size ≤ k := fun k hk => (h.2.2 k hk).elim (fun e => by simp [Value.ownBlock] at e) id
  refine ⟨by rw [bit_snoc, ← hb]; exact g1, chg_grown c1 g2 (fun k hk hlt => by have := key k hk; omega), fun k hk => .inr ?_⟩
  rcases g3 k hk with e | e
  · exact key k e
  · exact Nat.le_trans (chg_size c1) e

set_option maxRecDepth 100000 in
set_option maxHeartbeats 1000000 in
theorem bits_any (s : ByteArray) (W : World) (hs : s.size ≤ 10000) :
    Calls Try.prog 22 #[.string s] W fun e W' => ∃ v, e = .returned v ∧ Bs W W' v (le s.data.toList) (8 * s.size) := by
  obtain ⟨i0, hi0, hz0, hz1, hz2⟩ := info_parts info5
  go_enter Try.func22, Try.ntmps22
  go_wp2
  go_loopw [3, 4] (fun lv iv wr => BoRel s W lv iv wr) (fun _ iv _ => s.size - (intOf iv).toNat)
  case atStart => exact ⟨0, by omega, rfl, World.ownsRow_nil _ _ _ _, chg_refl _ _, fun k hk => .inl hk⟩
  case round =>
    obtain ⟨i, hi, rfl, d1⟩ := hrel
    by_cases hlt : i < s.size
    · go_wp2
      go_loopw [3, 5] (fun lv kv wr => BiRel s i W lv kv wr) (fun _ kv _ => 8 - (intOf kv).toNat)
      case atStart => exact ⟨0, by omega, rfl, d1⟩
      case round =>
        clear d1
        obtain ⟨k, hk, rfl, d1⟩ := hrel
        by_cases hk8 : k < 8
        · have hG := got_byte s.data.toList (8 * i + k) 1 (by rw [len_data]; omega) (by omega)
          have hG2 : Hid ((le s.data.toList) / 2 ^ (8 * i + k) % 2 = s[i].toNat / 2 ^ k % 2) := by
            show _ = _
            unfold got at hG
            have hG3 : le s.data.toList / 2 ^ (8 * i + k) % 2 = s.data[i].toNat / 2 ^ k % 2 := by simpa [show (8 * i + k) / 8 = i from by omega, show (8 * i + k) % 8 = k from by omega] using hG
            exact hG3
          have hc := UInt8.toNat_lt s[i]
          have hd : ((s[i].toNat : Int) / 2 ^ k) = ((s[i].toNat / 2 ^ k : Nat) : Int) := by simp
          have hband := and_one8 (s[i].toNat / 2 ^ k) (Nat.lt_of_le_of_lt (Nat.div_le_self _ _) hc)
          clear hG
          generalize hb : s[i].toNat / 2 ^ k % 2 = b at hG2 hband
          have hb2 : b < 2 := by rw [← hb]; exact Nat.mod_lt _ (by decide)
          clear hb
          generalize s[i].toNat / 2 ^ k = y at *
          go_wp2_with (at_builtin; refine wpList_push _ rfl (.tmp 16) (.tmp 23) 40 rfl i0 Try.underlying40 hi0 hz0 hz1 hz2 u3 (8 * i + k) (bit (le s.data.toList) (8 * i + k)) rfl (World.ownsRow.alloc d1.1 _) (by omega) ⟨wr.heap.size, 0, none⟩ b (UInt8.ofNat b) (by rw [u8_of _ (by omega)]) rfl (by simp) ?_)
          intro v' w2 g1 g2 g3
          have d2 : Bs W w2 v' (le s.data.toList) (8 * i + k + 1) := bs_push d1 (chg_alloc (chg_refl _ _) _) hG2.out.symm (by simpa using g1) g2 g3
          clear g1 g2 g3 d1 hG2 hband hd
          go_wp2
          go_roundw
          case rel => exact ⟨k + 1, by omega, by go_num, d2⟩
          case measure => simp [intOf]; omega
        · obtain rfl : k = 8 := by omega
          go_wp2
          go_roundw
          case rel => exact ⟨i + 1, by omega, by go_num, d1⟩
          case measure => simp [intOf]; omega
    · obtain rfl : i = s.size := by omega
      go_wp2
      go_ret
      exact ⟨u3, rfl, d1⟩

theorem own_val {W : World} {v : Value} {n : Nat} {xs : List Value} (h : W.ownsRow 0 5 1 v n xs) : ∃ a cap, v = .slice a n cap := by
  rcases h.2 with ⟨hv, h0⟩ | ⟨g, cap, cur, hv, _⟩
  · exact ⟨none, 0, by rw [hv, h0]⟩
  · exact ⟨_, cap, hv⟩

end Go.Proofs.Ytjojofcajabkeaa
