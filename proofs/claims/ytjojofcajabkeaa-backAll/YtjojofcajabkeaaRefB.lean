/-
  The reference's row of bits: its bytes.
-/
import Derived.Test.YtjojofcajabkeaaRefPut
import Derived.OwnWalk
namespace Go.Proofs.Ytjojofcajabkeaa
open Go.ChangeShapes Go.WideShapes Go.ChangeAt Go.RowKit
open Go.ChangeMaps (open_string shut_string)

def RbRel (A : Nat) (v : Value) (sz N q G : Nat) (W : World) (iv : Value) (wr : World) : Prop :=
  ∃ (i : Nat), i ≤ sz ∧ iv = .int .i64 i ∧ wr.ownsRow 0 5 1 (.slice (some ⟨G, 0, none⟩) q q) q ((byt (N % 2 ^ i) q).map byteV) ∧ Ro wr A v sz N ∧ Chg (fun _ => False) W wr

theorem ro_kept {W W' : World} {S : Nat → Prop} {A : Nat} {v : Value} {sz N : Nat} (h : Ro W A v sz N) (g : Chg S W W') (hS : ∀ k, foot A v k → ¬ S k) : Ro W' A v sz N :=
  ⟨blk_kept h.1 g (hS A (.inl rfl)), own_kept h.2.1 g (fun k hk => hS k (.inr hk)), h.2.2.1, h.2.2.2⟩
theorem ro_lt {W : World} {A : Nat} {v : Value} {sz N : Nat} (h : Ro W A v sz N) (k : Nat) (hk : foot A v k) : k < W.heap.size :=
  hk.elim (fun e => e ▸ blk_lt h.1) (fun e => (h.2.1.lt k e).2)
/-- How many bits there are is the row's length. -/
theorem ro_val {W : World} {A : Nat} {v : Value} {sz N : Nat} (h : Ro W A v sz N) : ∃ a cap, v = .slice a sz cap := by
  rcases h.2.1.2 with ⟨hv, h0⟩ | ⟨g, cap, cur, hv, _⟩
  · exact ⟨none, 0, by rw [hv, h0]⟩
  · exact ⟨_, cap, hv⟩

theorem made_zero (n : Nat) : (madeCells (Value.int .u8 0).cells (n * 1)).toList = (byt 0 n).map byteV := by
  rw [show (Value.int .u8 0).cells = #[Value.int .u8 0] from rfl, Nat.mul_one, toList_madeCells_one]
  refine List.ext_getElem (by simp [byt_len]) fun j h1 h2 => ?_
  simp [byt, byteV]

theorem byte_or (N i : Nat) : bits .or .u8 ((N % 2 ^ i / 256 ^ (i / 8) % 256 : Nat) : Int) (((N / 2 ^ i % 2 : Nat) : Int) * 2 ^ (i % 8) % 256) = ((N % 2 ^ i / 256 ^ (i / 8) % 256 + N / 2 ^ i % 2 * 2 ^ (i % 8) : Nat) : Int) ∧
    N % 2 ^ i / 256 ^ (i / 8) % 256 + N / 2 ^ i % 2 * 2 ^ (i % 8) < 256 := by
  have hm : N % 2 ^ i < 2 ^ i := Nat.mod_lt _ (Nat.pow_pos (by decide))
  have ht := top_lt _ _ hm
  have h3 : 2 ^ (i % 8) ≤ 2 ^ 7 := pow_le_of (by omega)
  have h4 : N / 2 ^ i % 2 * 2 ^ (i % 8) ≤ 1 * 2 ^ (i % 8) := Nat.mul_le_mul_right _ (by omega)
  have h5 : (2 : Nat) ^ 7 = 128 := rfl
  have h6 : N % 2 ^ i / 256 ^ (i / 8) % 256 = N % 2 ^ i / 256 ^ (i / 8) := Nat.mod_eq_of_lt (by omega)
  rw [h6]
  have hlt : N / 2 ^ i % 2 * 2 ^ (i % 8) < 256 := by omega
  refine ⟨?_, by omega⟩
  have e : ((N / 2 ^ i % 2 : Nat) : Int) * 2 ^ (i % 8) % 256 = ((N / 2 ^ i % 2 * 2 ^ (i % 8) : Nat) : Int) := by
    rw [show ((N / 2 ^ i % 2 : Nat) : Int) * 2 ^ (i % 8) = ((N / 2 ^ i % 2 * 2 ^ (i % 8) : Nat) : Int) from by simp]; exact Int.emod_eq_of_lt (Int.natCast_nonneg _) (Int.ofNat_lt.2 hlt)
  rw [e, u8_or_nat _ _ (by omega) hlt, or_hi _ _ _ ht]

set_option maxRecDepth 100000 in
set_option maxHeartbeats 1000000 in
theorem rbytes_any (A : Nat) (v : Value) (sz N : Nat) (W : World) (h : Ro W A v sz N) (hsz : sz ≤ 100000) :
    Calls Try.prog 20 #[ptr A] W fun e W' => e = .returned (.string (bs (byt N (byc sz)))) ∧ Chg (fun _ => False) W W' := by
  obtain ⟨i0, hi0, hz0, hz1, hz2⟩ := info_parts info5
  obtain ⟨av, cap, rfl⟩ := ro_val h
  have c0 : W.cell? ⟨A, 0, none⟩ = some (.slice av sz cap) := by rw [blk_cell h.1]; rfl
  obtain ⟨q, hq⟩ : ∃ q : Nat, q = byc sz := ⟨_, rfl⟩
  have hq1 : ((sz : Int) + 7) / 8 = (q : Int) := by rw [hq]; unfold byc; omega
  have HQ : Hid (q = byc sz) := hq
  have hq2 : q ≤ 20000 := by rw [hq]; unfold byc; omega
  have hq3 : sz ≤ 8 * q := by rw [hq]; unfold byc; omega
  rw [← hq]
  clear hq
  unfold ptr
  go_enter Try.func20, Try.ntmps20
  go_wp2_with (at_make; refine wpList_make_full _ rfl (.tmp 11) (.tmp 11) 40 rfl 0 5 i0 (.int .u8 0) 1 Try.underlying40 hi0 hz0 hz1 .i64 .i64 _ _ q rfl rfl hq1 hq1 (by rw [hz2]; omega) (by simp only [maxLen]; omega) (Nat.zero_le _) ?_)
  intro w1 m1 m2
  have n1 : Chg (fun _ => False) W w1 := chg_grown (chg_refl _ _) m2 (fun k hk => by cases hk)
  have o1 : w1.ownsRow 0 5 1 (.slice (some ⟨W.heap.size, 0, none⟩) q q) q ((byt (N % 2 ^ 0) q).map byteV) := by
    have := made_zero q
    rw [show (Value.int .u8 0).cells = #[Value.int .u8 0] from rfl, Nat.mul_one] at this
    rw [this] at m1
    simpa [Nat.mod_one] using m1
  have h1 := ro_kept h n1 (fun _ _ h => h)
  have hG : Hid (∀ k, foot A (.slice av sz cap) k → ¬ (k = W.heap.size)) := fun k hk e => by have := ro_lt h k hk; omega
  have hGW : Hid (W.heap.size ≤ W.heap.size) := Nat.le_refl _
  clear m1 m2 h c0
  generalize hGG : W.heap.size = G at o1 hG ⊢
  have HG : Hid (W.heap.size = G) := hGG
  clear hGG hGW
  go_wp2_with fail
  try simp only [hq1]
  clear hq1
  go_loopw [4] (fun iv wr => RbRel A (.slice av sz cap) sz N q G W iv wr) (fun iv _ => sz - (intOf iv).toNat)
  case atStart => exact ⟨0, by omega, rfl, o1, h1, n1⟩
  case round =>
    clear o1 h1 n1
    obtain ⟨i, hi, rfl, d1, d2, d3⟩ := hrel
    have c0 : wr.cell? ⟨A, 0, none⟩ = some (.slice av sz cap) := by rw [blk_cell d2.1]; rfl
    by_cases hlt : i < sz
    · obtain ⟨g, cap', cur, hv, hc, hg, hcs, ht, hl⟩ := own_at d2.2.1 (by omega)
      injection hv with e1 _ e3
      subst e1 e3
      obtain ⟨g', cap'', cur', hv', hc', hg', hcs', ht', hl'⟩ := own_at d1 (by omega)
      injection hv' with e1 _ e3
      injection e1 with e1
      injection e1 with e1
      subst e1 e3
      have cb := own_cell hg ht i (by rw [bit_len]; exact hlt) hl
      rw [bit_get, byteV, u8_of _ (by omega)] at cb
      have cg := own_cell hg' ht' (i / 8) (by rw [byt_len]; omega) hl'
      rw [byt_get, byteV, u8_of _ (by omega)] at cg
      have fg := blk_free hg' (i / 8)
      obtain ⟨hor, hT⟩ := byte_or N i
      have hset := own_set d1 (i / 8) (UInt8.ofNat (N % 2 ^ i / 256 ^ (i / 8) % 256 + N / 2 ^ i % 2 * 2 ^ (i % 8))) _ (show ((N % 2 ^ i / 256 ^ (i / 8) % 256 + N / 2 ^ i % 2 * 2 ^ (i % 8) : Nat) : Int) = _ from by rw [u8_of _ hT])
      rw [← byt_set] at hset
      have HSET := Hid.intro hset
      have hT1 : N % 2 ^ i / 256 ^ (i / 8) % 256 < 256 := Nat.mod_lt _ (by decide)
      have hb2 : N / 2 ^ i % 2 < 2 := Nat.mod_lt _ (by decide)
      clear hset d1 ht ht' hl hl' hc hc' hcs hcs' hT
      generalize N % 2 ^ i / 256 ^ (i / 8) % 256 + N / 2 ^ i % 2 * 2 ^ (i % 8) = Y at *
      generalize N % 2 ^ i / 256 ^ (i / 8) % 256 = T at *
      generalize N / 2 ^ i % 2 = b at *
      have l8 : i / 8 < q := by omega
      have p8 : i % 8 < 8 := by omega
      have q1 : (i : Int) / 8 = ((i / 8 : Nat) : Int) := by omega
      have q2 : (i : Int) % 8 = ((i % 8 : Nat) : Int) := by omega
      generalize i / 8 = qq at *
      generalize i % 8 = pp at *
      go_wp2_with fail
      go_region
      have o2 : (wr.setCell ⟨G, qq, none⟩ (.int .u8 Y)).drew.ownsRow 0 5 1 (.slice (some ⟨G, 0, none⟩) q q) q ((byt (N % 2 ^ (i + 1)) q).map byteV) := HSET.out
      have r2 := ro_kept (S := (· = G)) d2 (chg_drew (chg_set (chg_refl _ _) ⟨G, qq, none⟩ (.int .u8 (Y : Int)) (fun _ => rfl))) hG.out
      have k2 : Chg (fun _ => False) W (wr.setCell ⟨G, qq, none⟩ (.int .u8 Y)).drew := chg_drew (chg_set d3 ⟨G, qq, none⟩ _ (fun hlt => by have := HG.out; simp at hlt; omega))
      clear HSET d2 d3 c0 cb cg fg hg hg'
      generalize (wr.setCell ⟨G, qq, none⟩ (.int .u8 Y)).drew = w3 at *
      go_wp2
      go_roundw
      case rel => exact ⟨i + 1, by omega, by go_num, o2, r2, k2⟩
      case measure => simp [intOf]; omega
    · obtain rfl : i = sz := by omega
      rw [Nat.mod_eq_of_lt d2.2.2.2] at d1
      have hcv := own_string d1
      go_wp2
      go_ret
      exact ⟨rfl, d3⟩
end Go.Proofs.Ytjojofcajabkeaa
