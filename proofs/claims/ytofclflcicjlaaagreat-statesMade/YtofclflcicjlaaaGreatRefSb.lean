/-
  Package back, From and Seal: for every text, every row of numbers and every row of lengths; the document's example; the reference's Seal, for every row of numbers and of lengths; its FromEnd where there is no mark.
-/
import Derived.Test.YtofclflcicjlaaaGreatRdBb
import Derived.Test.YtofclflcicjlaaaGreatLy
import Derived.Test.YtofclflcicjlaaaGreatSc
import Derived.Test.YtofclflcicjlaaaGreatSg
import Derived.Test.YtofclflcicjlaaaGreatBuh
import Derived.Test.YtofclflcicjlaaaGreatRefHxh
import Derived.Test.YtofclflcicjlaaaGreatPuh
import Derived.Test.YtofclflcicjlaaaGreatRpyh
import Derived.Test.YtofclflcicjlaaaGreatTyh
import Derived.Test.YtofclflcicjlaaaGreatRdb
import Derived.Deep.RegionWith
import Derived.Deep.RegionLaw
import Derived.OwnWalk
namespace Go.Proofs.YtofclflcicjlaaaGreat
open Go.ChangeShapes Go.WideShapes Go.ChangeAt Go.RowKit
open Go.ChangeMaps (open_string shut_string)
set_option maxRecDepth 100000

set_option maxRecDepth 100000 in
theorem from_nil (w : World) : Calls Tryz.prog 59 #[.string ⟨#[]⟩] w fun e w' => e = .returned (.tuple #[.pointer none, .int .i64 3]) ∧ w = w' := by
  go_enter Tryz.func59, Tryz.ntmps59
  go_wp2
  go_ret2
  exact ⟨rfl, rfl⟩
set_option maxRecDepth 100000 in
theorem from_zero (s : ByteArray) (i : Nat) (w : World) (h : last s = 0) (hs : s.size ≤ 100000) (hi : i + 1 = s.size) : Calls Tryz.prog 59 #[.string s] w fun e w' => e = .returned (.tuple #[.pointer none, .int .i64 3]) ∧ w = w' := by
  have hlt : i < s.size := by omega
  have hg := last_get s i hlt hi
  have e1 : (s.size : Int) - 1 = (i : Int) := by omega
  have H1 := Hid.intro hs
  have hi1 : i ≤ 100000 := by omega
  clear hi
  rw [h] at hg
  generalize hc : s[i].toNat = c at *
  subst hg
  go_enter Tryz.func59, Tryz.ntmps59
  go_wp2
  go_ret2
  exact ⟨rfl, rfl⟩
theorem from_bad (s : ByteArray) (w : World) (h : last s = 0) (hs : s.size ≤ 100000) : Calls Tryz.prog 59 #[.string s] w fun e w' => e = .returned (.tuple #[.pointer none, .int .i64 3]) ∧ w = w' := by
  by_cases h0 : s.size = 0
  · obtain rfl : s = ⟨#[]⟩ := by
      cases s with | mk d => simp [ByteArray.size] at h0; rw [h0]
    exact from_nil w
  · exact from_zero s (s.size - 1) w h hs (by omega)

set_option maxRecDepth 100000 in
theorem from_at (s : ByteArray) (i c : Nat) (w : World) (h : c ≠ 0) (hs : s.size ≤ 100000) (hlt : i < s.size) (hi : i + 1 = s.size) (hg : s[i].toNat = c) (hc : c < 256) (hl : Nat.log2 c ≤ 7) :
    Calls Tryz.prog 59 #[.string s] w fun e w' => e = .returned (.tuple #[ptr w.heap.size, .int .i64 0]) ∧ Rdb w' w.heap.size s (8 * i + Nat.log2 c) ∧ Chg (fun _ => False) w w' := by
  have e1 : (s.size : Int) - 1 = (i : Int) := by omega
  have H1 := Hid.intro hs
  have hi1 : i ≤ 100000 := by omega
  have L := len8_any c w h hc
  have h1 : ¬ (c : Int) = 0 := by omega
  have h2 : ((c : Int) == 0) = false := by simpa using h1
  have h3 : ¬ (i : Int) < 0 := by omega
  have e3 : ((Nat.log2 c + 1 : Nat) : Int) - 1 = (Nat.log2 c : Int) := by omega
  have HR : Hid ((i : Int) * 8 + (Nat.log2 c : Int) = ((8 * i + Nat.log2 c : Nat) : Int)) := by show _ = _; omega
  have hl1 : Nat.log2 c + 1 ≤ 8 := by omega
  clear hi h hl
  unfold Rdb ptr
  generalize Nat.log2 c + 1 = m1 at *
  generalize Nat.log2 c = m at *
  generalize hZ : 8 * i + m = z at *
  clear hZ
  go_enter Tryz.func59, Tryz.ntmps59
  go_wp2_with (first | (go_at_call 86; refine L.mono ?_; rintro e w1 ⟨rfl, rfl⟩))
  go_ret2
  rw [HR.out]
  exact ⟨rfl, blk_new _ _ _, chg_alloc (chg_refl _ _) _⟩

theorem from_ok (s : ByteArray) (w : World) (h : last s ≠ 0) (hs : s.size ≤ 100000) :
    Calls Tryz.prog 59 #[.string s] w fun e w' => e = .returned (.tuple #[ptr w.heap.size, .int .i64 0]) ∧ Rdb w' w.heap.size s (Nat.log2 (le s.data.toList)) ∧ Chg (fun _ => False) w w' := by
  have h0 := (log_lt s h).1
  rw [log_last s h]
  exact from_at s (s.size - 1) (last s) w h hs (by omega) (by omega) (last_get s _ _ (by omega)) (last_lt s) (log_le7 s h)

/-- For one who owns what it makes. -/
theorem from_ownb {w W : World} (s : ByteArray) (hb : Below w.heap.size w W) (h : last s ≠ 0) (hs : s.size ≤ 100000) (a : Nat) (ha : Nat.log2 (le s.data.toList) = a) :
    Calls Tryz.prog 59 #[.string s] W fun e W' => ∃ A, e = .returned (.tuple #[ptr A, .int .i64 0]) ∧ W.heap.size ≤ A ∧ Rdb W' A s a ∧ w.heap.size ≤ A ∧ Below w.heap.size w W' ∧ Chg (fun _ => False) W W' := by
  subst ha
  refine (from_ok s W h hs).mono ?_
  rintro e W' ⟨rfl, a1, a2⟩
  exact ⟨_, rfl, Nat.le_refl _, a1, hb.size, below_no hb a2, a2⟩
theorem get_ownb {w W : World} (A : Nat) (s : ByteArray) (a : Nat) (n : Int) (h : Rdb W A s a) (hu : w.heap.size ≤ A) (hb : Below w.heap.size w W) (hs : s.size ≤ 100000) (ha : a ≤ 8 * s.size)
    (a' : Nat) (y : Nat) (er : Nat) (e1 : a - gkb a n = a') (e2 : got (le s.data.toList) (a - gkb a n) (gkb a n) = y) (e3 : geb a n = er) :
    Calls Tryz.prog 60 #[ptr A, .int .i64 n] W fun e W' => e = .returned (.tuple #[.int .u64 y, .int .i64 er]) ∧ Rdb W' A s a' ∧ Below w.heap.size w W' ∧ Chg (· = A) W W' := by
  subst e1 e2 e3
  refine (get_anyb A s a n W h hs ha).mono ?_
  rintro e W' ⟨rfl, k1, k2⟩
  exact ⟨rfl, k1, below_one hb k2 hu, k2⟩

/-- A slice of numbers that lie in memory, and one of lengths. -/
def Us (w : World) (a : Option Addr) (n : Nat) (X : Nat → Nat) : Prop := 0 < n → ∃ x, a = some x ∧ ∀ i, i < n → w.cell? (x.add i) = some (.int .u64 (X i)) ∧ X i < 18446744073709551616
def Ls (w : World) (b : Option Addr) (n : Nat) (L : Nat → Int) : Prop := 0 < n → ∃ y, b = some y ∧ ∀ i, i < n → w.cell? (y.add i) = some (.int .i64 (L i)) ∧ -9223372036854775808 ≤ L i ∧ L i ≤ 9223372036854775807

def SlRel (X K : Nat → Nat) (m : Nat) (w : World) (A : Nat) (iv : Value) (wr : World) : Prop :=
  ∃ (i : Nat) (va : Value), i ≤ m ∧ iv = .int .i64 i ∧ Wr wr A va (szs K i) (num X K i) ∧ Up w.heap.size A va ∧ Below w.heap.size w wr

set_option maxRecDepth 100000 in
set_option maxHeartbeats 4000000 in
theorem seal_core (a b : Option Addr) (n0 cap0 n1 cap1 m : Nat) (X : Nat → Nat) (L : Nat → Int) (w : World) (h0 : m ≤ 1000) (hm0 : m ≤ n0) (hm1 : m ≤ n1) (hmm : m = min n0 n1) (hn0 : n0 ≤ 9223372036854775807) (hn1 : n1 ≤ 9223372036854775807)
    (hx : Us w a n0 X) (hy : Ls w b n1 L) (K : Nat → Nat) (hK : ∀ i, K i = cl (L i)) (hK64 : ∀ i, K i ≤ 64) :
    Calls Tryz.prog 21 #[.slice a n0 cap0, .slice b n1 cap1] w fun e w' => e = .returned (.string (sealed (num X K m) (szs K m))) ∧ Below w.heap.size w w' := by
  have HK := Hid.intro hK
  have HK64 := Hid.intro hK64
  have HX := Hid.intro hx
  have HY := Hid.intro hy
  have hmin : min (n0 : Int) (n1 : Int) = (m : Int) := by omega
  have hif1 : (if (n1 : Int) < n0 then (n1 : Int) else n0) = (m : Int) := by split <;> omega
  have hif2 : (if (n0 : Int) < n1 then (n0 : Int) else n1) = (m : Int) := by split <;> omega
  clear hK hK64 hx hy hmm
  go_enter Tryz.func21, Tryz.ntmps21
  go_wp2_with fail
  refine (new_own (Below.refl _ w)).mono ?_
  rintro e w1 ⟨A, rfl, s1, a1, a2, a3, _⟩
  clear s1
  unfold ptr
  go_wp2_with fail
  go_loopw [13] (fun iv wr => SlRel X K m w A iv wr) (fun iv _ => m - (intOf iv).toNat)
  case atStart => exact ⟨0, _, by omega, rfl, a1, a2, a3⟩
  case round =>
    clear a1 a2 a3
    obtain ⟨i, va, hi, rfl, d1, d2, d5⟩ := hrel
    have hsz := szs_le K HK64.out i
    by_cases hlt : i < m
    · obtain ⟨x, rfl, hx⟩ := HX.out (by omega)
      obtain ⟨y, rfl, hy⟩ := HY.out (by omega)
      obtain ⟨cx, bx⟩ := hx i (by omega)
      obtain ⟨cy, by1, by2⟩ := hy i (by omega)
      have cx' : wr.cell? (x.add i) = some (.int .u64 (X i)) := by rw [d5.cell (World.block_lt_of_cell? _ _ cx)]; exact cx
      have cy' : wr.cell? (y.add i) = some (.int .i64 (L i)) := by rw [d5.cell (World.block_lt_of_cell? _ _ cy)]; exact cy
      have hk : K i = cl (L i) := HK.out i
      have l0 : i < n0 := by omega
      have l1 : i < n1 := by omega
      have P := put_own (W := wr.drew) A va (szs K i) (num X K i) (X i) (L i) d1 d2 (Below.drew d5) (by omega) bx by1 by2 (szs K (i + 1)) (num X K (i + 1)) (by rw [← hk, szs]) (by rw [← hk, num])
      clear hx hy cx cy hk
      unfold ptr at P
      go_wp2_with fail
      go_region_with (go_at_call 53; refine P.mono ?_; intro e w4 hp; obtain ⟨he, hp'⟩ := hp; subst he; have HP := Hid.intro hp'; clear hp')
      all_goals
        obtain ⟨va', e1, e2, e3, e4, e5⟩ := HP.out
        clear HP P cx' cy' d1 d5 e4 e5 d2
        go_wp2
        go_roundw
        case rel => exact ⟨i + 1, va', by omega, by go_num, e1, e2, e3⟩
        case measure => simp [intOf]; omega
    · obtain rfl : i = m := by omega
      have P := put_own (W := wr) A va (szs K i) (num X K i) 1 1 d1 d2 d5 (by omega) (by omega) (by omega) (by omega) (szs K i + 1) (num X K i + 2 ^ szs K i) rfl (by rw [show cl 1 = 1 from rfl]; simp)
      unfold ptr at P
      go_wp2_with fail
      refine P.mono ?_
      rintro e w4 ⟨rfl, va', e1, e2, e3, e4, e5⟩
      have B1 := bytes_any A va' _ _ w4 e1
      rw [show byc (szs K i + 1) = szs K i / 8 + 1 from by unfold byc; omega, ← sealed] at B1
      unfold ptr at B1
      go_wp2_with (go_at_call 54; refine B1.mono ?_; rintro e w1 ⟨rfl, rfl⟩)
      go_ret
      exact ⟨rfl, e3⟩

/-- Seal, for one who has made what lies there. -/
theorem seal_own {w W : World} (a b : Option Addr) (n0 cap0 n1 cap1 m : Nat) (X : Nat → Nat) (L : Nat → Int) (hb : Below w.heap.size w W) (h0 : m ≤ 1000) (hmm : m = min n0 n1) (hn0 : n0 ≤ 9223372036854775807) (hn1 : n1 ≤ 9223372036854775807)
    (hx : Us W a n0 X) (hy : Ls W b n1 L) (K : Nat → Nat) (hK : ∀ i, K i = cl (L i)) (s : ByteArray) (hs : sealed (num X K m) (szs K m) = s) :
    Calls Tryz.prog 21 #[.slice a n0 cap0, .slice b n1 cap1] W fun e w' => e = .returned (.string s) ∧ Below w.heap.size w w' ∧ Chg (fun _ => False) W w' := by
  subst hs
  refine (seal_core a b n0 cap0 n1 cap1 m X L W h0 (by omega) (by omega) hmm hn0 hn1 hx hy K hK (fun i => by rw [hK]; exact cl_le _)).mono ?_
  rintro e w1 ⟨rfl, k⟩
  exact ⟨rfl, below_no hb (chg_of k), chg_of k⟩

theorem rput_ownb {w W : World} (A : Nat) (v : Value) (sz N x : Nat) (n : Int) (h : Ro W A v sz N) (hu : Up w.heap.size A v) (hb : Below w.heap.size w W) (hsz : sz ≤ 99000) (hx : x < 18446744073709551616)
    (sz' N' : Nat) (e1 : sz + cl n = sz') (e2 : N + x % 2 ^ cl n * 2 ^ sz = N') :
    Calls Tryz.prog 57 #[ptr A, .int .u64 x, .int .i64 n] W fun e W' => e = .returned (.tuple #[]) ∧ ∃ v', Ro W' A v' sz' N' ∧ Up w.heap.size A v' ∧ Below w.heap.size w W' ∧ Chg (foot A v) W W' ∧ Moved W v v' := by
  subst e1 e2
  refine (rput_any A v sz N x n W h (by omega) hx).mono ?_
  rintro e W' ⟨rfl, v', k1, k2, k3⟩
  exact ⟨rfl, v', k1, up_moved hu k3 hb.size, below_foot hb k2 hu, k2, k3⟩

def RsRelb (X K : Nat → Nat) (m : Nat) (w : World) (A : Nat) (iv : Value) (wr : World) : Prop :=
  ∃ (i : Nat) (va : Value), i ≤ m ∧ iv = .int .i64 i ∧ Ro wr A va (szs K i) (num X K i) ∧ Up w.heap.size A va ∧ Below w.heap.size w wr

set_option maxRecDepth 100000 in
set_option maxHeartbeats 4000000 in
theorem rseal_core (a b : Option Addr) (n0 cap0 n1 cap1 m : Nat) (X : Nat → Nat) (L : Nat → Int) (w : World) (h0 : m ≤ 1000) (hm0 : m ≤ n0) (hm1 : m ≤ n1) (hmm : m = n0 ∨ (m = n1 ∧ m < n0)) (hn0 : n0 ≤ 9223372036854775807) (hn1 : n1 ≤ 9223372036854775807)
    (hx : Us w a n0 X) (hy : Ls w b n1 L) (K : Nat → Nat) (hK : ∀ i, K i = cl (L i)) (hK64 : ∀ i, K i ≤ 64) :
    Calls Tryz.prog 27 #[.slice a n0 cap0, .slice b n1 cap1] w fun e w' => e = .returned (.string (sealed (num X K m) (szs K m))) ∧ Below w.heap.size w w' := by
  have HK := Hid.intro hK
  have HK64 := Hid.intro hK64
  have HX := Hid.intro hx
  have HY := Hid.intro hy
  clear hK hK64 hx hy
  have b1 : Ro (w.alloc (.cells #[.slice none 0 0] 71)) w.heap.size (.slice none 0 0) 0 0 := ⟨blk_new _ _ _, World.ownsRow_nil _ _ _ _, by simp [Value.ownBlock], by decide⟩
  have a3 : Below w.heap.size w (w.alloc (.cells #[.slice none 0 0] 71)) := (Below.refl _ w).alloc (Nat.le_refl _) _
  have a2 := up_nil w.heap.size w.heap.size (Nat.le_refl _)
  go_enter Tryz.func27, Tryz.ntmps27
  go_wp2_with fail
  generalize w.alloc (.cells #[.slice none 0 0] 71) = w1 at *
  generalize hA : w.heap.size = A at b1 a2 ⊢
  have HA := Hid.intro hA
  rw [← hA] at a2
  clear hA
  go_loopw [6] (fun iv wr => RsRelb X K m w A iv wr) (fun iv _ => m - (intOf iv).toNat)
  case atStart => exact ⟨0, _, by omega, rfl, b1, by have := HA.out; rw [← this]; exact up_nil _ _ (Nat.le_refl _), a3⟩
  case round =>
    clear b1 a2 a3
    obtain ⟨i, va, hi, rfl, d1, d2, d5⟩ := hrel
    have hsz := szs_le K HK64.out i
    by_cases hlt : i < m
    · obtain ⟨x, rfl, hx⟩ := HX.out (by omega)
      obtain ⟨y, rfl, hy⟩ := HY.out (by omega)
      obtain ⟨cx, bx⟩ := hx i (by omega)
      obtain ⟨cy, by1, by2⟩ := hy i (by omega)
      have cx' : wr.cell? (x.add i) = some (.int .u64 (X i)) := by rw [d5.cell (World.block_lt_of_cell? _ _ cx)]; exact cx
      have cy' : wr.cell? (y.add i) = some (.int .i64 (L i)) := by rw [d5.cell (World.block_lt_of_cell? _ _ cy)]; exact cy
      have hk : K i = cl (L i) := HK.out i
      have l0 : i < n0 := by omega
      have l1 : i < n1 := by omega
      have P := rput_ownb (W := wr.drew) A va (szs K i) (num X K i) (X i) (L i) d1 d2 (Below.drew d5) (by omega) bx (szs K (i + 1)) (num X K (i + 1)) (by rw [← hk, szs]) (by rw [← hk, num])
      clear hx hy cx cy hk
      unfold ptr at P
      go_wp2_with fail
      go_region_with (go_at_call 57; refine P.mono ?_; intro e w4 hp; obtain ⟨he, hp'⟩ := hp; subst he; have HP := Hid.intro hp'; clear hp')
      all_goals
        obtain ⟨va', e1, e2, e3, e4, e5⟩ := HP.out
        clear HP P cx' cy' d1 d5 e4 e5 d2
        go_wp2
        go_roundw
        case rel => exact ⟨i + 1, va', by omega, by go_num, e1, e2, e3⟩
        case measure => simp [intOf]; omega
    · obtain rfl : i = m := by omega
      have P := rput_ownb (W := wr) A va (szs K i) (num X K i) 1 1 d1 d2 d5 (by omega) (by omega) (szs K i + 1) (num X K i + 2 ^ szs K i) rfl (by rw [show cl 1 = 1 from rfl]; simp)
      unfold ptr at P
      rcases hmm with rfl | ⟨rfl, hlt2⟩
      all_goals
        go_wp2_with fail
        refine P.mono ?_
        rintro e w4 ⟨rfl, va', e1, e2, e3, e4, e5⟩
        have B1 := rbytes_any A va' _ _ w4 e1 (by omega)
        rw [show byc (szs K i + 1) = szs K i / 8 + 1 from by unfold byc; omega, ← sealed] at B1
        unfold ptr at B1
        go_wp2_with fail
        refine B1.mono ?_
        rintro e w5 ⟨rfl, k1⟩
        go_wp2
        go_ret
        exact ⟨rfl, below_no e3 k1⟩

/-- Block A is the reference's tail of the first L bits of X. -/
def Tl (W : World) (A g cap X L : Nat) : Prop :=
  Blk W A #[.slice (some ⟨g, 0, none⟩) L cap] 94 ∧ W.ownsRow 0 5 1 (.slice (some ⟨g, 0, none⟩) L cap) L ((bit X L).map byteV) ∧ g ≠ A ∧ 0 < cap

theorem own_less {W : World} {g n cap X L : Nat} (h : W.ownsRow 0 5 1 (.slice (some ⟨g, 0, none⟩) n cap) n ((bit X n).map byteV)) (hL : L ≤ n) : W.ownsRow 0 5 1 (.slice (some ⟨g, 0, none⟩) L cap) L ((bit X L).map byteV) := by
  rcases h.2 with ⟨h0, _⟩ | ⟨g', cap', cur, hv, hb, hg, hc, hm, hs, ht⟩
  · cases h0
  · injection hv with e1 e2 e3
    injection e1 with e1
    injection e1 with e1
    subst e1 e3
    refine ⟨by simp [bit_len], .inr ⟨g, cap, cur, rfl, hb, hg, by omega, hm, hs, ?_⟩⟩
    rw [Nat.mul_one] at ht ⊢
    have e : (bit X L).map byteV = ((bit X n).map byteV).take L := by
      rw [← List.map_take]; congr 1
      unfold bit
      rw [← List.map_take, List.take_range, Nat.min_eq_left hL]
    rw [e, ← ht, List.take_take, Nat.min_eq_left hL]

def FeRel (M n : Nat) (nv : Value) : Prop := ∃ j : Nat, M ≤ j ∧ j < n ∧ nv = .int .i64 j

set_option maxRecDepth 100000 in
theorem fromEnd_nil (w : World) : Calls Tryz.prog 34 #[.string ⟨#[]⟩] w fun e w' => e = .returned (.pointer none) ∧ w = w' := by
  go_enter Tryz.func34, Tryz.ntmps34
  go_wp2
  go_ret
  exact ⟨rfl, rfl⟩
set_option maxRecDepth 100000 in
theorem fromEnd_zero (s : ByteArray) (i : Nat) (w : World) (h : last s = 0) (hs : s.size ≤ 10000) (hi : i + 1 = s.size) : Calls Tryz.prog 34 #[.string s] w fun e w' => e = .returned (.pointer none) ∧ w = w' := by
  have hlt : i < s.size := by omega
  have hg := last_get s i hlt hi
  have e1 : (s.size : Int) - 1 = (i : Int) := by omega
  have e2 : ¬ (s.size : Int) = 0 := by omega
  have e3 : ((s.size : Int) == 0) = false := by simpa using e2
  have H1 := Hid.intro hs
  have hi1 : i ≤ 100000 := by omega
  clear hi
  rw [h] at hg
  generalize hc : s[i].toNat = c at *
  subst hg
  go_enter Tryz.func34, Tryz.ntmps34
  go_wp2
  go_ret
  exact ⟨rfl, rfl⟩
theorem fromEnd_bad (s : ByteArray) (w : World) (h : last s = 0) (hs : s.size ≤ 10000) : Calls Tryz.prog 34 #[.string s] w fun e w' => e = .returned (.pointer none) ∧ w = w' := by
  by_cases h0 : s.size = 0
  · obtain rfl : s = ⟨#[]⟩ := by
      cases s with | mk d => simp [ByteArray.size] at h0; rw [h0]
    exact fromEnd_nil w
  · exact fromEnd_zero s (s.size - 1) w h hs (by omega)
end Go.Proofs.YtofclflcicjlaaaGreat
