/-
  Lengths that may not be have no bytes; bytes of such say nothing.
-/
import Derived.Test.YthjokhfjfiaaiaaKc
import Derived.Test.YthjokhfjfiaaiaaCn
namespace Go.Proofs.Ythjokhfjfiaaiaa
open Go.ChangeShapes Go.WideShapes Go.ChangeAt Go.RowKit
open Go.ChangeMaps (open_string shut_string)

theorem rf_get : ∀ m, m < 14 → getA [UInt8.ofNat (2 + m), 15, 15, 15, 15] 0 = (3, [], 0) := by decide +kernel
theorem rf_none : getA [] 0 = (2, [], 0) := by decide +kernel
theorem rf_odd : getA [240, 240, 240, 240, 16] 0 = (3, [], 0) := by decide +kernel
theorem rf_nil : putL [] = [] := by decide +kernel
theorem own_five (W : World) (m : Nat) (z : Int) (hz : z = (m : Int)) (hm : m < 256) : (W.alloc (.cells #[.int .u8 z, .int .u8 15, .int .u8 15, .int .u8 15, .int .u8 15] 5)).ownsRow 0 5 1 (.slice (some ⟨W.heap.size, 0, none⟩) 5 5) 5 ([UInt8.ofNat m, 15, 15, 15, 15].map byteV) := by
  subst hz
  refine ⟨rfl, .inr ⟨_, 5, _, rfl, Nat.zero_le _, blk_new _ _ _, Nat.le_refl _, by decide, by simp, ?_⟩⟩
  simp [byteV, u8_of m hm]
/-- What Get leaves beside an error. -/
theorem lget_err (s : ByteArray) (at' : Int) (w W : World) (hb : Below w.heap.size w W) (hs : s.size ≤ 100000) (er : Nat) (h : getA s.data.toList at' = (er, [], 0)) :
    Calls Try.prog 8 #[.string s, .int .i64 at'] W fun e w' => ∃ a n cap, e = .returned (.tuple #[.slice a n cap, .int .i64 0, .int .i64 (er : Nat)]) ∧ Below W.heap.size W w' ∧ Below w.heap.size w w' := by
  refine (lget_any s at' W hs).mono ?_
  rw [h]
  rintro e w1 ⟨a, n, cap, rfl, -, -, -, -, b1⟩
  exact ⟨a, n, cap, rfl, b1, hb.trans (b1.mono hb.size)⟩
set_option maxRecDepth 100000 in
set_option maxHeartbeats 600000 in
theorem refuses_walk (a0 a1 : Int) (h0 : 0 ≤ a0 ∧ a0 ≤ 255) (h1 : 0 ≤ a1 ∧ a1 ≤ 255) (w : World) :
    Calls Try.prog 6 #[.int .u8 a0, .int .u8 a1] w fun e w' => e = .returned (.bool true) ∧ Below w.heap.size w w' := by
  have mk := make_noughts 65 (by omega) w 65 rfl
  have om := own_made_ints w 3 65 (by omega)
  have b1 : Below w.heap.size w (w.alloc (.cells (madeCells #[.int .i64 0] 65) 3)) := (Below.refl _ _).alloc (Nat.le_refl _) _
  generalize w.alloc (.cells (madeCells #[.int .i64 0] 65) 3) = w1 at *
  obtain ⟨k, hk⟩ : ∃ k : Nat, a0 % 65 = (k : Int) := ⟨(a0 % 65).toNat, by omega⟩
  have hk65 : k < 65 := by omega
  obtain ⟨m, hm⟩ : ∃ m : Nat, a1 % 14 = (m : Int) := ⟨(a1 % 14).toNat, by omega⟩
  have hm14 : m < 14 := by omega
  have om1 : w1.ownsRow w.heap.size 3 1 (.slice (some ⟨w.heap.size, 0, none⟩) 65 65) 65 (ivs lZ) := om
  obtain ⟨S, hS⟩ : ∃ S, w.heap.size = S := ⟨_, rfl⟩
  obtain ⟨u, hu, fu⟩ := own_one om1 k hk65
  have om2 := own_set om1 k (.int .i64 ((2 + m : Nat) : Int))
  rw [ivs_set] at om2
  have e2 : ((2 + m : Nat) : Int) = 2 + (m : Int) := by omega
  have b2 : Hid (Below w.heap.size w (w1.setCell ⟨w.heap.size, k, none⟩ (.int .i64 (2 + (m : Int))))) := b1.setCell (Nat.le_refl _) _
  have NP : Unit → putL (lZ.set k ((2 + m : Nat) : Int)) = [] := fun _ => pl_no (one_no k m hk65 hm14)
  obtain ⟨F, hF⟩ : ∃ F, lZ.set k ((2 + m : Nat) : Int) = F := ⟨_, rfl⟩
  rw [hF, e2] at om2
  rw [hF] at NP
  have G1 : Unit → getA [UInt8.ofNat (2 + m), 15, 15, 15, 15] 0 = (3, [], 0) := fun _ => rf_get m hm14
  have HS := Hid.intro hS
  have OM2 := Hid.intro om2
  simp only [hS] at hu fu OM2 b2 mk ⊢
  have O5 := own_five (w1.setCell ⟨S, k, none⟩ (.int .i64 (2 + (m : Int)))) (2 + m) (2 + (m : Int)) (by omega) (by omega)
  have cv := own_string O5
  rw [Go.Deep.nblk_setCell] at cv
  have B3 := Hid.intro (b2.out.alloc (by have := b2.out.size; have := HS.out; omega) (.cells #[.int .u8 (2 + (m : Int)), .int .u8 15, .int .u8 15, .int .u8 15, .int .u8 15] 5))
  have OM3 := Hid.intro (own_later OM2.out ((Below.refl _ _).alloc (Nat.le_refl _) (.cells #[.int .u8 (2 + (m : Int)), .int .u8 15, .int .u8 15, .int .u8 15, .int .u8 15] 5)))
  have G1' : Unit → getA (bs [UInt8.ofNat (2 + m), 15, 15, 15, 15]).data.toList 0 = (3, [], 0) := fun _ => by rw [bs_data]; exact G1 ()
  have hsz : (bs [UInt8.ofNat (2 + m), 15, 15, 15, 15]).size ≤ 100000 := by rw [size_bs]; simp
  clear om om1 b1 e2 hF hS om2 O5 b2 OM2 G1
  generalize bs [UInt8.ofNat (2 + m), 15, 15, 15, 15] = tx at *
  go_enter Try.func6, Try.ntmps6
  go_wp2_with fail
  generalize ((w1.setCell ⟨S, k, none⟩ (.int .i64 (2 + (m : Int)))).alloc (.cells #[.int .u8 (2 + (m : Int)), .int .u8 15, .int .u8 15, .int .u8 15, .int .u8 15] 5)) = w2 at *
  clear cv mk hu fu
  have B3' : Hid (Below w.heap.size w w2) := by have := B3.out; rw [← HS.out] at this; exact this
  clear B3
  with_reducible refine (lget_err tx 0 w w2 B3'.out hsz 3 (G1' ())).mono ?_
  rintro e w3 ⟨a3, n3, cap3, rfl, c3, b3⟩
  have OM4 := Hid.intro (own_later OM3.out c3)
  have B4 := Hid.intro b3
  clear OM3 B3' c3 b3 G1' hsz
  go_wp2_with fail
  with_reducible refine (lget_err ⟨#[]⟩ 0 w w3 B4.out (by decide) 2 rf_none).mono ?_
  rintro e w4 ⟨a4, n4, cap4, rfl, c4, b4⟩
  have OM5 := Hid.intro (own_later OM4.out c4)
  have B5 := Hid.intro b4
  clear OM4 B4 c4 b4
  go_wp2_with fail
  with_reducible refine (lget_err ⟨#[240, 240, 240, 240, 16]⟩ 0 w w4 B5.out (by decide) 3 rf_odd).mono ?_
  rintro e w5 ⟨a5, n5, cap5, rfl, c5, b5⟩
  have OM6 := Hid.intro (own_later OM5.out c5)
  have B6 := Hid.intro b5
  clear OM5 B5 c5 b5
  have P := lput_made OM6.out
  rw [NP ()] at P
  have P2 : Calls Try.prog 10 #[.slice (some ⟨S, 0, none⟩) 65 65] w5 fun e w' => e = .returned (.string ⟨#[]⟩) ∧ Below w5.heap.size w5 w' := P
  clear P OM6 NP
  go_wp2_with fail
  with_reducible refine P2.mono ?_
  rintro e w6 ⟨rfl, c6⟩
  have B7 := Hid.intro (B6.out.trans (c6.mono B6.out.size))
  clear P2 c6 B6
  have P := lput_any none 0 0 [] w6 ⟨rfl, fun h => by omega⟩ (by omega) (by omega) (by omega)
  rw [rf_nil] at P
  have P2 : Calls Try.prog 10 #[.slice none 0 0] w6 fun e w' => e = .returned (.string ⟨#[]⟩) ∧ Below w6.heap.size w6 w' := P
  clear P
  go_wp2_with fail
  with_reducible refine P2.mono ?_
  rintro e w7 ⟨rfl, c7⟩
  have B8 := Hid.intro (B7.out.trans (c7.mono B7.out.size))
  clear P2 c7 B7
  have E3 := err_any 3 w7
  have E2 := err_any 2 w7
  have AW := awake_own B8.out
  go_wp2_with fail
  refine E3.mono ?_
  rintro e w8 ⟨rfl, rfl⟩
  go_wp2_with fail
  refine E2.mono ?_
  rintro e w8 ⟨rfl, rfl⟩
  go_wp2_with fail
  refine E3.mono ?_
  rintro e w8 ⟨rfl, rfl⟩
  go_wp2_with fail
  with_reducible refine AW.mono ?_
  rintro e w9 ⟨rfl, b9⟩
  clear E3 E2 AW
  go_wp2_with fail
  go_ret
  exact ⟨rfl, by have := HS.out; rw [← this]; exact b9⟩
end Go.Proofs.Ythjokhfjfiaaiaa
