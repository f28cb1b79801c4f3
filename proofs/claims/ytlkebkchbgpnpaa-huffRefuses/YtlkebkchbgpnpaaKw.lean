/-
  Three classes' lengths; codes with their first bit first, rests with their lowest.
-/
import Derived.Test.YtlkebkchbgpnpaaJa
namespace Go.Proofs.Ytlkebkchbgpnpaa
open Go.ChangeShapes Go.WideShapes Go.ChangeAt Go.RowKit
open Go.ChangeMaps (open_string shut_string)

def lK : List Int := (((List.replicate 65 (0 : Int)).set 0 1).set 1 2).set 3 2
set_option maxRecDepth 100000 in
/-- Three classes' lengths. -/
theorem known_any (w : World) : Calls Try.prog 21 #[] w fun e w' => e = .returned (.slice (some ⟨w.heap.size, 0, none⟩) 65 65) ∧ w'.ownsRow w.heap.size 3 1 (.slice (some ⟨w.heap.size, 0, none⟩) 65 65) 65 (ivs lK) ∧ Below w.heap.size w w' := by
  have mk := make_ints 23 3 Try.underlying23 info3 65 (by omega) w
  rw [show ((65 : Nat) : Int) = 65 from rfl] at mk
  have om := own_set (own_set (own_set (own_made_ints w 3 65 (by omega)) 0 (.int .i64 1)) 1 (.int .i64 2)) 3 (.int .i64 2)
  rw [ivs_set, ivs_set, ivs_set, World.setCell_alloc_new, World.setCell_alloc_new, World.setCell_alloc_new] at om
  have b1 : Below w.heap.size w (w.alloc (.cells ((((madeCells #[.int .i64 0] 65).setIfInBounds 0 (.int .i64 1)).setIfInBounds 1 (.int .i64 2)).setIfInBounds 3 (.int .i64 2)) 3)) := (Below.refl _ _).alloc (Nat.le_refl _) _
  have hs : (madeCells #[Value.int .i64 0] 65).size = 65 := by simp [madeCells]
  have B1 := Hid.intro b1
  have OM := Hid.intro om
  have m0 := made_at 65 0 (by omega)
  have m1 := made_at 65 1 (by omega)
  have m3 := made_at 65 3 (by omega)
  clear om b1
  go_enter Try.func21, Try.ntmps21
  go_wp2_with fail
  go_ret
  exact ⟨rfl, OM.out, B1.out⟩
theorem ex_known : ∀ r < 4, putH lK [(0, 0), (1, 0), (3, ((r : Nat) : Int)), (0, 0)] = (0, [UInt8.ofNat (26 + 32 * r)]) := by decide +kernel
theorem fp_known (r : Int) (h0 : 0 ≤ r) (h4 : r < 4) : ∀ p ∈ [((0 : Int), (0 : Int)), (1, 0), (3, r), (0, 0)], 0 ≤ p.2 ∧ p.2 ≤ 18446744073709551615 := by
  intro p hp
  simp only [List.mem_cons, List.not_mem_nil, or_false] at hp
  rcases hp with e | e | e | e <;> rw [e] <;> simp only <;> omega
theorem conv_one (c : UInt8) (x : Int) (hx : x = (c.toNat : Int)) (W : World) (b : Nat) (h : W.cell? ⟨b, 0, none⟩ = some (.int .u8 x)) :
    (convert 48 9 (.slice (some ⟨b, 0, none⟩) 1 1)).run Try.prog W = .ok (.string (bs [c])) W := by
  refine run_convert_bytes_back W 48 9 5 ⟨b, 0, none⟩ 1 [c] Try.underlying48 Try.underlying5 Try.underlying9 (fun j hj => ?_)
  obtain rfl : j = 0 := by simp at hj; exact hj
  rw [Addr.add_lit, Nat.zero_add, h, hx]; rfl
theorem put_known (w W : World) (x : Int) (h0 : 0 ≤ x) (h4 : x < 4) (b : Nat) (hrp : RP W (some ⟨b, 0, none⟩) 4 [(0, 0), (1, 0), (3, x), (0, 0)]) (a : Nat) (hri : RI W (some ⟨a, 0, none⟩) 65 lK) (hb : Below w.heap.size w W) (c : UInt8) (hc : UInt8.ofNat (26 + 32 * x.toNat) = c) :
    Calls Try.prog 10 #[.slice (some ⟨b, 0, none⟩) 4 4, .slice (some ⟨a, 0, none⟩) 65 65] W fun e w' => e = .returned (.tuple #[.string (bs [c]), .int .i64 0]) ∧ Below w.heap.size w w' := by
  have P := hput_any (some ⟨b, 0, none⟩) 4 4 [(0, 0), (1, 0), (3, x), (0, 0)] (some ⟨a, 0, none⟩) 65 65 lK W hrp (fp_known x h0 h4) (by omega) hri (by omega)
  have ex := ex_known x.toNat (by omega)
  rw [Int.toNat_of_nonneg h0] at ex
  rw [ex, hc] at P
  refine P.mono ?_
  rintro e w' ⟨rfl, b2⟩
  exact ⟨rfl, hb.trans (b2.mono hb.size)⟩
set_option maxRecDepth 100000 in
set_option maxHeartbeats 1000000 in
theorem known_core (a0 x y : Int) (c : UInt8) (h : a0 % 4 = x) (h0 : 0 ≤ a0) (h1 : a0 < 256) (hx : x = 0 ∧ y = 26 ∧ c = 26 ∨ x = 1 ∧ y = 58 ∧ c = 58 ∨ x = 2 ∧ y = 90 ∧ c = 90 ∨ x = 3 ∧ y = 122 ∧ c = 122) (w : World) :
    Calls Try.prog 6 #[.int .u8 a0] w fun e w' => e = .returned (.bool true) ∧ Below w.heap.size w w' := by
  rcases hx with ⟨rfl, rfl, rfl⟩ | ⟨rfl, rfl, rfl⟩ | ⟨rfl, rfl, rfl⟩ | ⟨rfl, rfl, rfl⟩
  · have K := known_any (w.alloc (.cells #[.int .i64 0, .int .u64 0, .int .i64 1, .int .u64 0, .int .i64 3, .int .u64 0, .int .i64 0, .int .u64 0] 54))
    have rp : RP (w.alloc (.cells #[.int .i64 0, .int .u64 0, .int .i64 1, .int .u64 0, .int .i64 3, .int .u64 0, .int .i64 0, .int .u64 0] 54)) (some ⟨w.heap.size, 0, none⟩) 4 [(0, 0), (1, 0), (3, 0), (0, 0)] := rp_new w [(0, 0), (1, 0), (3, 0), (0, 0)]
    have ba : Below w.heap.size w (w.alloc (.cells #[.int .i64 0, .int .u64 0, .int .i64 1, .int .u64 0, .int .i64 3, .int .u64 0, .int .i64 0, .int .u64 0] 54)) := (Below.refl _ _).alloc (Nat.le_refl _) _
    rw [show (w.alloc (.cells #[.int .i64 0, .int .u64 0, .int .i64 1, .int .u64 0, .int .i64 3, .int .u64 0, .int .i64 0, .int .u64 0] 54)).heap.size = w.heap.size + 1 from by simp] at K
    have HRP := Hid.intro rp
    have HBA := Hid.intro ba
    have HSZ : Hid ((w.alloc (.cells #[.int .i64 0, .int .u64 0, .int .i64 1, .int .u64 0, .int .i64 3, .int .u64 0, .int .i64 0, .int .u64 0] 54)).heap.size = w.heap.size + 1) := by show _ = _; simp
    clear rp ba
    go_enter Try.func6, Try.ntmps6
    go_wp2_with fail
    with_reducible refine K.mono ?_
    rintro e w1 ⟨rfl, k1, k2⟩
    have b2 := HBA.out.trans (k2.mono (by have := HSZ.out; omega))
    have P := put_known w w1 0 (by omega) (by omega) _ (rp_below HRP.out (by rw [HSZ.out]; exact k2)) _ (own_ri2 k1) b2 26 (by decide)
    clear K k1 k2 b2
    go_wp2_with fail
    with_reducible refine P.mono ?_
    rintro e w2 ⟨rfl, b3⟩
    have ER := err_any 0 w2
    have AW := awake_own (w := w) (b3.alloc b3.size (.cells #[.int .u8 26] 5))
    have o1 : bits .or .u8 26 0 = 26 := by decide
    have CV := conv_one 26 26 rfl (w2.alloc (.cells #[.int .u8 26] 5)) w2.heap.size (by rw [blk_cell (blk_new _ _ _)]; rfl)
    clear P b3
    go_wp2_with (first | (go_at_call 14; refine ER.mono ?_; rintro e w3 ⟨rfl, rfl⟩) | (go_at_call 9; refine AW.mono ?_; rintro e w3 ⟨rfl, b4⟩; have B4 := Hid.intro b4; clear b4))
    go_ret
    exact ⟨rfl, B4.out⟩
  · have K := known_any (w.alloc (.cells #[.int .i64 0, .int .u64 0, .int .i64 1, .int .u64 0, .int .i64 3, .int .u64 1, .int .i64 0, .int .u64 0] 54))
    have rp : RP (w.alloc (.cells #[.int .i64 0, .int .u64 0, .int .i64 1, .int .u64 0, .int .i64 3, .int .u64 1, .int .i64 0, .int .u64 0] 54)) (some ⟨w.heap.size, 0, none⟩) 4 [(0, 0), (1, 0), (3, 1), (0, 0)] := rp_new w [(0, 0), (1, 0), (3, 1), (0, 0)]
    have ba : Below w.heap.size w (w.alloc (.cells #[.int .i64 0, .int .u64 0, .int .i64 1, .int .u64 0, .int .i64 3, .int .u64 1, .int .i64 0, .int .u64 0] 54)) := (Below.refl _ _).alloc (Nat.le_refl _) _
    rw [show (w.alloc (.cells #[.int .i64 0, .int .u64 0, .int .i64 1, .int .u64 0, .int .i64 3, .int .u64 1, .int .i64 0, .int .u64 0] 54)).heap.size = w.heap.size + 1 from by simp] at K
    have HRP := Hid.intro rp
    have HBA := Hid.intro ba
    have HSZ : Hid ((w.alloc (.cells #[.int .i64 0, .int .u64 0, .int .i64 1, .int .u64 0, .int .i64 3, .int .u64 1, .int .i64 0, .int .u64 0] 54)).heap.size = w.heap.size + 1) := by show _ = _; simp
    clear rp ba
    go_enter Try.func6, Try.ntmps6
    go_wp2_with fail
    with_reducible refine K.mono ?_
    rintro e w1 ⟨rfl, k1, k2⟩
    have b2 := HBA.out.trans (k2.mono (by have := HSZ.out; omega))
    have P := put_known w w1 1 (by omega) (by omega) _ (rp_below HRP.out (by rw [HSZ.out]; exact k2)) _ (own_ri2 k1) b2 58 (by decide)
    clear K k1 k2 b2
    go_wp2_with fail
    with_reducible refine P.mono ?_
    rintro e w2 ⟨rfl, b3⟩
    have ER := err_any 0 w2
    have AW := awake_own (w := w) (b3.alloc b3.size (.cells #[.int .u8 58] 5))
    have o1 : bits .or .u8 26 32 = 58 := by decide
    have o2 : bits .or .u8 58 0 = 58 := by decide
    have CV := conv_one 58 58 rfl (w2.alloc (.cells #[.int .u8 58] 5)) w2.heap.size (by rw [blk_cell (blk_new _ _ _)]; rfl)
    clear P b3
    go_wp2_with (first | (go_at_call 14; refine ER.mono ?_; rintro e w3 ⟨rfl, rfl⟩) | (go_at_call 9; refine AW.mono ?_; rintro e w3 ⟨rfl, b4⟩; have B4 := Hid.intro b4; clear b4))
    go_ret
    exact ⟨rfl, B4.out⟩
  · have K := known_any (w.alloc (.cells #[.int .i64 0, .int .u64 0, .int .i64 1, .int .u64 0, .int .i64 3, .int .u64 2, .int .i64 0, .int .u64 0] 54))
    have rp : RP (w.alloc (.cells #[.int .i64 0, .int .u64 0, .int .i64 1, .int .u64 0, .int .i64 3, .int .u64 2, .int .i64 0, .int .u64 0] 54)) (some ⟨w.heap.size, 0, none⟩) 4 [(0, 0), (1, 0), (3, 2), (0, 0)] := rp_new w [(0, 0), (1, 0), (3, 2), (0, 0)]
    have ba : Below w.heap.size w (w.alloc (.cells #[.int .i64 0, .int .u64 0, .int .i64 1, .int .u64 0, .int .i64 3, .int .u64 2, .int .i64 0, .int .u64 0] 54)) := (Below.refl _ _).alloc (Nat.le_refl _) _
    rw [show (w.alloc (.cells #[.int .i64 0, .int .u64 0, .int .i64 1, .int .u64 0, .int .i64 3, .int .u64 2, .int .i64 0, .int .u64 0] 54)).heap.size = w.heap.size + 1 from by simp] at K
    have HRP := Hid.intro rp
    have HBA := Hid.intro ba
    have HSZ : Hid ((w.alloc (.cells #[.int .i64 0, .int .u64 0, .int .i64 1, .int .u64 0, .int .i64 3, .int .u64 2, .int .i64 0, .int .u64 0] 54)).heap.size = w.heap.size + 1) := by show _ = _; simp
    clear rp ba
    go_enter Try.func6, Try.ntmps6
    go_wp2_with fail
    with_reducible refine K.mono ?_
    rintro e w1 ⟨rfl, k1, k2⟩
    have b2 := HBA.out.trans (k2.mono (by have := HSZ.out; omega))
    have P := put_known w w1 2 (by omega) (by omega) _ (rp_below HRP.out (by rw [HSZ.out]; exact k2)) _ (own_ri2 k1) b2 90 (by decide)
    clear K k1 k2 b2
    go_wp2_with fail
    with_reducible refine P.mono ?_
    rintro e w2 ⟨rfl, b3⟩
    have ER := err_any 0 w2
    have AW := awake_own (w := w) (b3.alloc b3.size (.cells #[.int .u8 90] 5))
    have o1 : bits .or .u8 26 64 = 90 := by decide
    have o2 : bits .or .u8 90 0 = 90 := by decide
    have CV := conv_one 90 90 rfl (w2.alloc (.cells #[.int .u8 90] 5)) w2.heap.size (by rw [blk_cell (blk_new _ _ _)]; rfl)
    clear P b3
    go_wp2_with (first | (go_at_call 14; refine ER.mono ?_; rintro e w3 ⟨rfl, rfl⟩) | (go_at_call 9; refine AW.mono ?_; rintro e w3 ⟨rfl, b4⟩; have B4 := Hid.intro b4; clear b4))
    go_ret
    exact ⟨rfl, B4.out⟩
  · have K := known_any (w.alloc (.cells #[.int .i64 0, .int .u64 0, .int .i64 1, .int .u64 0, .int .i64 3, .int .u64 3, .int .i64 0, .int .u64 0] 54))
    have rp : RP (w.alloc (.cells #[.int .i64 0, .int .u64 0, .int .i64 1, .int .u64 0, .int .i64 3, .int .u64 3, .int .i64 0, .int .u64 0] 54)) (some ⟨w.heap.size, 0, none⟩) 4 [(0, 0), (1, 0), (3, 3), (0, 0)] := rp_new w [(0, 0), (1, 0), (3, 3), (0, 0)]
    have ba : Below w.heap.size w (w.alloc (.cells #[.int .i64 0, .int .u64 0, .int .i64 1, .int .u64 0, .int .i64 3, .int .u64 3, .int .i64 0, .int .u64 0] 54)) := (Below.refl _ _).alloc (Nat.le_refl _) _
    rw [show (w.alloc (.cells #[.int .i64 0, .int .u64 0, .int .i64 1, .int .u64 0, .int .i64 3, .int .u64 3, .int .i64 0, .int .u64 0] 54)).heap.size = w.heap.size + 1 from by simp] at K
    have HRP := Hid.intro rp
    have HBA := Hid.intro ba
    have HSZ : Hid ((w.alloc (.cells #[.int .i64 0, .int .u64 0, .int .i64 1, .int .u64 0, .int .i64 3, .int .u64 3, .int .i64 0, .int .u64 0] 54)).heap.size = w.heap.size + 1) := by show _ = _; simp
    clear rp ba
    go_enter Try.func6, Try.ntmps6
    go_wp2_with fail
    with_reducible refine K.mono ?_
    rintro e w1 ⟨rfl, k1, k2⟩
    have b2 := HBA.out.trans (k2.mono (by have := HSZ.out; omega))
    have P := put_known w w1 3 (by omega) (by omega) _ (rp_below HRP.out (by rw [HSZ.out]; exact k2)) _ (own_ri2 k1) b2 122 (by decide)
    clear K k1 k2 b2
    go_wp2_with fail
    with_reducible refine P.mono ?_
    rintro e w2 ⟨rfl, b3⟩
    have ER := err_any 0 w2
    have AW := awake_own (w := w) (b3.alloc b3.size (.cells #[.int .u8 122] 5))
    have o1 : bits .or .u8 26 96 = 122 := by decide
    have o2 : bits .or .u8 122 0 = 122 := by decide
    have CV := conv_one 122 122 rfl (w2.alloc (.cells #[.int .u8 122] 5)) w2.heap.size (by rw [blk_cell (blk_new _ _ _)]; rfl)
    clear P b3
    go_wp2_with (first | (go_at_call 14; refine ER.mono ?_; rintro e w3 ⟨rfl, rfl⟩) | (go_at_call 9; refine AW.mono ?_; rintro e w3 ⟨rfl, b4⟩; have B4 := Hid.intro b4; clear b4))
    go_ret
    exact ⟨rfl, B4.out⟩
theorem known_walk (a0 : Int) (h0 : 0 ≤ a0) (h1 : a0 ≤ 255) (w : World) : Calls Try.prog 6 #[.int .u8 a0] w fun e w' => e = .returned (.bool true) ∧ Below w.heap.size w w' := by
  rcases (by omega : a0 % 4 = 0 ∨ a0 % 4 = 1 ∨ a0 % 4 = 2 ∨ a0 % 4 = 3) with h | h | h | h
  · exact known_core a0 0 26 26 h h0 (by omega) (.inl ⟨rfl, rfl, rfl⟩) w
  · exact known_core a0 1 58 58 h h0 (by omega) (.inr (.inl ⟨rfl, rfl, rfl⟩)) w
  · exact known_core a0 2 90 90 h h0 (by omega) (.inr (.inr (.inl ⟨rfl, rfl, rfl⟩))) w
  · exact known_core a0 3 122 122 h h0 (by omega) (.inr (.inr (.inr ⟨rfl, rfl, rfl⟩))) w
end Go.Proofs.Ytlkebkchbgpnpaa
