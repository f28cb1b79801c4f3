/-
  The document's example, and one more.
-/
import Derived.Test.YtlkebkchbgpnpaaHu
import Derived.Test.YtlkebkchbgpnpaaHr
import Derived.Test.YtlkebkchbgpnpaaAl
namespace Go.Proofs.Ytlkebkchbgpnpaa
open Go.ChangeShapes Go.WideShapes Go.ChangeAt Go.RowKit
open Go.ChangeMaps (open_string shut_string)

theorem own_ri2 {W : World} {base e b n cap : Nat} {zs : List Int} (h : W.ownsRow base e 1 (.slice (some ⟨b, 0, none⟩) n cap) n (ivs zs)) : RI W (some ⟨b, 0, none⟩) n zs := by
  obtain ⟨a, c, hv, _, _, r⟩ := own_ri h
  injection hv with hv _ _
  rw [hv]; exact r
theorem made_at (n i : Nat) (h : i < n) : (madeCells #[Value.int .i64 0] n)[i]? = some (.int .i64 0) := by
  have h' : i < (madeCells #[Value.int .i64 0] n).size := by simp [madeCells]; exact h
  rw [Array.getElem?_eq_getElem h']
  simp [madeCells, Nat.mod_one]
/-- A row of parts that was laid just now. -/
theorem rp_new (W : World) (ps : List (Int × Int)) : RP (W.alloc (.cells (pvs ps).toArray 54)) (some ⟨W.heap.size, 0, none⟩) ps.length ps :=
  ⟨rfl, fun _ => ⟨_, rfl, fun i hi => by
    rw [Addr.add_lit, Addr.add_lit, blk_cell (blk_new _ _ _), blk_cell (blk_new _ _ _)]
    have h1 := pvs_fst ps i hi
    have h2 := pvs_snd ps i hi
    rw [Nat.zero_add, Nat.zero_add]
    exact ⟨by rw [← h1]; simp, by rw [← h2]; simp⟩⟩⟩
theorem rp_nil (W : World) : RP W none 0 [] := ⟨rfl, fun h => absurd h (by decide)⟩
def lB : List Int := (List.replicate 65 (0 : Int)).set 0 1
theorem ex_put0 : putH lB [] = (0, []) := by decide +kernel
theorem ex_put2 : putH lB [(0, 0), (0, 0)] = (0, [0]) := by decide +kernel
theorem ex_get2 : getH lB [0] 2 = (0, [(0, 0), (0, 0)]) := by decide +kernel
theorem fp_two : ∀ p ∈ [((0 : Int), (0 : Int)), (0, 0)], 0 ≤ p.2 ∧ p.2 ≤ 18446744073709551615 := by decide
set_option maxRecDepth 100000 in
set_option maxHeartbeats 1000000 in
theorem awake_any (w : World) : Calls Try.prog 9 #[] w fun e w' => e = .returned (.bool true) ∧ Below w.heap.size w w' := by
  have mk := make_ints 23 3 Try.underlying23 info3 65 (by omega) w
  rw [show ((65 : Nat) : Int) = 65 from rfl] at mk
  have om := own_set (own_made_ints w 3 65 (by omega)) 0 (.int .i64 1)
  rw [ivs_set, World.setCell_alloc_new] at om
  have b1 : Below w.heap.size w (w.alloc (.cells ((madeCells #[.int .i64 0] 65).setIfInBounds 0 (.int .i64 1)) 3)) := (Below.refl _ _).alloc (Nat.le_refl _) _
  have hs : (madeCells #[Value.int .i64 0] 65).size = 65 := by simp [madeCells]
  have ri : RI _ (some ⟨w.heap.size, 0, none⟩) 65 lB := own_ri2 om
  have P0 := hput_any none 0 0 [] (some ⟨w.heap.size, 0, none⟩) 65 65 lB _ (rp_nil _) (fun p hp => by simp at hp) (by omega) ri (by omega)
  rw [ex_put0] at P0
  have RI1 := Hid.intro ri
  have B1 := Hid.intro b1
  have m0 := made_at 65 0 (by omega)
  clear om b1 ri
  go_enter Try.func9, Try.ntmps9
  go_wp2_with fail
  with_reducible refine P0.mono ?_
  rintro e w2 ⟨rfl, b2⟩
  have hri := ri_below RI1.out b2
  have hb2 := B1.out.trans (b2.mono B1.out.size)
  have rp : RP (w2.alloc (.cells #[.int .i64 0, .int .u64 0, .int .i64 0, .int .u64 0] 54)) (some ⟨w2.heap.size, 0, none⟩) 2 [(0, 0), (0, 0)] := rp_new w2 [(0, 0), (0, 0)]
  have ba : Below w2.heap.size w2 (w2.alloc (.cells #[.int .i64 0, .int .u64 0, .int .i64 0, .int .u64 0] 54)) := (Below.refl _ _).alloc (Nat.le_refl _) _
  have hri3 := ri_below hri ba
  have P := hput_any (some ⟨w2.heap.size, 0, none⟩) 2 2 [(0, 0), (0, 0)] (some ⟨w.heap.size, 0, none⟩) 65 65 lB _ rp fp_two (by omega) hri3 (by omega)
  rw [ex_put2] at P
  have P2 : Calls Try.prog 10 #[.slice (some ⟨w2.heap.size, 0, none⟩) 2 2, .slice (some ⟨w.heap.size, 0, none⟩) 65 65] (w2.alloc (.cells #[.int .i64 0, .int .u64 0, .int .i64 0, .int .u64 0] 54)) fun e w' => e = .returned (.tuple #[.string ⟨#[0]⟩, .int .i64 0]) ∧ Below (w2.alloc (.cells #[.int .i64 0, .int .u64 0, .int .i64 0, .int .u64 0] 54)).heap.size (w2.alloc (.cells #[.int .i64 0, .int .u64 0, .int .i64 0, .int .u64 0] 54)) w' := P
  have HR3 := Hid.intro hri3
  have HB3 := Hid.intro (hb2.alloc hb2.size (.cells #[.int .i64 0, .int .u64 0, .int .i64 0, .int .u64 0] 54))
  clear P0 b2 hri hb2 rp ba hri3 P m0 mk hs B1 RI1
  go_wp2_with fail
  with_reducible refine P2.mono ?_
  rintro e w4 ⟨rfl, b4⟩
  have R4 := ri_below HR3.out b4
  have B4 := HB3.out.trans (b4.mono HB3.out.size)
  have G := hget_any (some ⟨w.heap.size, 0, none⟩) 65 65 lB ⟨#[0]⟩ 2 w4 R4 (by omega) (by decide)
  rw [show (⟨#[0]⟩ : ByteArray).data.toList = [0] from rfl, ex_get2] at G
  have HB4 := Hid.intro B4
  clear P2 b4 R4 B4 HR3 HB3
  go_wp2_with fail
  with_reducible refine G.mono ?_
  rintro e w5 ⟨a, n, cp, rfl, r1, -, -, -, b5⟩
  have hn : n = 2 := by rw [← r1.1]; rfl
  subst hn
  have B5 := Hid.intro (HB4.out.trans (b5.mono HB4.out.size))
  have ER := err_any 0 w5
  have q0 : (bs []).toList = [] := by rw [ByteArray.toList_eq, bs_data]
  clear G r1 b5
  go_wp2_with (first | (go_at_call 14; refine ER.mono ?_; rintro e w6 ⟨rfl, rfl⟩))
  go_ret
  exact ⟨rfl, B5.out⟩
theorem awake_own {w W : World} (hb : Below w.heap.size w W) : Calls Try.prog 9 #[] W fun e W' => e = .returned (.bool true) ∧ Below w.heap.size w W' := by
  refine (awake_any W).mono ?_
  rintro e W' ⟨rfl, a2⟩
  exact ⟨rfl, hb.trans (Below.mono a2 hb.size)⟩
end Go.Proofs.Ytlkebkchbgpnpaa
