/-
  The document's example.
-/
import Derived.Test.YtplalkhjjndffaaNf
namespace Go.Proofs.Ytplalkhjjndffaa
open Go.ChangeShapes Go.WideShapes Go.ChangeAt Go.RowKit
open Go.ChangeMaps (open_string shut_string)

theorem err_i (n : Int) (w : World) : Calls Try.prog 15 #[.int .i64 n] w fun e w' => e = .returned (.int .i64 n) ∧ w' = w := by
  go_enter Try.func15, Try.ntmps15
  go_wp2
  go_ret
  exact ⟨rfl, rfl⟩
def oneF (k v : Nat) : List Nat := (List.replicate 65 0).set k v
theorem aw_norm : normA ((oneF 7 9).map Int.ofNat) 7 = (0, oneF 7 128) := by decide +kernel
theorem aw_may : may 7 ((oneF 7 128).map Int.ofNat) = true := by decide +kernel
theorem one_len (k v : Nat) : (oneF k v).length = 65 := by unfold oneF; rw [List.length_set, List.length_replicate]
theorem aw_at : g (oneF 7 128) 7 = 128 := by decide +kernel
theorem one_ivs (k v : Nat) : (ivs (List.replicate 65 0)).set k (.int .i64 (v : Int)) = nis (oneF k v) := by
  unfold oneF
  rw [ivs_set, nis_map, List.map_set, List.map_replicate]; rfl
set_option maxRecDepth 100000 in
set_option maxHeartbeats 2000000 in
theorem awake_any (w : World) : Calls Try.prog 9 #[] w fun e w' => e = .returned (.bool true) ∧ Below w.heap.size w w' := by
  have mk := make_ints 22 3 Try.underlying22 info3 65 (by omega) w
  rw [show ((65 : Nat) : Int) = 65 from rfl] at mk
  have om := own_made_ints w 3 65 (by omega)
  have b1 : Below w.heap.size w (w.alloc (.cells (madeCells #[.int .i64 0] 65) 3)) := (Below.refl _ _).alloc (Nat.le_refl _) _
  obtain ⟨w1, hw1⟩ : ∃ w1, w.alloc (.cells (madeCells #[.int .i64 0] 65) 3) = w1 := ⟨_, rfl⟩
  rw [hw1] at mk om b1
  obtain ⟨S, hS⟩ : ∃ S, w.heap.size = S := ⟨_, rfl⟩
  have HS := Hid.intro hS
  rw [hS] at mk om b1 ⊢
  obtain ⟨-, s7, f7⟩ := own_there om 7 (by omega)
  obtain ⟨u7, c7⟩ := Option.isSome_iff_exists.1 s7
  have o2 := own_set om 7 (.int .i64 ((9 : Nat) : Int))
  rw [one_ivs] at o2
  rw [show (((9 : Nat) : Int)) = 9 from rfl] at o2
  have b2 := b1.setCell (p := ⟨S, 7, none⟩) (Nat.le_refl _) (.int .i64 9)
  have OF := of_any (some ⟨S, 0, none⟩) 65 65 ((oneF 7 9).map Int.ofNat) 7 _ (own_ri' o2) (by omega)
  rw [aw_norm] at OF
  have z2 : S ≤ (w1.setCell ⟨S, 7, none⟩ (.int .i64 9)).heap.size := by rw [← HS.out]; exact (by rw [HS.out]; have := b2.size; rw [HS.out] at this; exact this)
  clear om s7 o2 hS b1 hw1
  go_enter Try.func9, Try.ntmps9
  go_wp2_with fail
  with_reducible refine OF.mono ?_
  rintro e w2 ⟨v, rfl, o3, b3⟩
  clear OF mk
  rw [one_len] at o3
  obtain ⟨b, c, rfl⟩ := own_slice o3 (by omega)
  have cell := nis_cell o3 7 (by rw [one_len]; omega)
  rw [aw_at] at cell
  have MY := may_any (some ⟨b, 0, none⟩) 65 c ((oneF 7 128).map Int.ofNat) 7 w2 (own_ri' o3) (by omega)
  rw [aw_may] at MY
  have B3 := Hid.intro (b2.trans (b3.mono z2))
  clear o3 b3 b2
  go_wp2_with fail
  with_reducible refine (err_i _ _).mono ?_
  rintro e w3 ⟨rfl, rfl⟩
  go_wp2_with fail
  with_reducible refine MY.mono ?_
  rintro e w4 ⟨rfl, b4⟩
  clear MY
  have B4 := Hid.intro (B3.out.trans (b4.mono (by have := B3.out.size; rw [HS.out] at this; exact this)))
  go_wp2_with fail
  go_ret
  exact ⟨rfl, B4.out⟩
end Go.Proofs.Ytplalkhjjndffaa
