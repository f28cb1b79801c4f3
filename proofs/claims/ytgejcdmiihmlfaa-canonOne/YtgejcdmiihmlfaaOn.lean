/-
  CanonOne's walk: one class alone, or none.
-/
import Derived.Test.YtgejcdmiihmlfaaCw
import Derived.Test.YtgejcdmiihmlfaaCn
namespace Go.Proofs.Ytgejcdmiihmlfaa
open Go.ChangeShapes Go.WideShapes Go.ChangeAt Go.RowKit
open Go.ChangeMaps (open_string shut_string)

set_option maxRecDepth 100000 in
set_option maxHeartbeats 2000000 in
theorem one_walk (a0 a1 : Int) (h0 : 0 ≤ a0 ∧ a0 ≤ 255) (h1 : 0 ≤ a1 ∧ a1 ≤ 255) (w : World) :
    Calls Try.prog 7 #[.int .u8 a0, .int .u8 a1] w fun e w' => e = .returned (.bool true) ∧ Below w.heap.size w w' := by
  have mk := make_ints 22 3 Try.underlying22 info3 65 (by omega) w
  rw [show ((65 : Nat) : Int) = 65 from rfl] at mk
  have om := own_made_ints w 3 65 (by omega)
  have b1 : Below w.heap.size w (w.alloc (.cells (madeCells #[.int .i64 0] 65) 3)) := (Below.refl _ _).alloc (Nat.le_refl _) _
  generalize w.alloc (.cells (madeCells #[.int .i64 0] 65) 3) = w1 at *
  obtain ⟨k, hk⟩ : ∃ k : Nat, a0 % 65 = (k : Int) := ⟨(a0 % 65).toNat, by omega⟩
  have hk65 : k < 65 := by omega
  obtain ⟨m, hm⟩ : ∃ m : Nat, a1 % 14 = (m : Int) := ⟨(a1 % 14).toNat, by omega⟩
  have hm14 : m < 14 := by omega
  have om : w1.ownsRow w.heap.size 3 1 (.slice (some ⟨w.heap.size, 0, none⟩) 65 65) 65 (ivs lZ) := om
  have CO := codes_yes (some ⟨w.heap.size, 0, none⟩) 65 65 lZ w1 (own_ri2 om) may_Z
  have B1 := Hid.intro b1
  clear b1
  obtain ⟨S, hS⟩ : ∃ S, w.heap.size = S := ⟨_, rfl⟩
  have HS := Hid.intro hS
  simp only [hS] at om CO B1 ⊢
  go_enter Try.func7, Try.ntmps7
  go_wp2_with fail
  clear hS mk
  with_reducible refine CO.mono ?_
  rintro e w2 ⟨v, rfl, k3, k4⟩
  have om2 := own_later om k4
  have b2 : Below S w w2 := B1.out.trans (k4.mono (by have := B1.out.size; have := HS.out; omega))
  have hlt : S < w1.heap.size := (om.lt S rfl).2
  obtain ⟨b, cap, rfl⟩ := own_slice k3 (by omega)
  have hbS : w1.heap.size ≤ b := (k3.lt b rfl).1
  obtain ⟨u, hu, fu⟩ := own_one om2 k hk65
  have om3 := own_set om2 k (.int .i64 ((1 : Nat) : Int))
  rw [ivs_set] at om3
  have c3 : Chg (· = S) w2 (w2.setCell ⟨S, k, none⟩ (.int .i64 ((1 : Nat) : Int))) := chg_in (chg_refl _ _) _ _
  have k3' := own_kept k3 c3 (fun x hx => by simp [Value.ownBlock] at hx; omega)
  have b3 := b2.trans (chg_below c3 (by have := b2.size; have := HS.out; omega) (fun x hx => by have := HS.out; omega))
  obtain ⟨y1, y2⟩ := one_yes k hk65
  have CO2 := codes_yes (some ⟨S, 0, none⟩) 65 65 _ _ (own_ri2 om3) y1
  have hbS2 : S < b := by omega
  have l2 : b < w2.heap.size := (k3.lt b rfl).2
  clear CO om om2 b2 k3 k4 c3 B1 y1 hlt hbS
  rw [show ((1 : Nat) : Int) = 1 from rfl] at *
  go_wp2_with fail
  generalize w2.setCell ⟨S, k, none⟩ (.int .i64 1) = w3 at *
  clear hu fu
  with_reducible refine CO2.mono ?_
  rintro e w4 ⟨v2, rfl, j3, j4⟩
  obtain ⟨b', cap', rfl⟩ := own_slice j3 (by omega)
  have om4 := own_later om3 j4
  have n4 := own_later k3' j4
  have b4 : Below S w w4 := b3.trans (j4.mono (by have := b3.size; have := HS.out; omega))
  have hSb' : S < b' := by
    have h1 := (j3.lt b' rfl).1
    have h2 := (om3.lt S rfl).2
    omega
  obtain ⟨u, hu, fu⟩ := own_one om4 k hk65
  have om5 := own_set om4 k (.int .i64 ((2 + m : Nat) : Int))
  rw [ivs_set, List.set_set] at om5
  have c5 : Chg (· = S) w4 (w4.setCell ⟨S, k, none⟩ (.int .i64 ((2 + m : Nat) : Int))) := chg_in (chg_refl _ _) _ _
  have n5 := own_kept n4 c5 (fun x hx => by simp [Value.ownBlock] at hx; omega)
  have j5 := own_kept j3 c5 (fun x hx => by simp [Value.ownBlock] at hx; omega)
  have b5 := b4.trans (chg_below c5 (by have := b4.size; have := HS.out; omega) (fun x hx => by have := HS.out; omega))
  have CO3 := codes_no (some ⟨S, 0, none⟩) 65 65 _ _ (own_ri2 om5) (by omega) (one_no k m hk65 hm14)
  have e2 : ((2 + m : Nat) : Int) = 2 + (m : Int) := by omega
  rw [e2] at CO3 n5 j5 b5
  clear CO2 om3 k3' b3 j3 j4 om4 n4 b4 c5 om5 e2
  go_wp2_with fail
  generalize w4.setCell ⟨S, k, none⟩ (.int .i64 (2 + (m : Int))) = w5 at *
  clear hu fu
  with_reducible refine CO3.mono ?_
  rintro e w6 ⟨rfl, rfl⟩
  obtain ⟨p0, p1, _, _⟩ := cv_cells n5 k hk65
  obtain ⟨q0, q1, _, _⟩ := cv_cells j5 k hk65
  rw [none_at] at p0 p1
  rw [y2] at q0 q1
  have ER := err_any 0 w6
  have ER3 := err_any 3 w6
  have AW := awake_any w6
  have B5 := Hid.intro b5
  clear CO3 n5 j5 b5 y2
  go_wp2_with fail
  with_reducible refine ER.mono ?_
  rintro e w7 ⟨rfl, rfl⟩
  go_wp2_with fail
  with_reducible refine ER.mono ?_
  rintro e w8 ⟨rfl, rfl⟩
  clear ER
  go_wp2_with fail
  with_reducible refine ER3.mono ?_
  rintro e w9 ⟨rfl, rfl⟩
  clear ER3
  go_wp2_with fail
  with_reducible refine AW.mono ?_
  rintro e w10 ⟨rfl, ba⟩
  have B6 := Hid.intro (B5.out.trans (ba.mono (by have := B5.out.size; have := HS.out; omega)))
  clear AW ba
  go_wp2_with fail
  go_ret
  exact ⟨rfl, B6.out⟩
end Go.Proofs.Ytgejcdmiihmlfaa
