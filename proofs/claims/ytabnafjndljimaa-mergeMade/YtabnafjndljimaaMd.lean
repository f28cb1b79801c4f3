/-
  Lengths of frequencies by numbers: the walk of MergeMade.
-/
import Derived.Test.YtabnafjndljimaaAl
import Derived.Test.YtabnafjndljimaaFq
namespace Go.Proofs.Ytabnafjndljimaa
open Go.ChangeShapes Go.WideShapes Go.ChangeAt Go.RowKit
open Go.ChangeMaps (open_string shut_string)

theorem freq_may {F : List Int} (hF : ∀ z ∈ F, (0 : Int) ≤ z ∧ z ≤ 65535) (k : Nat) (h7 : 7 ≤ k) (h15 : k ≤ 15) : mayB F 65 (k : Int) = true := mayB_of F k (fun z hz => by have := hF z hz; omega) h7 h15
set_option maxRecDepth 100000 in
set_option maxHeartbeats 2000000 in
theorem made_walk (a : Option Addr) (n cap : Nat) (lim : Int) (w : World) (h : RU w a n) (hn : n ≤ 9223372036854775807) (hl : 0 ≤ lim ∧ lim ≤ 255) :
    Calls Try.prog 4 #[.slice a n cap, .int .u8 lim] w fun e w' => e = .returned (.bool true) ∧ Below w.heap.size w w' := by
  by_cases h0 : 140 < n
  · have AW0 := awake_any w
    clear h
    go_enter Try.func4, Try.ntmps4
    go_wp2_with fail
    with_reducible refine AW0.mono ?_
    rintro e w4 ⟨rfl, k5⟩
    clear AW0
    go_wp2_with fail
    go_ret
    exact ⟨rfl, k5⟩
  · have FQ := freq_any a n cap w h (by omega)
    obtain ⟨k, hk⟩ : ∃ k : Nat, 7 + lim % 9 = (k : Int) := ⟨(7 + lim % 9).toNat, by omega⟩
    have k7 : 7 ≤ k := by omega
    have k15 : k ≤ 15 := by omega
    clear h
    go_enter Try.func4, Try.ntmps4
    go_wp2_with fail
    with_reducible refine FQ.mono ?_
    rintro e w1 ⟨v, F, rfl, f1, f2, f3, f4⟩
    obtain ⟨bf, cf, rfl⟩ := own_slice f3 (by omega)
    have MB := freq_may f2 k k7 k15
    have LE := lengths_yes (some ⟨bf, 0, none⟩) cf F k w1 (own_ri2 f3) MB
    have HF := Hid.intro (And.intro f3 (And.intro f4 MB))
    clear FQ f1 f2 f3 f4 MB
    go_wp2_with fail
    with_reducible refine LE.mono ?_
    rintro e w5 ⟨v, o, r, rfl, k1, k2, k3, k4⟩
    obtain ⟨f3, f4, MB⟩ := HF.out
    have RL := rlengths_yes (some ⟨bf, 0, none⟩) cf F k w5 (ri_below (own_ri2 f3) k4) MB
    have K := Hid.intro (And.intro k1 (And.intro k2 (And.intro k3 k4)))
    obtain ⟨bl, cl, rfl⟩ := own_slice k3 (by omega)
    clear LE k1 k2 k3 k4 f3 f4 MB hk
    go_wp2_with fail
    with_reducible refine RL.mono ?_
    rintro e w6 hpost
    obtain ⟨vx, o', r', rfl, m1, m2, m3, m4⟩ := hpost
    obtain ⟨k1, k2, k3, k4⟩ := K.out
    obtain rfl := ordered_one k1 m1
    obtain rfl := ranks_one k2 m2
    obtain ⟨bx, cx, rfl⟩ := own_slice m3 (by omega)
    have b8 : Below w6.heap.size w6 (w6.alloc (.cells #[.slice (some ⟨bx, 0, none⟩) 65 cx, .int .i64 0] 28)) := (Below.refl _ _).alloc (Nat.le_refl _) _
    have bk8 := blk_new w6 #[.slice (some ⟨bx, 0, none⟩) 65 cx, .int .i64 0] 28
    have B6 : Below w.heap.size w w6 := (HF.out.2.1.trans (k4.mono HF.out.2.1.size)).trans (m4.mono (Nat.le_trans HF.out.2.1.size k4.size))
    have B8 := Hid.intro (B6.trans (b8.mono B6.size))
    have SA : Calls Try.prog 12 #[.slice (some ⟨bl, 0, none⟩) 65 cl, .slice (some ⟨bx, 0, none⟩) 65 cx] (w6.alloc (.cells #[.slice (some ⟨bx, 0, none⟩) 65 cx, .int .i64 0] 28)) fun e W' => e = .returned (.bool true) ∧ Below (w6.alloc (.cells #[.slice (some ⟨bx, 0, none⟩) 65 cx, .int .i64 0] 28)).heap.size (w6.alloc (.cells #[.slice (some ⟨bx, 0, none⟩) 65 cx, .int .i64 0] 28)) W' := by
      have c := sameI_any (some ⟨bl, 0, none⟩) (some ⟨bx, 0, none⟩) 65 65 cl cx _ _ _ (ri_below (own_ri2 (own_later k3 m4)) b8) (ri_below (own_ri2 m3) b8) (by omega) (by omega)
      rw [decide_eq_true rfl] at c; exact c
    have HBK := Hid.intro bk8
    clear RL K k1 k2 k3 k4 m1 m2 m3 m4 b8 B6 HF bk8
    go_wp2_with fail
    with_reducible refine SA.mono ?_
    rintro e w9 ⟨rfl, hb9⟩
    have B9 := Hid.intro (B8.out.trans (hb9.mono B8.out.size))
    have bk9 := blk_below HBK.out hb9 (blk_lt HBK.out)
    have c1 : w9.cell? ⟨w6.heap.size, 1, none⟩ = some (.int .i64 0) := by rw [blk_cell bk9]; rfl
    have ER := err_any 0 w9
    clear SA hb9 HBK bk9 B8
    go_wp2_with fail
    with_reducible refine ER.mono ?_
    rintro e w10 ⟨rfl, rfl⟩
    have AW := awake_any w10
    clear ER
    go_wp2_with fail
    with_reducible refine AW.mono ?_
    rintro e w11 ⟨rfl, k5⟩
    have B11 := Hid.intro (B9.out.trans (k5.mono B9.out.size))
    clear AW k5
    go_wp2_with fail
    go_ret
    exact ⟨rfl, B11.out⟩
end Go.Proofs.Ytabnafjndljimaa
