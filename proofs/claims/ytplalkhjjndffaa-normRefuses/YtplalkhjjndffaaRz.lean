/-
  NormRefuses: the walk.
-/
import Derived.Test.YtplalkhjjndffaaGt
import Derived.Test.YtplalkhjjndffaaAw
import Derived.Deep.QuietTactic
import Derived.Deep.RegionWith
import Derived.OwnWalk
import Derived.BigQuiet
namespace Go.Proofs.Ytplalkhjjndffaa
open Go.ChangeShapes Go.WideShapes Go.ChangeAt Go.RowKit
open Go.ChangeMaps (open_string shut_string)


theorem g2_say : getN [97] 2 9 = (1, [], 0) := by decide +kernel
theorem g6_say : getN [97] 0 6 = (1, [], 0) := by decide +kernel
theorem g13_say : getN [97] 0 13 = (1, [], 0) := by decide +kernel
theorem g9_say : getN [97] 0 9 = (2, [], 0) := by decide +kernel
theorem ri_take {W : World} {a : Option Addr} {n : Nat} {zs : List Int} (h : RI W a n zs) (m : Nat) (hm : m ≤ n) : RI W a m (zs.take m) := by
  have hl := h.1
  refine ⟨by rw [List.length_take]; omega, fun h0 => ?_⟩
  obtain ⟨x, hx, hc⟩ := h.2 (by omega)
  refine ⟨x, hx, fun i hi => ?_⟩
  rw [List.length_take] at hi
  rw [hc i (by omega), List.getElem_take]
theorem no_log {f : List Int} {z : Int} (h : lgB z = false) : normA f z = (1, []) ∧ may z f = false := ⟨norm_no (.inl h), by unfold may; rw [h]; rfl⟩
theorem no_cls {f : List Int} (h : ∀ m, okC m f = false) : normA f 9 = (1, []) ∧ may 9 f = false := ⟨norm_no (.inr (.inl (h _))), by unfold may; rw [h]; simp⟩
theorem no_sum {f : List Int} (h : f.sum = 0) : normA f 9 = (1, []) ∧ may 9 f = false := ⟨norm_no (.inr (.inr h)), by unfold may; rw [h]; simp [lgB]⟩
def tk64 : List Int := ((oneF 1 5).map Int.ofNat).take 64
theorem tk_no (m : Int) : okC m tk64 = false := by
  have : tk64.length = 64 := by decide +kernel
  unfold okC; rw [this]; rfl
theorem neg_no (n m : Int) (h : n < 0) : okC m (((oneF 1 5).map Int.ofNat).set 7 n) = false := by
  have : ¬ okC m (((oneF 1 5).map Int.ofNat).set 7 n) = true := fun h1 => by
    have := ((okC_iff _ _).1 h1).2 n (List.mem_iff_getElem.2 ⟨7, by simp [one_len], by simp⟩)
    omega
  simpa using this
theorem zero_sum : (List.replicate 65 (0 : Int)).sum = 0 := by decide +kernel
theorem one_back : (ivs ((oneF 1 5).map Int.ofNat)).set 1 (.int .i64 0) = ivs (List.replicate 65 0) := by
  rw [ivs_set]; congr 1
set_option maxRecDepth 100000 in
set_option maxHeartbeats 4000000 in
theorem refuses_walk (a1 n : Int) (h1 : 0 ≤ a1 ∧ a1 ≤ 255) (h2 : -9223372036854775808 ≤ n ∧ n ≤ 9223372036854775807) (w : World) :
    Calls Try.prog 7 #[.int .u8 a1, .int .i64 n] w fun e w' => e = .returned (.bool true) ∧ Below w.heap.size w w' := by
  obtain ⟨r, hr⟩ : ∃ r : Nat, a1 % 5 = (r : Int) := ⟨(a1 % 5).toNat, by omega⟩
  have hrt : a1.tmod 5 = (r : Int) := by rw [Int.tmod_eq_emod_of_nonneg h1.1]; exact hr
  have mk := make_ints 22 3 Try.underlying22 info3 65 (by omega) w
  rw [show ((65 : Nat) : Int) = 65 from rfl] at mk
  have om := own_made_ints w 3 65 (by omega)
  have b1 : Below w.heap.size w (w.alloc (.cells (madeCells #[.int .i64 0] 65) 3)) := (Below.refl _ _).alloc (Nat.le_refl _) _
  obtain ⟨w1, hw1⟩ : ∃ w1, w.alloc (.cells (madeCells #[.int .i64 0] 65) 3) = w1 := ⟨_, rfl⟩
  rw [hw1] at mk om b1
  obtain ⟨S, hS⟩ : ∃ S, w.heap.size = S := ⟨_, rfl⟩
  have HS := Hid.intro hS
  rw [hS] at mk om b1 ⊢
  obtain ⟨-, s1, f1⟩ := own_there om 1 (by omega)
  obtain ⟨u1, c1⟩ := Option.isSome_iff_exists.1 s1
  have o2 := own_set om 1 (.int .i64 ((5 : Nat) : Int))
  rw [one_ivs] at o2
  rw [show (((5 : Nat) : Int)) = 5 from rfl] at o2
  have b2 := b1.setCell (p := ⟨S, 1, none⟩) (Nat.le_refl _) (.int .i64 5)
  obtain ⟨w2, hw2⟩ : ∃ w2, w1.setCell ⟨S, 1, none⟩ (.int .i64 5) = w2 := ⟨_, rfl⟩
  rw [hw2] at o2 b2
  have G2 : ∀ W, Calls Try.prog 12 #[.string ⟨#[97]⟩, .int .i64 2, .int .i64 9] W fun e W' => GtPost (1, [], 0) W e W' := fun W => by
    have c := get_norm ⟨#[97]⟩ 2 9 W (by decide)
    rw [g2_say] at c
    exact c
  have AW := awake_any
  have HN := Hid.intro h2
  clear om s1 hS b1 hw1 h2
  rcases (by omega : r = 0 ∨ r = 1 ∨ r = 2 ∨ r = 3 ∨ r = 4) with e | e | e | e | e
  all_goals subst e
  · -- 0
      have R := own_ri' o2
      have bW := b2
      have NO := no_log (f := ((oneF 1 5).map Int.ofNat)) (z := 6) (by decide)
      have OF := of_any (some ⟨S, 0, none⟩) 65 65 ((oneF 1 5).map Int.ofNat) 6 w2 R (by omega)
      rw [NO.1] at OF
      have MY : Hid (∀ W, Below w2.heap.size w2 W → Calls Try.prog 16 #[.slice (some ⟨S, 0, none⟩) 65 65, .int .i64 6] W fun e W' => e = .returned (.bool false) ∧ Below W.heap.size W W') := fun W hW => by
        have c := may_any (some ⟨S, 0, none⟩) 65 65 ((oneF 1 5).map Int.ofNat) 6 W (ri_below R hW) (by omega)
        rw [NO.2] at c
        exact c
      have G3 : ∀ W, Calls Try.prog 12 #[.string ⟨#[97]⟩, .int .i64 0, .int .i64 6] W fun e W' => GtPost (1, [], 0) W e W' := fun W => by
        have c := get_norm ⟨#[97]⟩ 0 6 W (by decide)
        rw [g6_say] at c
        exact c
      have BB := Hid.intro bW
      have ZZ : S ≤ w2.heap.size := by have := bW.size; rw [HS.out] at this; exact this
      clear NO R bW o2 b2
      go_enter Try.func7, Try.ntmps7
      go_wp2_with fail
      try simp only [hw2]
      with_reducible refine OF.mono ?_
      rintro e w3 ⟨v, rfl, o3, k3⟩
      clear OF
      have o3' : w3.ownsRow w2.heap.size 3 1 v 0 (ivs []) := o3
      obtain ⟨a', c', rfl, -, -, -⟩ := own_ri (zs := []) o3'
      clear o3 o3'
      have K3 := Hid.intro k3
      clear k3
      go_wp2_with fail
      with_reducible refine (G2 _).mono ?_
      rintro e w4 ⟨v4, rfl, -, k4⟩
      have K4 := Hid.intro (K3.out.trans (k4.mono K3.out.size))
      clear k4
      go_wp2_with fail
      with_reducible refine (G3 _).mono ?_
      rintro e w5 ⟨v5, rfl, -, k5⟩
      have K5 := Hid.intro (K4.out.trans (k5.mono K4.out.size))
      clear k5 G2 G3
      have MY5 := MY.out w5 K5.out
      go_wp2_with fail
      with_reducible refine (err_i _ _).mono ?_
      rintro e w6 ⟨rfl, hw6⟩
      subst hw6
      go_wp2_with fail
      with_reducible refine (err_i _ _).mono ?_
      rintro e w6 ⟨rfl, hw6⟩
      subst hw6
      go_wp2_with fail
      with_reducible refine (err_i _ _).mono ?_
      rintro e w6 ⟨rfl, hw6⟩
      subst hw6
      go_wp2_with fail
      with_reducible refine MY5.mono ?_
      rintro e w7 ⟨rfl, k7⟩
      clear MY5
      have K7 := Hid.intro (K5.out.trans (k7.mono K5.out.size))
      clear k7
      go_wp2_with fail
      with_reducible refine (AW _).mono ?_
      rintro e w8 ⟨rfl, k8⟩
      have K8 := Hid.intro (BB.out.trans ((K7.out.trans (k8.mono K7.out.size)).mono ZZ))
      clear k8
      go_wp2_with fail
      go_ret
      exact ⟨rfl, K8.out⟩
  · -- 1
      have R := own_ri' o2
      have bW := b2
      have NO := no_log (f := ((oneF 1 5).map Int.ofNat)) (z := 13) (by decide)
      have OF := of_any (some ⟨S, 0, none⟩) 65 65 ((oneF 1 5).map Int.ofNat) 13 w2 R (by omega)
      rw [NO.1] at OF
      have MY : Hid (∀ W, Below w2.heap.size w2 W → Calls Try.prog 16 #[.slice (some ⟨S, 0, none⟩) 65 65, .int .i64 13] W fun e W' => e = .returned (.bool false) ∧ Below W.heap.size W W') := fun W hW => by
        have c := may_any (some ⟨S, 0, none⟩) 65 65 ((oneF 1 5).map Int.ofNat) 13 W (ri_below R hW) (by omega)
        rw [NO.2] at c
        exact c
      have G3 : ∀ W, Calls Try.prog 12 #[.string ⟨#[97]⟩, .int .i64 0, .int .i64 13] W fun e W' => GtPost (1, [], 0) W e W' := fun W => by
        have c := get_norm ⟨#[97]⟩ 0 13 W (by decide)
        rw [g13_say] at c
        exact c
      have BB := Hid.intro bW
      have ZZ : S ≤ w2.heap.size := by have := bW.size; rw [HS.out] at this; exact this
      clear NO R bW o2 b2
      go_enter Try.func7, Try.ntmps7
      go_wp2_with fail
      try simp only [hw2]
      with_reducible refine OF.mono ?_
      rintro e w3 ⟨v, rfl, o3, k3⟩
      clear OF
      have o3' : w3.ownsRow w2.heap.size 3 1 v 0 (ivs []) := o3
      obtain ⟨a', c', rfl, -, -, -⟩ := own_ri (zs := []) o3'
      clear o3 o3'
      have K3 := Hid.intro k3
      clear k3
      go_wp2_with fail
      with_reducible refine (G2 _).mono ?_
      rintro e w4 ⟨v4, rfl, -, k4⟩
      have K4 := Hid.intro (K3.out.trans (k4.mono K3.out.size))
      clear k4
      go_wp2_with fail
      with_reducible refine (G3 _).mono ?_
      rintro e w5 ⟨v5, rfl, -, k5⟩
      have K5 := Hid.intro (K4.out.trans (k5.mono K4.out.size))
      clear k5 G2 G3
      have MY5 := MY.out w5 K5.out
      go_wp2_with fail
      with_reducible refine (err_i _ _).mono ?_
      rintro e w6 ⟨rfl, hw6⟩
      subst hw6
      go_wp2_with fail
      with_reducible refine (err_i _ _).mono ?_
      rintro e w6 ⟨rfl, hw6⟩
      subst hw6
      go_wp2_with fail
      with_reducible refine (err_i _ _).mono ?_
      rintro e w6 ⟨rfl, hw6⟩
      subst hw6
      go_wp2_with fail
      with_reducible refine MY5.mono ?_
      rintro e w7 ⟨rfl, k7⟩
      clear MY5
      have K7 := Hid.intro (K5.out.trans (k7.mono K5.out.size))
      clear k7
      go_wp2_with fail
      with_reducible refine (AW _).mono ?_
      rintro e w8 ⟨rfl, k8⟩
      have K8 := Hid.intro (BB.out.trans ((K7.out.trans (k8.mono K7.out.size)).mono ZZ))
      clear k8
      go_wp2_with fail
      go_ret
      exact ⟨rfl, K8.out⟩
  · -- 2
      have R := ri_take (own_ri' o2) 64 (by omega)
      have bW := b2
      have NO := no_cls tk_no
      have OF := of_any (some ⟨S, 0, none⟩) 64 65 tk64 9 w2 R (by omega)
      rw [NO.1] at OF
      have MY : Hid (∀ W, Below w2.heap.size w2 W → Calls Try.prog 16 #[.slice (some ⟨S, 0, none⟩) 64 65, .int .i64 9] W fun e W' => e = .returned (.bool false) ∧ Below W.heap.size W W') := fun W hW => by
        have c := may_any (some ⟨S, 0, none⟩) 64 65 tk64 9 W (ri_below R hW) (by omega)
        rw [NO.2] at c
        exact c
      have G3 : ∀ W, Calls Try.prog 12 #[.string ⟨#[97]⟩, .int .i64 0, .int .i64 9] W fun e W' => GtPost (2, [], 0) W e W' := fun W => by
        have c := get_norm ⟨#[97]⟩ 0 9 W (by decide)
        rw [g9_say] at c
        exact c
      have BB := Hid.intro bW
      have ZZ : S ≤ w2.heap.size := by have := bW.size; rw [HS.out] at this; exact this
      clear NO R bW o2 b2
      go_enter Try.func7, Try.ntmps7
      go_wp2_with fail
      try simp only [hw2]
      with_reducible refine OF.mono ?_
      rintro e w3 ⟨v, rfl, o3, k3⟩
      clear OF
      have o3' : w3.ownsRow w2.heap.size 3 1 v 0 (ivs []) := o3
      obtain ⟨a', c', rfl, -, -, -⟩ := own_ri (zs := []) o3'
      clear o3 o3'
      have K3 := Hid.intro k3
      clear k3
      go_wp2_with fail
      with_reducible refine (G2 _).mono ?_
      rintro e w4 ⟨v4, rfl, -, k4⟩
      have K4 := Hid.intro (K3.out.trans (k4.mono K3.out.size))
      clear k4
      go_wp2_with fail
      with_reducible refine (G3 _).mono ?_
      rintro e w5 ⟨v5, rfl, -, k5⟩
      have K5 := Hid.intro (K4.out.trans (k5.mono K4.out.size))
      clear k5 G2 G3
      have MY5 := MY.out w5 K5.out
      go_wp2_with fail
      with_reducible refine (err_i _ _).mono ?_
      rintro e w6 ⟨rfl, hw6⟩
      subst hw6
      go_wp2_with fail
      with_reducible refine (err_i _ _).mono ?_
      rintro e w6 ⟨rfl, hw6⟩
      subst hw6
      go_wp2_with fail
      with_reducible refine (err_i _ _).mono ?_
      rintro e w6 ⟨rfl, hw6⟩
      subst hw6
      go_wp2_with fail
      with_reducible refine (err_i _ _).mono ?_
      rintro e w6 ⟨rfl, hw6⟩
      subst hw6
      go_wp2_with fail
      with_reducible refine MY5.mono ?_
      rintro e w7 ⟨rfl, k7⟩
      clear MY5
      have K7 := Hid.intro (K5.out.trans (k7.mono K5.out.size))
      clear k7
      go_wp2_with fail
      with_reducible refine (AW _).mono ?_
      rintro e w8 ⟨rfl, k8⟩
      have K8 := Hid.intro (BB.out.trans ((K7.out.trans (k8.mono K7.out.size)).mono ZZ))
      clear k8
      go_wp2_with fail
      go_ret
      exact ⟨rfl, K8.out⟩
  · -- 3
      obtain ⟨q, hq⟩ : ∃ q : Int, min n (-1) = q := ⟨_, rfl⟩
      obtain ⟨-, s7, f7⟩ := own_there o2 7 (by omega)
      obtain ⟨u7, c7⟩ := Option.isSome_iff_exists.1 s7
      have o3 := own_set o2 7 (.int .i64 q)
      rw [nis_map, ivs_set] at o3
      have R := own_ri' o3
      have bW := b2.setCell (p := ⟨S, 7, none⟩) (Nat.le_refl _) (.int .i64 q)
      obtain ⟨w3', hw3⟩ : ∃ w3', w2.setCell ⟨S, 7, none⟩ (.int .i64 q) = w3' := ⟨_, rfl⟩
      rw [hw3] at R bW
      have qn : q < 0 := by omega
      clear o3 s7
      have NO := no_cls (fun m => neg_no q m qn)
      have OF := of_any (some ⟨S, 0, none⟩) 65 65 (((oneF 1 5).map Int.ofNat).set 7 q) 9 w3' R (by omega)
      rw [NO.1] at OF
      have MY : Hid (∀ W, Below w3'.heap.size w3' W → Calls Try.prog 16 #[.slice (some ⟨S, 0, none⟩) 65 65, .int .i64 9] W fun e W' => e = .returned (.bool false) ∧ Below W.heap.size W W') := fun W hW => by
        have c := may_any (some ⟨S, 0, none⟩) 65 65 (((oneF 1 5).map Int.ofNat).set 7 q) 9 W (ri_below R hW) (by omega)
        rw [NO.2] at c
        exact c
      have G3 : ∀ W, Calls Try.prog 12 #[.string ⟨#[97]⟩, .int .i64 0, .int .i64 9] W fun e W' => GtPost (2, [], 0) W e W' := fun W => by
        have c := get_norm ⟨#[97]⟩ 0 9 W (by decide)
        rw [g9_say] at c
        exact c
      have BB := Hid.intro bW
      have ZZ : S ≤ w3'.heap.size := by have := bW.size; rw [HS.out] at this; exact this
      clear NO R bW o2 b2
      go_enter Try.func7, Try.ntmps7
      go_wp2_with fail
      try simp only [hw2]
      try simp only [hw3]
      with_reducible refine OF.mono ?_
      rintro e w3 ⟨v, rfl, o3, k3⟩
      clear OF
      have o3' : w3.ownsRow w3'.heap.size 3 1 v 0 (ivs []) := o3
      obtain ⟨a', c', rfl, -, -, -⟩ := own_ri (zs := []) o3'
      clear o3 o3'
      have K3 := Hid.intro k3
      clear k3
      go_wp2_with fail
      with_reducible refine (G2 _).mono ?_
      rintro e w4 ⟨v4, rfl, -, k4⟩
      have K4 := Hid.intro (K3.out.trans (k4.mono K3.out.size))
      clear k4
      go_wp2_with fail
      with_reducible refine (G3 _).mono ?_
      rintro e w5 ⟨v5, rfl, -, k5⟩
      have K5 := Hid.intro (K4.out.trans (k5.mono K4.out.size))
      clear k5 G2 G3
      have MY5 := MY.out w5 K5.out
      go_wp2_with fail
      with_reducible refine (err_i _ _).mono ?_
      rintro e w6 ⟨rfl, hw6⟩
      subst hw6
      go_wp2_with fail
      with_reducible refine (err_i _ _).mono ?_
      rintro e w6 ⟨rfl, hw6⟩
      subst hw6
      go_wp2_with fail
      with_reducible refine (err_i _ _).mono ?_
      rintro e w6 ⟨rfl, hw6⟩
      subst hw6
      go_wp2_with fail
      with_reducible refine (err_i _ _).mono ?_
      rintro e w6 ⟨rfl, hw6⟩
      subst hw6
      go_wp2_with fail
      with_reducible refine MY5.mono ?_
      rintro e w7 ⟨rfl, k7⟩
      clear MY5
      have K7 := Hid.intro (K5.out.trans (k7.mono K5.out.size))
      clear k7
      go_wp2_with fail
      with_reducible refine (AW _).mono ?_
      rintro e w8 ⟨rfl, k8⟩
      have K8 := Hid.intro (BB.out.trans ((K7.out.trans (k8.mono K7.out.size)).mono ZZ))
      clear k8
      go_wp2_with fail
      go_ret
      exact ⟨rfl, K8.out⟩
  · -- 4
      obtain ⟨-, s7, f7⟩ := own_there o2 1 (by omega)
      obtain ⟨u7, c7⟩ := Option.isSome_iff_exists.1 s7
      have o3 := own_set o2 1 (.int .i64 0)
      rw [nis_map, one_back] at o3
      have R := own_ri' o3
      have bW := b2.setCell (p := ⟨S, 1, none⟩) (Nat.le_refl _) (.int .i64 0)
      obtain ⟨w3', hw3⟩ : ∃ w3', w2.setCell ⟨S, 1, none⟩ (.int .i64 0) = w3' := ⟨_, rfl⟩
      rw [hw3] at R bW
      clear o3 s7
      have NO := no_sum zero_sum
      have OF := of_any (some ⟨S, 0, none⟩) 65 65 (List.replicate 65 0) 9 w3' R (by omega)
      rw [NO.1] at OF
      have MY : Hid (∀ W, Below w3'.heap.size w3' W → Calls Try.prog 16 #[.slice (some ⟨S, 0, none⟩) 65 65, .int .i64 9] W fun e W' => e = .returned (.bool false) ∧ Below W.heap.size W W') := fun W hW => by
        have c := may_any (some ⟨S, 0, none⟩) 65 65 (List.replicate 65 0) 9 W (ri_below R hW) (by omega)
        rw [NO.2] at c
        exact c
      have G3 : ∀ W, Calls Try.prog 12 #[.string ⟨#[97]⟩, .int .i64 0, .int .i64 9] W fun e W' => GtPost (2, [], 0) W e W' := fun W => by
        have c := get_norm ⟨#[97]⟩ 0 9 W (by decide)
        rw [g9_say] at c
        exact c
      have BB := Hid.intro bW
      have ZZ : S ≤ w3'.heap.size := by have := bW.size; rw [HS.out] at this; exact this
      clear NO R bW o2 b2
      go_enter Try.func7, Try.ntmps7
      go_wp2_with fail
      try simp only [hw2]
      try simp only [hw3]
      with_reducible refine OF.mono ?_
      rintro e w3 ⟨v, rfl, o3, k3⟩
      clear OF
      have o3' : w3.ownsRow w3'.heap.size 3 1 v 0 (ivs []) := o3
      obtain ⟨a', c', rfl, -, -, -⟩ := own_ri (zs := []) o3'
      clear o3 o3'
      have K3 := Hid.intro k3
      clear k3
      go_wp2_with fail
      with_reducible refine (G2 _).mono ?_
      rintro e w4 ⟨v4, rfl, -, k4⟩
      have K4 := Hid.intro (K3.out.trans (k4.mono K3.out.size))
      clear k4
      go_wp2_with fail
      with_reducible refine (G3 _).mono ?_
      rintro e w5 ⟨v5, rfl, -, k5⟩
      have K5 := Hid.intro (K4.out.trans (k5.mono K4.out.size))
      clear k5 G2 G3
      have MY5 := MY.out w5 K5.out
      go_wp2_with fail
      with_reducible refine (err_i _ _).mono ?_
      rintro e w6 ⟨rfl, hw6⟩
      subst hw6
      go_wp2_with fail
      with_reducible refine (err_i _ _).mono ?_
      rintro e w6 ⟨rfl, hw6⟩
      subst hw6
      go_wp2_with fail
      with_reducible refine (err_i _ _).mono ?_
      rintro e w6 ⟨rfl, hw6⟩
      subst hw6
      go_wp2_with fail
      with_reducible refine (err_i _ _).mono ?_
      rintro e w6 ⟨rfl, hw6⟩
      subst hw6
      go_wp2_with fail
      with_reducible refine MY5.mono ?_
      rintro e w7 ⟨rfl, k7⟩
      clear MY5
      have K7 := Hid.intro (K5.out.trans (k7.mono K5.out.size))
      clear k7
      go_wp2_with fail
      with_reducible refine (AW _).mono ?_
      rintro e w8 ⟨rfl, k8⟩
      have K8 := Hid.intro (BB.out.trans ((K7.out.trans (k8.mono K7.out.size)).mono ZZ))
      clear k8
      go_wp2_with fail
      go_ret
      exact ⟨rfl, K8.out⟩
end Go.Proofs.Ytplalkhjjndffaa
