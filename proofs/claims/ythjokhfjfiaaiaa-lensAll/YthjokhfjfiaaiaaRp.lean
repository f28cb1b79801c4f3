/-
  The reference's Put of lengths.
-/
import Derived.Test.YthjokhfjfiaaiaaLb
import Derived.Test.YthjokhfjfiaaiaaBu
import Derived.Test.YthjokhfjfiaaiaaMa
namespace Go.Proofs.Ythjokhfjfiaaiaa
open Go.ChangeShapes Go.WideShapes Go.ChangeAt Go.RowKit
open Go.ChangeMaps (open_string shut_string)

theorem at0_drop (L : List Nat) (i m : Nat) : at0 (L.drop i) m = at0 L (i + m) := by
  unfold at0; rw [List.getD_eq_getElem?_getD, List.getD_eq_getElem?_getD, List.getElem?_drop]
theorem rput_nib {w W : World} (A : Nat) (v : Value) (ns : List Nat) (x : Nat) (z : Int) (hz : z = (x : Int)) (h : Ro W A v (4 * ns.length) (nn ns)) (hu : Up w.heap.size A v) (hb : Below w.heap.size w W) (hl : ns.length ≤ 1000) (hx : x < 16) :
    Calls Try.prog 26 #[.pointer (some ⟨A, 0, none⟩), .int .u64 z, .int .i64 4] W fun e W' => e = .returned (.tuple #[]) ∧ ∃ v', Ro W' A v' (4 * (ns ++ [x]).length) (nn (ns ++ [x])) ∧ Up w.heap.size A v' ∧ Below w.heap.size w W' := by
  subst hz
  refine (rput_any A v _ _ x 4 W h (by omega) (by omega)).mono ?_
  rintro e W' ⟨rfl, v', k1, k2, k3⟩
  refine ⟨rfl, v', ?_, up_moved hu k3 hb.size, below_foot hb k2 hu⟩
  have e1 : 4 * (ns ++ [x]).length = 4 * ns.length + cl 4 := by rw [List.length_append]; show _ = 4 * ns.length + 4; simp; omega
  have e2 : nn (ns ++ [x]) = nn ns + x % 2 ^ cl 4 * 2 ^ (4 * ns.length) := by rw [nn_snoc]; show _ = nn ns + x % 16 * _; rw [Nat.mod_eq_of_lt hx]
  rw [e1, e2]; exact k1
def QuRel (L : List Nat) (A : Nat) (w : World) (sv : Value) (wr : World) : Prop :=
  ∃ (i : Nat) (v : Value) (ns : List Nat), i ≤ 65 ∧ sv = .int .i64 i ∧ enc L = ns ++ enc (L.drop i) ∧ Ro wr A v (4 * ns.length) (nn ns) ∧ Up w.heap.size A v ∧ Below w.heap.size w wr
def QiRel (L : List Nat) (i : Nat) (w5 : World) (iv jv : Value) (wr : World) : Prop :=
  ∃ j q : Nat, j ≤ 16 ∧ q ≤ 65 ∧ i + j = q ∧ iv = .int .i64 q ∧ jv = .int .i64 j ∧ (∀ m, m < j → at0 L (i + m) = 0) ∧ wr = w5
set_option maxRecDepth 100000 in
set_option maxHeartbeats 2000000 in
theorem rputl_any (a : Option Addr) (n cap : Nat) (f : List Int) (w : World) (h : RI w a n f) (hn : n ≤ 100000) :
    Calls Try.prog 11 #[.slice a n cap] w fun e w' => e = .returned (.string (bs (putL f))) ∧ Below w.heap.size w w' := by
  have M := mayl_any a n cap f w h hn
  by_cases hm : mayL f = true
  · rw [hm] at M
    obtain ⟨p1, p2, p3, p4, -⟩ := put_facts hm
    obtain ⟨m1, m2, -⟩ := mayL_yes hm
    have HP : Unit → putL f = pk (enc (nat f)) := fun _ => pl_yes hm
    have HB : Unit → ∀ y ∈ enc (nat f), y < 16 := fun _ => p1
    have H3 : Unit → (enc (nat f)).length ≤ 130 := fun _ => p3
    obtain ⟨Z, hZ⟩ : ∃ Z, putL f = Z := ⟨_, rfl⟩
    rw [hZ] at HP ⊢
    have hn65 : n = 65 := by rw [← h.1, m1]
    subst hn65
    have H := Hid.intro h
    have HA := Hid.intro (nat_at f m2)
    have HBD := Hid.intro (nat_bd f m2)
    have HL := Hid.intro (show (nat f).length = 65 by rw [nat_len, m1])
    obtain ⟨L, hL⟩ : ∃ L, nat f = L := ⟨_, rfl⟩
    rw [hL] at HP HB H3 HL HA HBD
    have HRR : Unit → ∀ i r, i < 65 → r ≤ 16 → i + r ≤ 65 → (∀ m, m < r → at0 L (i + m) = 0) → (r = 16 ∨ i + r = 65 ∨ at0 L (i + r) ≠ 0) → row0 (L.drop i) = r := fun _ i r h0 h1 h2 h3 h4 => by
      have hll := HL.out
      refine rowF_of 16 (L.drop i) r h1 (by simp; omega) (fun m hm => by rw [at0_drop]; exact h3 m hm) ?_
      rcases h4 with h | h | h
      · exact .inl h
      · right; left; simp; omega
      · right; right; rw [at0_drop]; exact h
    clear h hm p1 p2 p3 p4 m1 m2 hn hZ hL
    go_enter Try.func11, Try.ntmps11
    go_wp2_with fail
    with_reducible refine M.mono ?_
    rintro e w1 ⟨rfl, rfl⟩
    clear M
    have k1 : Ro (w1.alloc (.cells #[.slice none 0 0] 60)) w1.heap.size (.slice none 0 0) 0 0 := ⟨blk_new _ _ _, World.ownsRow_nil _ _ _ _, by simp [Value.ownBlock], by decide⟩
    have k2 : Up w1.heap.size w1.heap.size (.slice none 0 0) := up_nil _ _ (Nat.le_refl _)
    have k3 : Below w1.heap.size w1 (w1.alloc (.cells #[.slice none 0 0] 60)) := (Below.refl _ _).alloc (Nat.le_refl _) _
    have ST : Unit → QuRel L w1.heap.size w1 (.int .i64 0) (w1.alloc (.cells #[.slice none 0 0] 60)) := fun _ => ⟨0, _, [], by omega, rfl, rfl, k1, k2, k3⟩
    clear k1 k2 k3
    go_wp2_with fail
    generalize w1.alloc (.cells #[.slice none 0 0] 60) = w2 at *
    obtain ⟨A, hA⟩ : ∃ A, w1.heap.size = A := ⟨_, rfl⟩
    simp only [hA] at ST ⊢
    have HAA := Hid.intro hA
    clear hA
    go_loopw [4] (fun sv wr => QuRel L A w1 sv wr) (fun sv _ => 65 - (intOf sv).toNat)
    case atStart => exact ST ()
    case round =>
      clear ST
      obtain ⟨i, v, ns, hi, rfl, he, d1, d2, d3⟩ := hrel
      have hnl : ns.length ≤ 130 := by have := H3 (); rw [he, List.length_append] at this; omega
      by_cases hlt : i < 65
      · obtain ⟨x, rfl, cl0⟩ := ri_at (ri_below H.out d3) i hlt
        rw [HA.out i] at cl0
        have HE : Unit → enc L = ns ++ enc (L.drop i) := fun _ => he
        have D1 := Hid.intro d1
        have D2 := Hid.intro d2
        have D3 := Hid.intro d3
        have hb15 := HBD.out i
        clear he d1 d2 d3
        by_cases hz : at0 L i = 0
        · have hz0 := Hid.intro hz
          rw [hz] at cl0
          rw [show ((0 : Nat) : Int) = 0 from rfl] at cl0
          clear hz hb15
          go_wp2_with fail
          with_reducible refine (rput_nib A v ns 0 0 rfl D1.out D2.out D3.out (by omega) (by omega)).mono ?_
          rintro e w3 ⟨rfl, v3, e1, e2, e3⟩
          have r3 := ri_below H.out e3
          have E1 := Hid.intro e1
          have E2 := Hid.intro e2
          have E3 := Hid.intro e3
          obtain ⟨x', hx', cl1⟩ := ri_at r3 i hlt
          injection hx' with hx'
          subst hx'
          rw [HA.out i, hz0.out, show ((0 : Nat) : Int) = 0 from rfl] at cl1
          have R3 := Hid.intro r3
          clear D1 D2 D3 e1 e2 e3 r3 cl0
          go_wp2_with fail
          clear cl1
          go_loopw [4, 5] (fun iv jv wr => QiRel L i w3 iv jv wr) (fun _ jv _ => 16 - (intOf jv).toNat)
          case atStart => exact ⟨0, i, by omega, by omega, by omega, rfl, rfl, fun m hm => by omega, rfl⟩
          case round =>
            obtain ⟨j, q, hj, hq65, hq', rfl, rfl, hzz, rfl⟩ := hrel
            have hq := Hid.intro hq'
            clear hq'
            by_cases h1 : q < 65
            · obtain ⟨x', hx', cl2⟩ := ri_at R3.out q h1
              injection hx' with hx'
              subst hx'
              rw [HA.out q] at cl2
              by_cases h2 : at0 L q = 0
              · by_cases h3 : j < 16
                · rw [h2, show ((0 : Nat) : Int) = 0 from rfl] at cl2
                  have T : Hid (∀ m, m < j + 1 → at0 L (i + m) = 0) := fun m hm => by
                    by_cases hm2 : m < j
                    · exact hzz m hm2
                    · rw [show i + m = q from by have := hq.out; omega]; exact h2
                  clear hzz h2
                  go_wp2_with fail
                  go_roundw
                  case rel => exact ⟨j + 1, q + 1, by omega, by omega, by have := hq.out; omega, by go_num, by go_num, T.out, rfl⟩
                  case measure => simp [intOf]; omega
                · have hr : Unit → row0 (L.drop i) = j := fun _ => HRR () i j hlt hj (by have := hq.out; omega) hzz (.inl (by omega))
                  rw [h2, show ((0 : Nat) : Int) = 0 from rfl] at cl2
                  clear h2
                  have hj1 : 1 ≤ j := by
                    have h1 := hr ()
                    have h2 := row_le (L.drop i)
                    have e : L.drop i = L[i]'(by rw [HL.out]; exact hlt) :: L.drop (i + 1) := List.drop_eq_getElem_cons _
                    have e0 : L[i]'(by rw [HL.out]; exact hlt) = 0 := by rw [← at0_of]; exact hz0.out
                    have h3 := row_one (L.drop (i + 1))
                    rw [e, e0] at h1
                    omega
                  obtain ⟨y, hy⟩ : ∃ y : Nat, (j : Int) - 1 = (y : Int) := ⟨j - 1, by omega⟩
                  have hyj : y = j - 1 := by omega
                  have HE2 : Unit → enc L = (ns ++ [0] ++ [y]) ++ enc (L.drop q) := fun _ => by
                    rw [HE (), enc_row L i j (by rw [HL.out]; exact hlt) (hr ()) (by omega), ← hyj, hq.out]; simp
                  have hyy := Hid.intro hyj
                  have hy16 : y < 16 := by omega
                  clear hr hyj hzz
                  go_wp2_with fail
                  with_reducible refine (rput_nib A v3 (ns ++ [0]) y y rfl E1.out E2.out E3.out (by simp; omega) hy16).mono ?_
                  rintro e w4 ⟨rfl, v4, f1, f2, f3⟩
                  have F1 := Hid.intro f1
                  have F2 := Hid.intro f2
                  have F3 := Hid.intro f3
                  have hqi : i < q := by have := hq.out; omega
                  clear E1 E2 E3 f1 f2 f3
                  go_wp2_with fail
                  go_roundw
                  case rel => exact ⟨q, v4, _, hq65, rfl, HE2 (), F1.out, F2.out, F3.out⟩
                  case measure => simp [intOf]; omega
              · have hr : Unit → row0 (L.drop i) = j := fun _ => HRR () i j hlt hj (by have := hq.out; omega) hzz (.inr (.inr (by rw [hq.out]; exact h2)))
                obtain ⟨l2, hl2⟩ : ∃ l2, at0 L q = l2 := ⟨_, rfl⟩
                rw [hl2] at cl2 h2
                have t0 : ((l2 : Int) == 0) = false := by simp; omega
                clear hl2
                have hj1 : 1 ≤ j := by
                  have h1 := hr ()
                  have h2 := row_le (L.drop i)
                  have e : L.drop i = L[i]'(by rw [HL.out]; exact hlt) :: L.drop (i + 1) := List.drop_eq_getElem_cons _
                  have e0 : L[i]'(by rw [HL.out]; exact hlt) = 0 := by rw [← at0_of]; exact hz0.out
                  have h3 := row_one (L.drop (i + 1))
                  rw [e, e0] at h1
                  omega
                obtain ⟨y, hy⟩ : ∃ y : Nat, (j : Int) - 1 = (y : Int) := ⟨j - 1, by omega⟩
                have hyj : y = j - 1 := by omega
                have HE2 : Unit → enc L = (ns ++ [0] ++ [y]) ++ enc (L.drop q) := fun _ => by
                  rw [HE (), enc_row L i j (by rw [HL.out]; exact hlt) (hr ()) (by omega), ← hyj, hq.out]; simp
                have hyy := Hid.intro hyj
                have hy16 : y < 16 := by omega
                clear hr hyj hzz
                go_wp2_with fail
                with_reducible refine (rput_nib A v3 (ns ++ [0]) y y rfl E1.out E2.out E3.out (by simp; omega) hy16).mono ?_
                rintro e w4 ⟨rfl, v4, f1, f2, f3⟩
                have F1 := Hid.intro f1
                have F2 := Hid.intro f2
                have F3 := Hid.intro f3
                have hqi : i < q := by have := hq.out; omega
                clear E1 E2 E3 f1 f2 f3
                go_wp2_with fail
                go_roundw
                case rel => exact ⟨q, v4, _, hq65, rfl, HE2 (), F1.out, F2.out, F3.out⟩
                case measure => simp [intOf]; omega
            · have hr : Unit → row0 (L.drop i) = j := fun _ => HRR () i j hlt hj (by have := hq.out; omega) hzz (.inr (.inl (by have := hq.out; omega)))
              have hj1 : 1 ≤ j := by
                have h1 := hr ()
                have h2 := row_le (L.drop i)
                have e : L.drop i = L[i]'(by rw [HL.out]; exact hlt) :: L.drop (i + 1) := List.drop_eq_getElem_cons _
                have e0 : L[i]'(by rw [HL.out]; exact hlt) = 0 := by rw [← at0_of]; exact hz0.out
                have h3 := row_one (L.drop (i + 1))
                rw [e, e0] at h1
                omega
              obtain ⟨y, hy⟩ : ∃ y : Nat, (j : Int) - 1 = (y : Int) := ⟨j - 1, by omega⟩
              have hyj : y = j - 1 := by omega
              have HE2 : Unit → enc L = (ns ++ [0] ++ [y]) ++ enc (L.drop q) := fun _ => by
                rw [HE (), enc_row L i j (by rw [HL.out]; exact hlt) (hr ()) (by omega), ← hyj, hq.out]; simp
              have hyy := Hid.intro hyj
              have hy16 : y < 16 := by omega
              clear hr hyj hzz
              go_wp2_with fail
              with_reducible refine (rput_nib A v3 (ns ++ [0]) y y rfl E1.out E2.out E3.out (by simp; omega) hy16).mono ?_
              rintro e w4 ⟨rfl, v4, f1, f2, f3⟩
              have F1 := Hid.intro f1
              have F2 := Hid.intro f2
              have F3 := Hid.intro f3
              have hqi : i < q := by have := hq.out; omega
              clear E1 E2 E3 f1 f2 f3
              go_wp2_with fail
              go_roundw
              case rel => exact ⟨q, v4, _, hq65, rfl, HE2 (), F1.out, F2.out, F3.out⟩
              case measure => simp [intOf]; omega
        · obtain ⟨l, hl⟩ : ∃ l, at0 L i = l := ⟨_, rfl⟩
          have hro : Unit → row0 (L.drop i) = 0 := fun _ => HRR () i 0 hlt (by omega) (by omega) (fun m hm => by omega) (.inr (.inr (by simpa using hz)))
          have HE2 : Unit → enc L = (ns ++ [l]) ++ enc (L.drop (i + 1)) := fun _ => by
            have e2 := (enc_one L i (by rw [HL.out]; exact hlt) (hro ())).2
            rw [HE (), e2, hl]; simp
          rw [hl] at hz hb15 cl0
          have HLL := Hid.intro hl
          clear HE hro hl
          go_wp2_with fail
          with_reducible refine (rput_nib A v ns l l rfl D1.out D2.out D3.out (by omega) (by omega)).mono ?_
          rintro e w3 ⟨rfl, v3, e1, e2, e3⟩
          have r3 := ri_below H.out e3
          have E1 := Hid.intro e1
          have E2 := Hid.intro e2
          have E3 := Hid.intro e3
          obtain ⟨x', hx', cl1⟩ := ri_at r3 i hlt
          injection hx' with hx'
          subst hx'
          rw [HA.out i, HLL.out] at cl1
          have hpos : 0 < l := by omega
          clear D1 D2 D3 e1 e2 e3 r3 cl0 hz
          go_wp2_with fail
          go_roundw
          case rel => exact ⟨i + 1, v3, _, by omega, by go_num, HE2 (), E1.out, E2.out, E3.out⟩
          case measure => simp [intOf]; omega
      · obtain rfl : i = 65 := by omega
        have e1 : enc L = ns := by
          rw [List.drop_of_length_le (by rw [HL.out]; exact Nat.le_refl _), enc_nil, List.append_nil] at he; exact he
        have B := rbytes_any A v _ _ wr d1 (by omega)
        rw [byt_pk ns (by rw [← e1]; exact HB ()), ← e1, ← HP ()] at B
        unfold ptr at B
        have D3 := Hid.intro d3
        clear he e1 d1 d2 d3
        go_wp2_with fail
        with_reducible refine B.mono ?_
        rintro e w3 ⟨rfl, c3⟩
        have B3 := Hid.intro (below_no D3.out c3)
        clear c3 B D3
        go_wp2_with fail
        go_ret
        exact ⟨rfl, B3.out⟩
  · have hm' : mayL f = false := by simpa using hm
    rw [hm'] at M
    rw [pl_no hm']
    clear hm hm' h
    go_enter Try.func11, Try.ntmps11
    go_wp2_with fail
    with_reducible refine M.mono ?_
    rintro e w1 ⟨rfl, rfl⟩
    clear M
    go_wp2_with fail
    go_ret
    exact ⟨rfl, Below.refl _ _⟩
end Go.Proofs.Ythjokhfjfiaaiaa
