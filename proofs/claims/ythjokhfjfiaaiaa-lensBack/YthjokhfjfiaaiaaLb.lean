/-
  How many noughts lengths begin with; put of lengths.
-/
import Derived.Test.YthjokhfjfiaaiaaNg
import Derived.Test.YthjokhfjfiaaiaaCa
import Derived.Test.YthjokhfjfiaaiaaBw
namespace Go.Proofs.Ythjokhfjfiaaiaa
open Go.ChangeShapes Go.WideShapes Go.ChangeAt Go.RowKit
open Go.ChangeMaps (open_string shut_string)

def RwRel (L : List Nat) (n : Nat) (w : World) (sv : Value) (wr : World) : Prop :=
  ∃ i : Nat, i ≤ 16 ∧ i ≤ n ∧ sv = .int .i64 i ∧ (∀ j, j < i → at0 L j = 0) ∧ wr = w
set_option maxRecDepth 100000 in
set_option maxHeartbeats 1000000 in
theorem row_any (a : Option Addr) (n cap : Nat) (f : List Int) (w : World) (h : RI w a n f) (hf : ∀ z ∈ f, 0 ≤ z ∧ z ≤ 15) (hn : n ≤ 100000) :
    Calls Try.prog 23 #[.slice a n cap] w fun e w' => e = .returned (.int .i64 (row0 (nat f) : Nat)) ∧ w' = w := by
  have H := Hid.intro h
  have HA := Hid.intro (nat_at f hf)
  have HN := Hid.intro (show (nat f).length = n by rw [nat_len, h.1])
  have HR := Hid.intro (rowF_of 16 (nat f))
  obtain ⟨L, hL⟩ : ∃ L, nat f = L := ⟨_, rfl⟩
  rw [hL] at HA HN HR ⊢
  have HRR : Hid (∀ i, i ≤ 16 → i ≤ L.length → (∀ j, j < i → at0 L j = 0) → (i = 16 ∨ i = L.length ∨ at0 L i ≠ 0) → row0 L = i) := HR.out
  generalize row0 L = r at *
  clear h hf hL HR
  go_enter Try.func23, Try.ntmps23
  go_wp2_with fail
  go_loopw [3] (fun sv wr => RwRel L n w sv wr) (fun sv _ => 16 - (intOf sv).toNat)
  case atStart => exact ⟨0, by omega, by omega, rfl, fun j hj => by omega, rfl⟩
  case round =>
    obtain ⟨i, hi, hin, rfl, hz, rfl⟩ := hrel
    by_cases hlt : i < n
    · by_cases h16 : i < 16
      · obtain ⟨x, rfl, cl⟩ := ri_at H.out i hlt
        rw [HA.out i] at cl
        have HS : Hid (at0 L i = 0 → ∀ j, j < i + 1 → at0 L j = 0) := fun e j hj => by
          by_cases hj2 : j < i
          · exact hz j hj2
          · rw [show j = i from by omega]; exact e
        have HE : Hid (at0 L i ≠ 0 → r = i) := fun e => HRR.out i hi (by rw [HN.out]; exact hin) hz (.inr (.inr e))
        generalize at0 L i = l at *
        clear hz
        by_cases hl : l = 0
        · subst hl
          have T := Hid.intro (HS.out rfl)
          clear HS HE
          go_wp2_with fail
          go_roundw
          case rel => exact ⟨i + 1, by omega, by omega, by go_num, T.out, rfl⟩
          case measure => simp [intOf]; omega
        · have T := Hid.intro (HE.out hl)
          clear HS HE
          have t0 : ((l : Int) == 0) = false := by simp; omega
          go_wp2_with fail
          go_ret
          exact ⟨ret_int (by rw [T.out]), rfl⟩
      · have T := Hid.intro (HRR.out i hi (by rw [HN.out]; exact hin) hz (.inl (by omega)))
        clear hz
        go_wp2_with fail
        go_ret
        exact ⟨ret_int (by rw [T.out]), rfl⟩
    · have T := Hid.intro (HRR.out i hi (by rw [HN.out]; exact hin) hz (.inr (.inl (by rw [HN.out]; omega))))
      clear hz
      go_wp2_with fail
      go_ret
      exact ⟨ret_int (by rw [T.out]), rfl⟩

theorem put_nib {w W : World} (A : Nat) (v : Value) (ns : List Nat) (x : Nat) (z : Int) (hz : z = (x : Int)) (h : Wr W A v (4 * ns.length) (nn ns)) (hu : Up w.heap.size A v) (hb : Below w.heap.size w W) (hl : ns.length ≤ 1000) (hx : x < 16) :
    Calls Try.prog 24 #[.pointer (some ⟨A, 0, none⟩), .int .u64 z, .int .i64 4] W fun e W' => e = .returned (.tuple #[]) ∧ ∃ v', Wr W' A v' (4 * (ns ++ [x]).length) (nn (ns ++ [x])) ∧ Up w.heap.size A v' ∧ Below w.heap.size w W' := by
  subst hz
  refine (put_own A v _ _ x 4 h hu hb (by omega) (by omega) (by omega) (by omega) (4 * (ns ++ [x]).length) (nn (ns ++ [x])) (by rw [List.length_append]; show 4 * ns.length + 4 = _; simp; omega) (by rw [nn_snoc]; show nn ns + x % 16 * _ = _; rw [Nat.mod_eq_of_lt hx])).mono ?_
  rintro e W' ⟨rfl, v', k1, k2, k3, _, _⟩
  exact ⟨rfl, v', k1, k2, k3⟩
theorem nat_drop (f : List Int) (i : Nat) : nat (f.drop i) = (nat f).drop i := by unfold nat; rw [List.map_drop]
theorem ri_drop {W : World} {x : Addr} {n : Nat} {f : List Int} (h : RI W (some x) n f) (i : Nat) : RI W (some (x.add i)) (n - i) (f.drop i) := by
  have hl := h.1
  refine ⟨by simp; omega, fun h0 => ⟨_, rfl, fun j hj => ?_⟩⟩
  obtain ⟨y, hy, hc⟩ := h.2 (by omega)
  injection hy with hy
  subst hy
  simp at hj
  have := hc (i + j) (by omega)
  rw [List.getElem_drop, ← this]
  congr 1
  exact Addr.add_add x i j
theorem elem22 : Try.prog.elem 22 = 3 := by kernel_rfl
theorem size3 (W : World) : (sizeOf 3).run Try.prog W = .ok 1 W := by kernel_rfl
theorem slice_from (x : Addr) (n cap i : Nat) (hi : i ≤ n) (hne : ¬ cap = i) (W : World) : (Instr.slice 22 (.slice (some x) n cap) (some (.int .i64 (i : Int))) none none).run Try.prog W = .ok (.slice (some (x.add i)) (n - i) (cap - i)) W := by
  rw [run_slice_l (P := Try.prog) W 22 (some x) n cap (by rw [elem22]; exact Try.underlying22) .i64 (i : Int) (by omega) (by omega), elem22, size3]
  simp [Result.andThen, sliced, hne]
def PuRel (L : List Nat) (A : Nat) (w : World) (sv : Value) (wr : World) : Prop :=
  ∃ (i : Nat) (v : Value) (ns : List Nat), i ≤ 65 ∧ sv = .int .i64 i ∧ enc L = ns ++ enc (L.drop i) ∧ Wr wr A v (4 * ns.length) (nn ns) ∧ Up w.heap.size A v ∧ Below w.heap.size w wr
theorem no_text : (.string ⟨#[]⟩ : Value) = .string (bs []) := rfl
set_option maxRecDepth 100000 in
set_option maxHeartbeats 2000000 in
theorem lput_any (a : Option Addr) (n cap : Nat) (f : List Int) (w : World) (h : RI w a n f) (hn : n ≤ 100000) (hc : n ≤ cap) (hc2 : cap ≤ 9223372036854775807) :
    Calls Try.prog 10 #[.slice a n cap] w fun e w' => e = .returned (.string (bs (putL f))) ∧ Below w.heap.size w w' := by
  have M := may_any a n cap f w h hn
  by_cases hm : mayL f = true
  · rw [hm] at M
    obtain ⟨p1, p2, p3, p4, -⟩ := put_facts hm
    obtain ⟨m1, m2, -⟩ := mayL_yes hm
    have HP : Unit → putL f = pk (enc (nat f)) := fun _ => pl_yes hm
    have HB : Unit → ∀ y ∈ enc (nat f), y < 16 := fun _ => p1
    have H3 : Unit → (enc (nat f)).length ≤ 130 := fun _ => p3
    obtain ⟨Z, hZ⟩ : ∃ Z, putL f = Z := ⟨_, rfl⟩
    rw [hZ] at HP ⊢
    have HF := Hid.intro m2
    have H := Hid.intro h
    have hn65 : n = 65 := by rw [← h.1, m1]
    subst hn65
    have HL := Hid.intro (show (nat f).length = 65 by rw [nat_len, m1])
    have HD := Hid.intro (nat_drop f)
    obtain ⟨L, hL⟩ : ∃ L, nat f = L := ⟨_, rfl⟩
    have HN : Hid (nat f = L) := hL
    rw [hL] at HP HB H3 HL HD
    clear h hm p1 p2 p3 p4 m1 m2 hn hZ hL
    go_enter Try.func10, Try.ntmps10
    go_wp2_with fail
    with_reducible refine M.mono ?_
    rintro e w1 ⟨rfl, rfl⟩
    clear M
    go_wp2_with fail
    refine (new_own (Below.refl w1.heap.size w1)).mono ?_
    rintro e w2 ⟨A, rfl, hA, k1, k2, k3, -⟩
    unfold ptr
    go_wp2_with fail
    go_loopw [4] (fun sv wr => PuRel L A w1 sv wr) (fun sv _ => 65 - (intOf sv).toNat)
    case atStart => exact ⟨0, _, [], by omega, rfl, rfl, k1, k2, k3⟩
    case round =>
      clear k1 k2 k3
      obtain ⟨i, v, ns, hi, rfl, he, d1, d2, d3⟩ := hrel
      by_cases hlt : i < 65
      · have hr := ri_below H.out d3
        obtain ⟨x, rfl, -⟩ := hr.2 (by omega)
        have hne : ¬ cap = i := by omega
        have sl := slice_from x 65 cap i (by omega) hne wr
        clear hne
        have R := row_any _ _ (cap - i) _ wr (ri_drop hr i) (fun z hz => HF.out z (List.mem_of_mem_drop hz)) (by omega)
        rw [HD.out i] at R
        have hll := HL.out
        obtain ⟨r, hr0⟩ : ∃ r, row0 (L.drop i) = r := ⟨_, rfl⟩
        have rl := row_le (L.drop i)
        rw [hr0] at R rl
        have r16 : r ≤ 16 := rl.1
        have r65 : i + r ≤ 65 := by have := rl.2.1; rw [List.length_drop, hll] at this; omega
        have HR : Unit → row0 (L.drop i) = r := fun _ => hr0
        have HE : Unit → enc L = ns ++ enc (L.drop i) := fun _ => he
        have D1 := Hid.intro d1
        have D2 := Hid.intro d2
        have D3 := Hid.intro d3
        have HRI := Hid.intro hr
        clear hr0 he d1 d2 d3 hr rl hll
        have hnl : ns.length ≤ 130 := by have := H3 (); rw [HE (), List.length_append] at this; omega
        go_wp2_with fail
        with_reducible refine R.mono ?_
        rintro e wx ⟨rfl, hwx⟩
        subst hwx
        clear R sl
        by_cases hr : 0 < r
        · obtain ⟨y, hy⟩ : ∃ y : Nat, (r : Int) - 1 = (y : Int) := ⟨r - 1, by omega⟩
          have hyr : Hid (y = r - 1) := by show _ = _; omega
          have hy16 : y < 16 := by omega
          have HE2 : Unit → enc L = (ns ++ [0] ++ [y]) ++ enc (L.drop (i + r)) := fun _ => by
            have e1 := HE ()
            rw [enc_row L i r (by rw [HL.out]; exact hlt) (HR ()) hr, ← hyr.out] at e1
            rw [e1]; simp
          clear HE HR
          go_wp2_with fail
          with_reducible refine (put_nib A v ns 0 0 rfl D1.out D2.out D3.out (by omega) (by omega)).mono ?_
          rintro e w3 ⟨rfl, v3, e1, e2, e3⟩
          have E1 := Hid.intro e1
          have E2 := Hid.intro e2
          have E3 := Hid.intro e3
          clear D1 D2 D3 HRI e1 e2 e3
          go_wp2_with fail
          with_reducible refine (put_nib A v3 (ns ++ [0]) y y rfl E1.out E2.out E3.out (by simp; omega) hy16).mono ?_
          rintro e w4 ⟨rfl, v4, e1, e2, e3⟩
          have F1 := Hid.intro e1
          have F2 := Hid.intro e2
          have F3 := Hid.intro e3
          clear E1 E2 E3 e1 e2 e3
          go_wp2_with fail
          go_roundw
          case rel => exact ⟨i + r, v4, _, r65, by go_num, HE2 (), F1.out, F2.out, F3.out⟩
          case measure => simp [intOf]; omega
        · have hr0 : r = 0 := by omega
          subst hr0
          obtain ⟨hp, he⟩ := enc_one L i (by rw [HL.out]; exact hlt) (HR ())
          obtain ⟨x', hx', cl⟩ := ri_at HRI.out i hlt
          injection hx' with hx'
          subst hx'
          have hnb : at0 L i < 16 := by
            refine HB () _ ?_
            rw [HE (), he]; simp
          rw [nat_at f HF.out i, HN.out] at cl
          have HE2 : Unit → enc L = (ns ++ [at0 L i]) ++ enc (L.drop (i + 1)) := fun _ => by
            rw [HE (), he]; simp
          generalize at0 L i = l at *
          clear HE HR he
          go_wp2_with fail
          with_reducible refine (put_nib A v ns l l rfl D1.out D2.out D3.out (by omega) hnb).mono ?_
          rintro e w3 ⟨rfl, v3, e1, e2, e3⟩
          have E1 := Hid.intro e1
          have E2 := Hid.intro e2
          have E3 := Hid.intro e3
          clear D1 D2 D3 HRI e1 e2 e3 cl
          go_wp2_with fail
          go_roundw
          case rel => exact ⟨i + 1, v3, _, by omega, by go_num, HE2 (), E1.out, E2.out, E3.out⟩
          case measure => simp [intOf]; omega
      · obtain rfl : i = 65 := by omega
        have e1 : enc L = ns := by
          rw [List.drop_of_length_le (by rw [HL.out]; exact Nat.le_refl _), enc_nil, List.append_nil] at he; exact he
        have B := bytes_any A v _ _ wr d1
        rw [byt_pk ns (by rw [← e1]; exact HB ()), ← e1, ← HP ()] at B
        unfold ptr at B
        have D3 := Hid.intro d3
        clear he e1 d1 d2 d3
        go_wp2_with fail
        with_reducible refine B.mono ?_
        rintro e w3 ⟨rfl, hw3⟩
        subst hw3
        go_wp2_with fail
        go_ret
        exact ⟨rfl, D3.out⟩
  · have hm' : mayL f = false := by simpa using hm
    rw [hm'] at M
    rw [pl_no hm']
    clear hm hm' h
    go_enter Try.func10, Try.ntmps10
    go_wp2_with fail
    with_reducible refine M.mono ?_
    rintro e w1 ⟨rfl, rfl⟩
    clear M
    go_wp2_with fail
    go_ret
    exact ⟨rfl, Below.refl _ _⟩
end Go.Proofs.Ythjokhfjfiaaiaa
