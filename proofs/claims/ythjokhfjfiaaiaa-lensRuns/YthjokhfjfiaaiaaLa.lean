/-
  How many noughts lengths begin with.
-/
import Derived.Test.YthjokhfjfiaaiaaNg
import Derived.Test.YthjokhfjfiaaiaaCa
namespace Go.Proofs.Ythjokhfjfiaaiaa
open Go.ChangeShapes Go.WideShapes Go.ChangeAt Go.RowKit
open Go.ChangeMaps (open_string shut_string)

def RwRel (L : List Nat) (n : Nat) (w : World) (sv : Value) (wr : World) : Prop :=
  ∃ i : Nat, i ≤ 16 ∧ i ≤ n ∧ sv = .int .i64 i ∧ (∀ j, j < i → at0 L j = 0) ∧ wr = w
set_option maxRecDepth 100000 in
set_option maxHeartbeats 1000000 in
theorem row_any (a : Option Addr) (n cap : Nat) (f : List Int) (w : World) (h : RI w a n f) (hf : ∀ z ∈ f, 0 ≤ z ∧ z ≤ 15) (hn : n ≤ 100000) :
    Calls Try.prog 23 #[.slice a n cap] w fun e w' => e = .returned (.int .i64 (row0 (nat f) : Nat)) ∧ w' = w := by
  have H := Hid.intro h
  have HA := Hid.intro (nat_at f hf)
  have HN := Hid.intro (show (nat f).length = n by rw [nat_len, h.1])
  have HR := Hid.intro (rowF_of 16 (nat f))
  obtain ⟨L, hL⟩ : ∃ L, nat f = L := ⟨_, rfl⟩
  rw [hL] at HA HN HR ⊢
  have HRR : Hid (∀ i, i ≤ 16 → i ≤ L.length → (∀ j, j < i → at0 L j = 0) → (i = 16 ∨ i = L.length ∨ at0 L i ≠ 0) → row0 L = i) := HR.out
  generalize row0 L = r at *
  clear h hf hL HR
  go_enter Try.func23, Try.ntmps23
  go_wp2_with fail
  go_loopw [3] (fun sv wr => RwRel L n w sv wr) (fun sv _ => 16 - (intOf sv).toNat)
  case atStart => exact ⟨0, by omega, by omega, rfl, fun j hj => by omega, rfl⟩
  case round =>
    obtain ⟨i, hi, hin, rfl, hz, rfl⟩ := hrel
    by_cases hlt : i < n
    · by_cases h16 : i < 16
      · obtain ⟨x, rfl, cl⟩ := ri_at H.out i hlt
        rw [HA.out i] at cl
        have HS : Hid (at0 L i = 0 → ∀ j, j < i + 1 → at0 L j = 0) := fun e j hj => by
          by_cases hj2 : j < i
          · exact hz j hj2
          · rw [show j = i from by omega]; exact e
        have HE : Hid (at0 L i ≠ 0 → r = i) := fun e => HRR.out i hi (by rw [HN.out]; exact hin) hz (.inr (.inr e))
        generalize at0 L i = l at *
        clear hz
        by_cases hl : l = 0
        · subst hl
          have T := Hid.intro (HS.out rfl)
          clear HS HE
          go_wp2_with fail
          go_roundw
          case rel => exact ⟨i + 1, by omega, by omega, by go_num, T.out, rfl⟩
          case measure => simp [intOf]; omega
        · have T := Hid.intro (HE.out hl)
          clear HS HE
          have t0 : ((l : Int) == 0) = false := by simp; omega
          go_wp2_with fail
          go_ret
          exact ⟨ret_int (by rw [T.out]), rfl⟩
      · have T := Hid.intro (HRR.out i hi (by rw [HN.out]; exact hin) hz (.inl (by omega)))
        clear hz
        go_wp2_with fail
        go_ret
        exact ⟨ret_int (by rw [T.out]), rfl⟩
    · have T := Hid.intro (HRR.out i hi (by rw [HN.out]; exact hin) hz (.inr (.inl (by rw [HN.out]; omega))))
      clear hz
      go_wp2_with fail
      go_ret
      exact ⟨ret_int (by rw [T.out]), rfl⟩
end Go.Proofs.Ythjokhfjfiaaiaa
