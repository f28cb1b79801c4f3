/-
  CanonMade's walk: codes of lengths by numbers; none begins another one.
-/
import Derived.Test.YtlkebkchbgpnpaaAl
import Derived.Test.YtlkebkchbgpnpaaRy
import Derived.Test.YtlkebkchbgpnpaaFq
import Derived.BigQuiet
import Derived.Deep.QuietTactic
namespace Go.Proofs.Ytlkebkchbgpnpaa
open Go.ChangeShapes Go.WideShapes Go.ChangeAt Go.RowKit
open Go.ChangeMaps (open_string shut_string)

theorem may_of {F : List Int} (hF : ∀ z ∈ F, (0 : Int) ≤ z ∧ z ≤ 65535) (k : Nat) (h7 : 7 ≤ k) (h15 : k ≤ 15) : mayB F 65 (k : Int) = true := by
  have h : F.any badz = false := by
    rw [List.any_eq_false]
    intro z hz
    have := hF z hz
    unfold badz; simp; omega
  unfold mayB
  rw [h]
  simp; omega
/-- The lengths of frequencies may be. -/
theorem put_may {F : List Int} {d : Nat} {o r : List Nat} (ho : Ordered F 65 o) (h : Ranks F d o r) (h7 : 7 ≤ d) (h15 : d ≤ 15) :
    (∀ c, at0 (put o r) c ≤ 15) ∧ okL (put o r) = true ∧ mayL ((put o r).map Int.ofNat) = true := by
  have hb : ∀ c, at0 (put o r) c ≤ 15 := fun c => by
    by_cases hc : c < 65
    · have := (lens_at ho h h7 c hc).1; omega
    · rw [at0_out _ c (by rw [put_len]; omega)]; omega
  have ok : okL (put o r) = true := (okL_iff _).2 (lens_may ho h h7 h15)
  exact ⟨hb, ok, by rw [mayL_of _ (put_len o r) hb]; exact ok⟩
theorem fld_ints (b c : Nat) (W : World) : (Instr.field 45 (.agg #[.slice (some ⟨b, 0, none⟩) 65 c, .int .i64 0]) 0).run Try.prog W = .ok (.slice (some ⟨b, 0, none⟩) 65 c) W := by kernel_rfl
end Go.Proofs.Ytlkebkchbgpnpaa
