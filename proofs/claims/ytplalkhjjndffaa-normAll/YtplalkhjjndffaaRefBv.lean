/-
  The reference's GetWord returns what the plain function says, for every text of at most a million bytes.
-/
import Derived.Test.YtplalkhjjndffaaRefv
import Derived.Test.YtplalkhjjndffaaJm
namespace Go.Proofs.Ytplalkhjjndffaa
open Go.ChangeShapes Go.WideShapes Go.ChangeAt Go.RowKit

def agg3 (t : Nat × Nat × Nat) : Value := .agg #[.int .u64 t.1, .int .i64 t.2.1, .int .i64 t.2.2]
theorem ret_agg {t : Nat × Nat × Nat} {a b c : Nat} (h : t = (a, b, c)) : Ending.returned (.agg #[.int .u64 a, .int .i64 b, .int .i64 c]) = .returned (agg3 t) := by rw [h]; rfl
theorem ret_agg' {t : Nat × Nat × Nat} {a b c : Nat} {y : Int} (h : t = (a, b, c)) (hy : y = (b : Int)) : Ending.returned (.agg #[.int .u64 a, .int .i64 y, .int .i64 c]) = .returned (agg3 t) := by rw [h, hy]; rfl

theorem drop_snoc (s : ByteArray) (A k : Nat) (h : A + k < s.size) : (s.data.toList.drop A).take (k + 1) = (s.data.toList.drop A).take k ++ [s[A + k]] := by
  have hk : k < (s.data.toList.drop A).length := by rw [List.length_drop, len_data]; omega
  rw [List.take_succ_eq_append_getElem hk, List.getElem_drop]; rfl
theorem drop_take_len (s : ByteArray) (A k : Nat) (h : A + k ≤ s.size) : ((s.data.toList.drop A).take k).length = k := by
  rw [List.length_take, List.length_drop, len_data]; omega

end Go.Proofs.Ytplalkhjjndffaa
