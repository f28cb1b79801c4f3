/-
  What asks come to, one behind the other.
-/
import Derived.Test.YtbmjehpkcelogaaQd
namespace Go.Proofs.Ytbmjehpkcelogaa
open Go.ChangeShapes Go.WideShapes Go.ChangeAt Go.RowKit
open Go.ChangeMaps (open_string shut_string)

/-- What an ask comes to. -/
def stp (q : Int × Int × Int × Nat) (st : Nat × Nat × Nat) : Nat × Nat × Nat := if q.2.2.1 ≠ 0 then dirN q.2.2.2 (cl q.2.2.1) st else bitS q.1 (decide (q.2.1 ≠ 0)) st
/-- What the first i asks come to. -/
def stA (l : List (Int × Int × Int × Nat)) (i : Nat) : Nat × Nat × Nat := (l.take i).foldl (fun st q => stp q st) st0
theorem stA_zero (l : List (Int × Int × Int × Nat)) : stA l 0 = st0 := rfl
theorem stA_succ (l : List (Int × Int × Int × Nat)) (i : Nat) (q : Int × Int × Int × Nat) (h : l[i]? = some q) : stA l (i + 1) = stp q (stA l i) := by
  unfold stA
  rw [List.take_add_one, h]
  simp [List.foldl_append]
theorem stp_up (q : Int × Int × Int × Nat) (st : Nat × Nat × Nat) : (stp q st).1 ≤ st.1 + 128 := by
  unfold stp
  have h1 := dirN_up q.2.2.2 (cl q.2.2.1) st
  have h2 := bitS_up q.1 (decide (q.2.1 ≠ 0)) st
  have h3 := cl_le q.2.2.1
  split <;> omega
theorem foldl_up : ∀ (m : List (Int × Int × Int × Nat)) (st : Nat × Nat × Nat), (m.foldl (fun st q => stp q st) st).1 ≤ st.1 + 128 * m.length
  | [], st => by simp
  | q :: m, st => by
    have h1 := stp_up q st
    have h2 := foldl_up m (stp q st)
    simp only [List.foldl_cons, List.length_cons]
    omega
theorem stA_up (l : List (Int × Int × Int × Nat)) (i : Nat) : (stA l i).1 ≤ 128 * i := by
  have h1 := foldl_up (l.take i) st0
  have h2 : (l.take i).length ≤ i := by simp; omega
  unfold stA
  simp only [st0] at h1 ⊢
  omega
theorem add_next4 (x : Addr) (i k : Nat) (hk : 0 < k) : x.add (i * 4 + k) = ⟨(x.add (i * 4)).block, (x.add (i * 4)).off + k, none⟩ := by
  unfold Addr.add
  by_cases h : i * 4 = 0
  · simp [h]; omega
  · simp [h]; omega
/-- A place of the asks as a walk meets it: it holds in every world in which what was there is as it was. -/
theorem asks_cells {w : World} {a : Option Addr} {len cap : Nat} {l : List (Int × Int × Int × Nat)} (h : IsAsks w a len cap l) (i : Nat) (hi : i < len) :
    ∃ x p b n v, a = some x ∧ l[i]? = some (p, b, n, v) ∧ v < 18446744073709551616 ∧ ∀ W, Below w.heap.size w W → W.cell? (x.add (i * 4)) = some (.int .i64 p) ∧ W.cell? ⟨(x.add (i * 4)).block, (x.add (i * 4)).off + 1, none⟩ = some (.int .i64 b) ∧
      W.cell? ⟨(x.add (i * 4)).block, (x.add (i * 4)).off + 2, none⟩ = some (.int .i64 n) ∧ W.cell? ⟨(x.add (i * 4)).block, (x.add (i * 4)).off + 3, none⟩ = some (.int .u64 (v : Int)) := by
  obtain ⟨x, ⟨p, b, n, v⟩, rfl, hq, _, _, _, _, q4⟩ := asks_at h i hi
  refine ⟨x, p, b, n, v, rfl, hq, q4, fun W hW => ?_⟩
  obtain ⟨_, _, _, _, hh⟩ := asks_kept h hW
  obtain ⟨e0, e1, e2, e3, _⟩ := hh x rfl i _ hq
  rw [add_next4 x i _ (by omega)] at e1 e2 e3
  exact ⟨e0, e1, e2, e3⟩
end Go.Proofs.Ytbmjehpkcelogaa
