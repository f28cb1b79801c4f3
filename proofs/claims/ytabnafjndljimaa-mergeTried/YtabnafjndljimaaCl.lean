/-
  A list cloned; the sums of two lists, one after the other.
-/
import Derived.Test.YtabnafjndljimaaNx
import Derived.Test.YtabnafjndljimaaOr
namespace Go.Proofs.Ytabnafjndljimaa
open Go.ChangeShapes Go.WideShapes Go.ChangeAt Go.RowKit
open Go.ChangeMaps (open_string shut_string)

theorem eql_nil (p : Addr) (n cap : Nat) (W : World) : (binOp BinOp.eql 22 (.slice (some p) n cap) (.slice none 0 0)).run Try.prog W = .ok (.bool false) W := by kernel_rfl
set_option maxRecDepth 100000 in
set_option maxHeartbeats 1000000 in
theorem clone_any (p : Addr) (n cap : Nat) (ts : List Nat) (w : World) (hl : ts.length = n) (hn : n ≤ 100000) (hp : ∀ i (h : i < ts.length), w.cell? (p.add i) = some (.int .i64 (ts[i] : Int))) :
    Calls Try.prog 45 #[.slice (some p) n cap] w fun e w' => ∃ v, e = .returned v ∧ w'.ownsRow w.heap.size 3 1 v n (ni ts) ∧ Below w.heap.size w w' := by
  obtain ⟨i0, hi0, hz0, hs0, hb0⟩ := info_all info3
  have oE : (w.alloc (.cells #[] 3)).ownsRow w.heap.size 3 1 (.slice (some ⟨w.heap.size, 0, none⟩) 0 0) 0 [] :=
    ⟨by simp, .inr ⟨w.heap.size, 0, #[], rfl, Nat.le_refl _, blk_new w #[] 3, Nat.le_refl _, by decide, by simp, by simp⟩⟩
  have bE : Below w.heap.size w (w.alloc (.cells #[] 3)) := (Below.refl _ _).alloc (Nat.le_refl _) _
  have cells : ∀ j u, (ni ts)[j]? = some u → (w.alloc (.cells #[] 3)).cell? (p.add j) = some u := fun j u hu => by
    obtain ⟨hj, _⟩ := List.getElem?_eq_some_iff.1 hu
    rw [ni_len] at hj
    have c := hp j hj
    rw [bE.cell (World.block_lt_of_cell? _ _ c), c, ← hu, ni_at ts j hj]
  have HL : Hid ((ni ts).length = n * 1) := by show _ = _; rw [ni_len]; omega
  have HC := Hid.intro cells
  have HE := Hid.intro oE
  have HB := Hid.intro bE
  have en := eql_nil p n cap w
  clear hl hp cells oE bE
  go_enter Try.func45, Try.ntmps45
  go_wp2_with (at_builtin; refine wpList_push _ rfl (.tmp 5) (.tmp 6) 22 rfl 3 i0 (.int .i64 0) 1 8 Try.underlying22 hi0 hz0 hs0 hb0 rfl (by decide) (by decide) (.slice (some ⟨w.heap.size, 0, none⟩) 0 0) 0 [] rfl (own_low HE.out (Nat.zero_le _)) p n cap (ni ts) rfl HL.out HC.out (by intro u hu; obtain ⟨z, _, rfl⟩ := List.mem_map.1 hu; rfl) (by omega) ?_)
  intro v' w' g1 g2 g3
  have R : Hid (w'.ownsRow w.heap.size 3 1 v' n (ni ts)) := own_up g1 (fun k hk => (g3 k hk).elim (fun e => by simp [Value.ownBlock] at e; omega) (fun e => by have := HB.out.size; omega))
  have B2 : Hid (Below w.heap.size w w') := by
    refine ⟨g2.os.trans HB.out.os, g2.tape.trans HB.out.tape, g2.output.trans HB.out.output, Nat.le_trans HB.out.size g2.size, fun k hk => (g2.block k ?_ ?_).trans (HB.out.block k hk)⟩
    · have := HB.out.size; omega
    · intro e; simp [Value.ownBlock] at e; omega
  clear g1 g2 g3
  go_wp2_with fail
  go_ret
  exact ⟨v', rfl, R.out, B2.out⟩
/-- What stands in the row behind the first i sums. -/
def mix (s t : List Nat) (i : Nat) : List Nat := (List.zipWith (· + ·) s t).take i ++ s.drop i
theorem mix_zero (s t : List Nat) : mix s t 0 = s := by simp [mix]
theorem mix_all (s t : List Nat) (h : s.length = t.length) : mix s t s.length = List.zipWith (· + ·) s t := by
  unfold mix; rw [List.drop_of_length_le (Nat.le_refl _), List.append_nil, List.take_of_length_le (by simp; omega)]
theorem mix_len (s t : List Nat) (i : Nat) (h : s.length = t.length) (hi : i ≤ s.length) : (mix s t i).length = s.length := by
  unfold mix; rw [List.length_append, List.length_take, List.length_zipWith, List.length_drop]; omega
theorem mix_at (s t : List Nat) (i : Nat) (h : s.length = t.length) (hi : i < s.length) : (mix s t i)[i]'(by rw [mix_len s t i h (by omega)]; exact hi) = s[i] := by
  unfold mix
  rw [List.getElem_append_right (by simp; omega)]
  simp
  congr 1
  omega
theorem mix_step (s t : List Nat) (i : Nat) (h : s.length = t.length) (hi : i < s.length) : (mix s t i).set i (s[i] + t[i]'(by omega)) = mix s t (i + 1) := by
  unfold mix
  have hz : i < (List.zipWith (· + ·) s t).length := by rw [List.length_zipWith]; omega
  rw [List.set_append_right _ _ (by simp; omega), List.take_succ_eq_append_getElem hz, List.append_assoc, List.drop_eq_getElem_cons hi]
  simp
  rw [show i - min i (min s.length t.length) = 0 by omega, List.drop_eq_getElem_cons hi]; rfl
end Go.Proofs.Ytabnafjndljimaa
