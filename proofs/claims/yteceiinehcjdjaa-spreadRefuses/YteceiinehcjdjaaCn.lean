/-
  Numbers that may be, by numbers.
-/
import Derived.Test.YteceiinehcjdjaaIo
import Derived.Test.YteceiinehcjdjaaMw
import Derived.Deep.QuietTactic
import Derived.Deep.RegionWith
import Derived.OwnWalk
import Derived.BigQuiet
namespace Go.Proofs.Yteceiinehcjdjaa
open Go.ChangeShapes Go.WideShapes Go.ChangeAt Go.RowKit
open Go.ChangeMaps (open_string shut_string)

theorem norm_is {f : List Int} {z : Int} (h1 : f.length = 65) (h2 : ∀ x ∈ f, 0 ≤ x ∧ x ≤ 16777216) (h3 : 0 < f.sum) (h4 : 7 ≤ z ∧ z ≤ 12) : ∃ M, normA f z = (0, M) ∧ M.length = 65 ∧ may z (M.map Int.ofNat) = true ∧ ∀ x ∈ M, x ≤ 4096 := by
  rcases norm_cases f z with h | ⟨M, e, l1, -, m1, m2, -⟩
  · exfalso
    unfold normA at h
    rw [if_pos ⟨h1, h2, h3, h4⟩] at h
    cases h
  · exact ⟨M, e, l1, m1, m2⟩
theorem sum_pos {f : List Int} (h : ∀ x ∈ f, 0 ≤ x) (y : Int) (hy : y ∈ f) (h0 : 0 < y) : 0 < f.sum := by
  induction f with
  | nil => simp at hy
  | cons x f ih =>
    have hx := h x (by simp)
    have hf : 0 ≤ f.sum := by
      clear ih hy hx
      have h' : ∀ x ∈ f, 0 ≤ x := fun z hz => h z (by simp [hz])
      clear h
      induction f with
      | nil => simp
      | cons z f ih => simp only [List.sum_cons]; have := h' z (by simp); have := ih (fun q hq => h' q (by simp [hq])); omega
    simp only [List.sum_cons]
    rcases List.mem_cons.1 hy with e | e
    · omega
    · have := ih (fun z hz => h z (by simp [hz])) e; omega
theorem fld28 (v : Value) (e : Int) (w : World) : (Instr.field 28 (.agg #[v, .int .i64 e]) 0).run Try.prog w = .ok v w := by rfl
set_option maxRecDepth 100000 in
set_option maxHeartbeats 1000000 in
/-- Numbers that may be, by numbers. -/
theorem counts_any (a : Option Addr) (n cap : Nat) (b : Int) (w : World) (h : RU w a n) (h2 : 0 ≤ b ∧ b ≤ 255) (hn : n ≤ 140) :
    Calls Try.prog 16 #[.slice a n cap, .int .u8 b] w fun e w' => ∃ (v : Value) (K : Nat) (M : List Nat), e = .returned (.tuple #[v, .int .i64 (K : Int)]) ∧ Spd K M (spr K M) ∧ may (K : Int) (M.map Int.ofNat) = true ∧ w'.ownsRow w.heap.size 3 1 v 65 (nis M) ∧ Below w.heap.size w w' := by
  have FQ := freq_any a n cap w h hn
  obtain ⟨r, hr⟩ : ∃ r : Nat, b % 6 = (r : Int) := ⟨(b % 6).toNat, by omega⟩
  have hrt : b.tmod 6 = (r : Int) := by rw [Int.tmod_eq_emod_of_nonneg h2.1]; exact hr
  obtain ⟨K, hK⟩ : ∃ K : Nat, 7 + (r : Int) = (K : Int) := ⟨7 + r, by omega⟩
  have K12 : K ≤ 12 := by omega
  have K7 : 7 ≤ K := by omega
  have wr' : IntKind.i64.wrap (r : Int) = (r : Int) := by rw [IntKind.wrap_i64]; omega
  have wb : IntKind.i64.wrap b = b := by rw [IntKind.wrap_i64]; omega
  obtain ⟨h2a, h2b⟩ := h2
  clear h
  go_enter Try.func16, Try.ntmps16
  go_wp2_with fail
  with_reducible refine FQ.mono ?_
  rintro e w1 ⟨vF, F, rfl, f1, f2, f3, f4⟩
  clear FQ
  obtain ⟨bF, cF, rfl⟩ := own_slice f3 (by omega)
  have ct := own_there f3 2 (by omega)
  have c2 : w1.cell? ⟨bF, 2, none⟩ = some (.int .i64 (fr F 2)) := by
    rw [ct.1]
    simp only [ivs, List.getElem?_map]
    rw [List.getElem?_eq_getElem (by omega), fr_at F 2 (by omega)]
    rfl
  have fz := ct.2.2
  have F2b : 0 ≤ fr F 2 ∧ fr F 2 ≤ 65535 := by rw [fr_at F 2 (by omega)]; exact f2 _ (List.getElem_mem _)
  have l2 : (F.set 2 (fr F 2 + 1)).length = 65 := by simpa using f1
  have b2 : ∀ x ∈ F.set 2 (fr F 2 + 1), 0 ≤ x ∧ x ≤ 16777216 := fun x hx => by
    rcases List.mem_or_eq_of_mem_set hx with h | h
    · have := f2 x h; omega
    · omega
  obtain ⟨M, hM, m1, m2, m3⟩ := norm_is (z := (K : Int)) l2 b2 (sum_pos (fun x hx => (b2 x hx).1) (fr F 2 + 1) (List.mem_iff_getElem.2 ⟨2, by omega, by simp⟩) (by omega)) (by omega)
  have o2 := own_set f3 2 (.int .i64 (fr F 2 + 1))
  rw [ivs_set] at o2
  have hbF := (f3.lt bF rfl).1
  have B2 : Hid (Below w.heap.size w (w1.setCell ⟨bF, 2, none⟩ (.int .i64 (fr F 2 + 1)))) := f4.setCell (p := ⟨bF, 2, none⟩) hbF _
  have RN := rnorm_any (some ⟨bF, 0, none⟩) 65 cF (F.set 2 (fr F 2 + 1)) (K : Int) _ (own_ri' o2) (by omega)
  rw [hM] at RN
  obtain ⟨F1, F1b⟩ := F2b
  have M1 := Hid.intro m1
  have M2 := Hid.intro m2
  clear f2 f3 f4 ct l2 b2 hM m1 m2 m3 o2 hbF
  generalize F.set 2 (fr F 2 + 1) = G at *
  generalize fr F 2 = y at *
  go_wp2_with fail
  generalize w1.setCell ⟨bF, 2, none⟩ (.int .i64 (y + 1)) = w2 at *
  with_reducible refine RN.mono ?_
  rintro e w3 ⟨v, rfl, o3, b3⟩
  clear RN
  simp only at o3
  rw [M1.out] at o3
  obtain ⟨bv, cv, rfl⟩ := own_slice o3 (by omega)
  have fd := fld28 (.slice (some ⟨bv, 0, none⟩) 65 cv) 0 w3
  have SP : Hid (Spd K M (spr K M)) := by
    obtain ⟨k', L', e1, e2, e3, e4, e5⟩ := may_spd M2.out
    have ek : k' = K := by omega
    have eL : L' = M := by rw [← e4, List.map_map]; conv => rhs; rw [← List.map_id M]
                           exact List.map_congr_left (fun x _ => rfl)
    rw [ek, eL] at e5
    exact e5
  have O3 : Hid (w3.ownsRow w.heap.size 3 1 (.slice (some ⟨bv, 0, none⟩) 65 cv) 65 (nis M)) := own_low o3 B2.out.size
  have B3 : Hid (Below w.heap.size w w3) := B2.out.trans (b3.mono B2.out.size)
  clear o3 b3
  go_wp2_with fail
  go_ret2
  exact ⟨_, K, M, rfl, SP.out, M2.out, O3.out, B3.out⟩
end Go.Proofs.Yteceiinehcjdjaa
