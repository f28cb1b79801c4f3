/-
  What the reference's Get asks; noughts appended to any row of the call's own; the reference's bytes of any numbers from nought on; each condition stands at its theorem; the document's example; normEven: the walk; normMade: the walk; numbers that may be, by numbers; counts of the statements' own: they may be, and class 2 has one.
-/
import Derived.Test.YtofclflcicjlaaaRn
import Derived.Test.YtofclflcicjlaaaSh
import Derived.Test.YtofclflcicjlaaaBd
import Derived.Test.YtofclflcicjlaaaNr
import Derived.Test.YtofclflcicjlaaaFq
import Derived.Test.YtofclflcicjlaaaIo
import Derived.Deep.QuietTactic
import Derived.Deep.RegionWith
import Derived.OwnWalk
import Derived.Deep.RegionHeld3
import Derived.BigQuiet
import Derived.WalkKit
import Derived.ProofKit
import Derived.OpenShut
import Derived.ChangeOld
import Derived.Below
namespace Go.Proofs.Ytofclflcicjlaaa
open Go.ChangeShapes Go.WideShapes Go.ChangeAt Go.RowKit
open Go.ChangeMaps (open_string shut_string)
def cz : Array Value := #[.slice none 0 0, .int .i64 0, .int .i64 0]
theorem blk_grown {A : Nat} {cs : Array Value} {t : TypeId} {b c : World} {row : Option Nat} (h : Blk b A cs t) (g : b.grownBy c row) (hne : some A ≠ row) : Blk c A cs t := (g.block A (blk_lt h) hne).trans h
theorem bs_add (a b : List UInt8) : bs a ++ bs b = bs (a ++ b) := by
  apply Go.WideShapes.bytes_inj
  rw [app_list]; rfl

theorem err_i (n : Int) (w : World) : Calls Try.prog 14 #[.int .i64 n] w fun e w' => e = .returned (.int .i64 n) ∧ w' = w := by
  go_enter Try.func14, Try.ntmps14
  go_wp2
  go_ret
  exact ⟨rfl, rfl⟩


theorem held_c {w8 a b : World} {B C j k : Nat} {u v : Value} (hB : B < w8.heap.size) (hC : C < w8.heap.size) (h : (a.cell? ⟨B, j, none⟩ = some u ∧ a.cell? ⟨C, k, none⟩ = some v) ∧ Below w8.heap.size w8 a) (hk : Below a.heap.size a b) :
    (b.cell? ⟨B, j, none⟩ = some u ∧ b.cell? ⟨C, k, none⟩ = some v) ∧ Below w8.heap.size w8 b :=
  ⟨⟨by rw [hk.cell (p := ⟨B, j, none⟩) (Nat.lt_of_lt_of_le hB h.2.size)]; exact h.1.1, by rw [hk.cell (p := ⟨C, k, none⟩) (Nat.lt_of_lt_of_le hC h.2.size)]; exact h.1.2⟩, h.2.trans (hk.mono h.2.size)⟩


theorem conv_nat (l : List Nat) : Conv (fun n => (n : Int)) l := fun _n _ => ⟨fun _ => rfl, fun _ _ => rfl⟩
theorem norm_cases (f : List Int) (z : Int) : normA f z = (1, []) ∨ ∃ M, normA f z = (0, M) ∧ M.length = 65 ∧ f.length = 65 ∧ may z (M.map Int.ofNat) = true ∧ (∀ x ∈ M, x ≤ 4096) ∧ (∀ i, 0 < g M i ↔ 0 < fr f i) ∧ ∀ i j, fr f j < fr f i → g M j ≤ g M i + 1 := by
  by_cases h : f.length = 65 ∧ (∀ z ∈ f, 0 ≤ z ∧ z ≤ 16777216) ∧ 0 < f.sum ∧ 7 ≤ z ∧ z ≤ 12
  · right
    obtain ⟨h1, h2, h3, h4, h5⟩ := h
    have hb := toNat_back (fun x hx => (h2 x hx).1)
    obtain ⟨F, hF⟩ : ∃ F, f.map Int.toNat = F := ⟨_, rfl⟩
    rw [hF] at hb
    subst hb
    have Fl : F.length = 65 := by simpa using h1
    have Fb : ∀ x ∈ F, x ≤ 16777216 := fun x hx => by have := (h2 _ (List.mem_map_of_mem hx)).2; have e : (Int.ofNat x) = (x : Int) := rfl; omega
    rw [sum_ofNat] at h3
    have p7 : 2 ^ 7 ≤ 2 ^ z.toNat := Nat.pow_le_pow_right (by omega) (by omega)
    obtain ⟨⟨f1, f2, f3⟩, f4⟩ := nrm_fair (log := z.toNat) (f := F) (by omega) (by omega)
    have mN : mayN z (nrm z.toNat F) = true := mayN_yes.2 ⟨⟨h4, h5⟩, by rw [f1, Fl], f4⟩
    refine ⟨_, norm_yes ((lgB_iff z).2 ⟨h4, h5⟩) Fl Fb (by omega), by rw [f1, Fl], h1, ?_, mayN_bd mN, fun i => ?_, fun i j hij => ?_⟩
    · have := conv_may (conv_nat (nrm z.toNat F)) z
      rw [mN] at this
      exact this
    · rw [fr_map]
      have := f2 i
      show 0 < (nrm z.toNat F).getD i 0 ↔ _
      rw [this]; omega
    · rw [fr_map, fr_map] at hij
      exact f3 i j (by omega)
  · left
    unfold normA; rw [if_neg h]

theorem norm_is {f : List Int} {z : Int} (h1 : f.length = 65) (h2 : ∀ x ∈ f, 0 ≤ x ∧ x ≤ 16777216) (h3 : 0 < f.sum) (h4 : 7 ≤ z ∧ z ≤ 12) : ∃ M, normA f z = (0, M) ∧ M.length = 65 ∧ may z (M.map Int.ofNat) = true ∧ ∀ x ∈ M, x ≤ 4096 := by
  rcases norm_cases f z with h | ⟨M, e, l1, -, m1, m2, -⟩
  · exfalso
    unfold normA at h
    rw [if_pos ⟨h1, h2, h3, h4⟩] at h
    cases h
  · exact ⟨M, e, l1, m1, m2⟩
theorem sum_pos {f : List Int} (h : ∀ x ∈ f, 0 ≤ x) (y : Int) (hy : y ∈ f) (h0 : 0 < y) : 0 < f.sum := by
  induction f with
  | nil => simp at hy
  | cons x f ih =>
    have hx := h x (by simp)
    have hf : 0 ≤ f.sum := by
      clear ih hy hx
      have h' : ∀ x ∈ f, 0 ≤ x := fun z hz => h z (by simp [hz])
      clear h
      induction f with
      | nil => simp
      | cons z f ih => simp only [List.sum_cons]; have := h' z (by simp); have := ih (fun q hq => h' q (by simp [hq])); omega
    simp only [List.sum_cons]
    rcases List.mem_cons.1 hy with e | e
    · omega
    · have := ih (fun z hz => h z (by simp [hz])) e; omega
set_option maxRecDepth 100000 in
theorem fld28 (v : Value) (e : Int) (w : World) : (Instr.field 34 (.agg #[v, .int .i64 e]) 0).run Try.prog w = .ok v w := by rfl
set_option maxRecDepth 100000 in
set_option maxHeartbeats 1000000 in
/-- Numbers that may be, by numbers. -/
theorem counts_any (a : Option Addr) (n cap : Nat) (b : Int) (w : World) (h : RU w a n) (h2 : 0 ≤ b ∧ b ≤ 255) (hn : n ≤ 140) :
    Calls Try.prog 16 #[.slice a n cap, .int .u8 b] w fun e w' => ∃ (v : Value) (K : Nat) (M : List Nat), e = .returned (.tuple #[v, .int .i64 (K : Int)]) ∧ Spd K M (spr K M) ∧ may (K : Int) (M.map Int.ofNat) = true ∧ w'.ownsRow w.heap.size 3 1 v 65 (nis M) ∧ Below w.heap.size w w' := by
  have FQ := freq_any a n cap w h hn
  obtain ⟨r, hr⟩ : ∃ r : Nat, b % 6 = (r : Int) := ⟨(b % 6).toNat, by omega⟩
  have hrt : b.tmod 6 = (r : Int) := by rw [Int.tmod_eq_emod_of_nonneg h2.1]; exact hr
  obtain ⟨K, hK⟩ : ∃ K : Nat, 7 + (r : Int) = (K : Int) := ⟨7 + r, by omega⟩
  have K12 : K ≤ 12 := by omega
  have K7 : 7 ≤ K := by omega
  have wr' : IntKind.i64.wrap (r : Int) = (r : Int) := by rw [IntKind.wrap_i64]; omega
  have wb : IntKind.i64.wrap b = b := by rw [IntKind.wrap_i64]; omega
  obtain ⟨h2a, h2b⟩ := h2
  clear h
  go_enter Try.func16, Try.ntmps16
  go_wp2_with fail
  with_reducible refine FQ.mono ?_
  rintro e w1 ⟨vF, F, rfl, f1, f2, f3, f4⟩
  clear FQ
  obtain ⟨bF, cF, rfl⟩ := own_slice f3 (by omega)
  have ct := own_there f3 2 (by omega)
  have c2 : w1.cell? ⟨bF, 2, none⟩ = some (.int .i64 (fr F 2)) := by
    rw [ct.1]
    simp only [ivs, List.getElem?_map]
    rw [List.getElem?_eq_getElem (by omega), fr_at F 2 (by omega)]
    rfl
  have fz := ct.2.2
  have F2b : 0 ≤ fr F 2 ∧ fr F 2 ≤ 65535 := by rw [fr_at F 2 (by omega)]; exact f2 _ (List.getElem_mem _)
  have l2 : (F.set 2 (fr F 2 + 1)).length = 65 := by simpa using f1
  have b2 : ∀ x ∈ F.set 2 (fr F 2 + 1), 0 ≤ x ∧ x ≤ 16777216 := fun x hx => by
    rcases List.mem_or_eq_of_mem_set hx with h | h
    · have := f2 x h; omega
    · omega
  obtain ⟨M, hM, m1, m2, m3⟩ := norm_is (z := (K : Int)) l2 b2 (sum_pos (fun x hx => (b2 x hx).1) (fr F 2 + 1) (List.mem_iff_getElem.2 ⟨2, by omega, by simp⟩) (by omega)) (by omega)
  have o2 := own_set f3 2 (.int .i64 (fr F 2 + 1))
  rw [ivs_set] at o2
  have hbF := (f3.lt bF rfl).1
  have B2 : Hid (Below w.heap.size w (w1.setCell ⟨bF, 2, none⟩ (.int .i64 (fr F 2 + 1)))) := f4.setCell (p := ⟨bF, 2, none⟩) hbF _
  have RN := rnorm_any (some ⟨bF, 0, none⟩) 65 cF (F.set 2 (fr F 2 + 1)) (K : Int) _ (own_ri' o2) (by omega)
  rw [hM] at RN
  obtain ⟨F1, F1b⟩ := F2b
  have M1 := Hid.intro m1
  have M2 := Hid.intro m2
  clear f2 f3 f4 ct l2 b2 hM m1 m2 m3 o2 hbF
  generalize F.set 2 (fr F 2 + 1) = G at *
  generalize fr F 2 = y at *
  go_wp2_with fail
  generalize w1.setCell ⟨bF, 2, none⟩ (.int .i64 (y + 1)) = w2 at *
  with_reducible refine RN.mono ?_
  rintro e w3 ⟨v, rfl, o3, b3⟩
  clear RN
  simp only at o3
  rw [M1.out] at o3
  obtain ⟨bv, cv, rfl⟩ := own_slice o3 (by omega)
  have fd := fld28 (.slice (some ⟨bv, 0, none⟩) 65 cv) 0 w3
  have SP : Hid (Spd K M (spr K M)) := by
    obtain ⟨k', L', e1, e2, e3, e4, e5⟩ := may_spd M2.out
    have ek : k' = K := by omega
    have eL : L' = M := by rw [← e4, List.map_map]; conv => rhs; rw [← List.map_id M]
                           exact List.map_congr_left (fun x _ => rfl)
    rw [ek, eL] at e5
    exact e5
  have O3 : Hid (w3.ownsRow w.heap.size 3 1 (.slice (some ⟨bv, 0, none⟩) 65 cv) 65 (nis M)) := own_low o3 B2.out.size
  have B3 : Hid (Below w.heap.size w w3) := B2.out.trans (b3.mono B2.out.size)
  clear o3 b3
  go_wp2_with fail
  go_ret2
  exact ⟨_, K, M, rfl, SP.out, M2.out, O3.out, B3.out⟩
set_option linter.unusedVariables false
set_option maxRecDepth 100000 in
set_option maxHeartbeats 1000000 in
theorem counts2_any (a : Option Addr) (n cap : Nat) (b : Int) (w : World) (h : RU w a n) (h2 : 0 ≤ b ∧ b ≤ 255) (hn : n ≤ 140) :
    Calls Try.prog 16 #[.slice a n cap, .int .u8 b] w fun e w' => ∃ (v : Value) (K : Nat) (M : List Nat), e = .returned (.tuple #[v, .int .i64 (K : Int)]) ∧ Spd K M (spr K M) ∧ may (K : Int) (M.map Int.ofNat) = true ∧ 0 < g M 2 ∧ w'.ownsRow w.heap.size 3 1 v 65 (nis M) ∧ Below w.heap.size w w' := by
  have FQ := freq_any a n cap w h hn
  obtain ⟨r, hr⟩ : ∃ r : Nat, b % 6 = (r : Int) := ⟨(b % 6).toNat, by omega⟩
  have hrt : b.tmod 6 = (r : Int) := by rw [Int.tmod_eq_emod_of_nonneg h2.1]; exact hr
  obtain ⟨K, hK⟩ : ∃ K : Nat, 7 + (r : Int) = (K : Int) := ⟨7 + r, by omega⟩
  have K12 : K ≤ 12 := by omega
  have K7 : 7 ≤ K := by omega
  have wr' : IntKind.i64.wrap (r : Int) = (r : Int) := by rw [IntKind.wrap_i64]; omega
  have wb : IntKind.i64.wrap b = b := by rw [IntKind.wrap_i64]; omega
  obtain ⟨h2a, h2b⟩ := h2
  clear h
  go_enter Try.func16, Try.ntmps16
  go_wp2_with fail
  with_reducible refine FQ.mono ?_
  rintro e w1 ⟨vF, F, rfl, f1, f2, f3, f4⟩
  clear FQ
  obtain ⟨bF, cF, rfl⟩ := own_slice f3 (by omega)
  have ct := own_there f3 2 (by omega)
  have c2 : w1.cell? ⟨bF, 2, none⟩ = some (.int .i64 (fr F 2)) := by
    rw [ct.1]
    simp only [ivs, List.getElem?_map]
    rw [List.getElem?_eq_getElem (by omega), fr_at F 2 (by omega)]
    rfl
  have fz := ct.2.2
  have F2b : 0 ≤ fr F 2 ∧ fr F 2 ≤ 65535 := by rw [fr_at F 2 (by omega)]; exact f2 _ (List.getElem_mem _)
  have l2 : (F.set 2 (fr F 2 + 1)).length = 65 := by simpa using f1
  have b2 : ∀ x ∈ F.set 2 (fr F 2 + 1), 0 ≤ x ∧ x ≤ 16777216 := fun x hx => by
    rcases List.mem_or_eq_of_mem_set hx with h | h
    · have := f2 x h; omega
    · omega
  obtain ⟨M, hM, m1, m2, m3⟩ := norm_is (z := (K : Int)) l2 b2 (sum_pos (fun x hx => (b2 x hx).1) (fr F 2 + 1) (List.mem_iff_getElem.2 ⟨2, by omega, by simp⟩) (by omega)) (by omega)
  have P2 : Hid (0 < g M 2) := by
    show _ < _
    rcases norm_cases (F.set 2 (fr F 2 + 1)) (K : Int) with h | ⟨M', h1, -, -, -, -, h6, -⟩
    · rw [hM] at h; exact absurd (Prod.mk.inj h).1 (by decide)
    · rw [hM] at h1
      rw [(Prod.mk.inj h1).2, h6, fr_at _ 2 (by omega)]
      simp; omega
  have o2 := own_set f3 2 (.int .i64 (fr F 2 + 1))
  rw [ivs_set] at o2
  have hbF := (f3.lt bF rfl).1
  have B2 : Hid (Below w.heap.size w (w1.setCell ⟨bF, 2, none⟩ (.int .i64 (fr F 2 + 1)))) := f4.setCell (p := ⟨bF, 2, none⟩) hbF _
  have RN := rnorm_any (some ⟨bF, 0, none⟩) 65 cF (F.set 2 (fr F 2 + 1)) (K : Int) _ (own_ri' o2) (by omega)
  rw [hM] at RN
  obtain ⟨F1, F1b⟩ := F2b
  have M1 := Hid.intro m1
  have M2 := Hid.intro m2
  clear f2 f3 f4 ct l2 b2 hM m1 m2 m3 o2 hbF
  generalize F.set 2 (fr F 2 + 1) = G at *
  generalize fr F 2 = y at *
  go_wp2_with fail
  generalize w1.setCell ⟨bF, 2, none⟩ (.int .i64 (y + 1)) = w2 at *
  with_reducible refine RN.mono ?_
  rintro e w3 ⟨v, rfl, o3, b3⟩
  clear RN
  simp only at o3
  rw [M1.out] at o3
  obtain ⟨bv, cv, rfl⟩ := own_slice o3 (by omega)
  have fd := fld28 (.slice (some ⟨bv, 0, none⟩) 65 cv) 0 w3
  have SP : Hid (Spd K M (spr K M)) := by
    obtain ⟨k', L', e1, e2, e3, e4, e5⟩ := may_spd M2.out
    have ek : k' = K := by omega
    have eL : L' = M := by rw [← e4, List.map_map]; conv => rhs; rw [← List.map_id M]
                           exact List.map_congr_left (fun x _ => rfl)
    rw [ek, eL] at e5
    exact e5
  have O3 : Hid (w3.ownsRow w.heap.size 3 1 (.slice (some ⟨bv, 0, none⟩) 65 cv) 65 (nis M)) := own_low o3 B2.out.size
  have B3 : Hid (Below w.heap.size w w3) := B2.out.trans (b3.mono B2.out.size)
  clear o3 b3
  go_wp2_with fail
  go_ret2
  exact ⟨_, K, M, rfl, SP.out, M2.out, P2.out, O3.out, B3.out⟩
end Go.Proofs.Ytofclflcicjlaaa
