/-
  Frequencies and counts of any row.
-/
import Derived.Test.YtofclflcicjlaaaC2
import Derived.Test.YtofclflcicjlaaaFq
import Derived.WalkKit
import Derived.ProofKit
import Derived.OpenShut
import Derived.Deep.QuietTactic
import Derived.Deep.RegionWith
import Derived.Deep.RegionHeld3
import Derived.OwnWalk
import Derived.ChangeOld
import Derived.Below
import Derived.BigQuiet
import Derived.BigRegion
namespace Go.Proofs.Ytofclflcicjlaaa
open Go.ChangeShapes Go.WideShapes Go.ChangeAt Go.RowKit
open Go.ChangeMaps (open_string shut_string)
set_option linter.unusedVariables false
def Fq3Rel (n : Nat) (S : Nat) (w : World) (sv : Value) (wr : World) : Prop :=
  ∃ (i : Nat) (F : List Int), (i ≤ n ∧ i % 2 = 0) ∧ sv = .int .i64 i ∧ F.length = 65 ∧ (∀ z ∈ F, 0 ≤ z ∧ z ≤ 65535) ∧ wr.ownsRow 0 3 1 (.slice (some ⟨S, 0, none⟩) 65 65) 65 (ivs F) ∧ Below w.heap.size w wr
set_option maxRecDepth 100000 in
set_option maxHeartbeats 2000000 in
theorem freq3_any (a : Option Addr) (n cap : Nat) (w : World) (h : RU w a n) (hn : n ≤ 9223372036854775807) :
    Calls Try.prog 10 #[.slice a n cap] w fun e w' => ∃ v F, e = .returned v ∧ F.length = 65 ∧ (∀ z ∈ F, (0 : Int) ≤ z ∧ z ≤ 65535) ∧ w'.ownsRow w.heap.size 3 1 v 65 (ivs F) ∧ Below w.heap.size w w' := by
  have mk := make_ints 28 3 Try.underlying28 info3 65 (by omega) w
  rw [show ((65 : Nat) : Int) = 65 from rfl] at mk
  have om := own_made_ints w 3 65 (by omega)
  have b1 : Below w.heap.size w (w.alloc (.cells (madeCells #[.int .i64 0] 65) 3)) := (Below.refl _ _).alloc (Nat.le_refl _) _
  obtain ⟨w1, hw1⟩ : ∃ w1, w.alloc (.cells (madeCells #[.int .i64 0] 65) 3) = w1 := ⟨_, rfl⟩
  rw [hw1] at mk om b1
  have ST : Hid (Fq3Rel n w.heap.size w (.int .i64 0) w1) := ⟨0, List.replicate 65 0, ⟨by omega, rfl⟩, rfl, by simp, fun z hz => by have := List.eq_of_mem_replicate hz; omega, own_low om (Nat.zero_le _), b1⟩
  have HX := Hid.intro h
  obtain ⟨S, hS⟩ : ∃ S, w.heap.size = S := ⟨_, rfl⟩
  clear om b1 hw1 h
  go_enter Try.func10, Try.ntmps10
  go_wp2_with fail
  simp only [hS] at ST ⊢
  have HS := Hid.intro hS
  clear hS mk
  go_loopw [4] (fun sv wr => Fq3Rel n S w sv wr) (fun sv _ => n - (intOf sv).toNat)
  case atStart => exact ST.out
  case round =>
    clear ST
    obtain ⟨i, F, ⟨hi, hpar⟩, rfl, d1, d2, d3, d4⟩ := hrel
    by_cases hlt : i + 1 < n
    · obtain ⟨x, rfl, hx⟩ := HX.out (by omega)
      obtain ⟨z, z0, z1, cz⟩ := hx i (by omega)
      obtain ⟨y, y0, y1, cy⟩ := hx (i + 1) (by omega)
      have cz' : wr.cell? (x.add i) = some (.int .u16 z) := by rw [d4.cell (World.block_lt_of_cell? _ _ cz)]; exact cz
      have cy' : wr.cell? (x.add (i + 1)) = some (.int .u16 y) := by rw [d4.cell (World.block_lt_of_cell? _ _ cy)]; exact cy
      obtain ⟨j, hj⟩ : ∃ j : Nat, (i : Int) + 1 = (j : Int) := ⟨i + 1, by omega⟩
      rw [show i + 1 = j by omega] at cy'
      obtain ⟨p, hp⟩ : ∃ p : Nat, z % 65 = (p : Int) := ⟨(z % 65).toNat, by omega⟩
      have hpt : z.tmod 65 = (p : Int) := by rw [Int.tmod_eq_emod_of_nonneg z0]; exact hp
      have hp65 : p < 65 := by omega
      obtain ⟨q, hq⟩ : ∃ q : Nat, z / 65 = (q : Int) := ⟨(z / 65).toNat, by omega⟩
      have hqt : z.tdiv 65 = (q : Int) := by rw [Int.tdiv_eq_ediv_of_nonneg z0]; exact hq
      obtain ⟨r, hr⟩ : ∃ r : Nat, (q : Int) % 16 = (r : Int) := ⟨q % 16, by omega⟩
      have hrt : (q : Int).tmod 16 = (r : Int) := by rw [Int.tmod_eq_emod_of_nonneg (by omega)]; exact hr
      have hr16 : r < 16 := by omega
      have wz : IntKind.i64.wrap z = z := by rw [IntKind.wrap_i64]; omega
      have wy : IntKind.i64.wrap y = y := by rw [IntKind.wrap_i64]; omega
      have wj : IntKind.i64.wrap (j : Int) = (j : Int) := by rw [IntKind.wrap_i64]; omega
      have wp : IntKind.i64.wrap (p : Int) = (p : Int) := by rw [IntKind.wrap_i64]; omega
      have hpi : (p : Int) < 65 := by omega
      have hp0 : (0 : Int) ≤ (p : Int) := by omega
      have hii : (i : Int) < (n : Int) := by omega
      have hi0 : (0 : Int) ≤ (i : Int) := by omega
      have hji : (j : Int) < (n : Int) := by omega
      have hj0 : (0 : Int) ≤ (j : Int) := by omega
      obtain ⟨u, hu, fu⟩ := own_one d3 p hp65
      have yb : 0 ≤ y / 2 ^ r ∧ y / 2 ^ r ≤ 65535 := by
        have h2 : (0 : Int) ≤ 2 ^ r := Int.pow_nonneg (by omega)
        exact ⟨Int.ediv_nonneg y0 h2, Int.le_trans (Int.ediv_le_self _ y0) y1⟩
      have o1 := own_drew (own_set d3 p (.int .i64 (y / 2 ^ r)))
      rw [ivs_set] at o1
      have c1 : Chg (· = S) wr (wr.setCell ⟨S, p, none⟩ (.int .i64 (y / 2 ^ r))).drew := chg_drew (chg_in (chg_refl _ _) _ _)
      have hSS := HS.out
      have R : Hid (Fq3Rel n S w (.int .i64 ((i + 2 : Nat) : Int)) (wr.setCell ⟨S, p, none⟩ (.int .i64 (y / 2 ^ r))).drew) := ⟨i + 2, F.set p (y / 2 ^ r), ⟨by omega, by omega⟩, rfl, by rw [List.length_set]; exact d1, fun v hv => by
        rcases List.mem_or_eq_of_mem_set hv with h | h
        · exact d2 v h
        · rw [h]; exact yb, o1, d4.trans (chg_below c1 d4.size (fun k hk => by omega))⟩
      clear cz cy hx o1 c1 yb d2 d3 d4 hSS
      go_wp2_with fail
      go_region
      all_goals
        go_wp2_with fail
        go_roundw
        case rel => exact R.out
        case measure => simp [intOf]; omega
    · obtain ⟨j, hj⟩ : ∃ j : Nat, (i : Int) + 1 = (j : Int) := ⟨i + 1, by omega⟩
      have hjn : n ≤ j := by omega
      have wj : IntKind.i64.wrap (j : Int) = (j : Int) := by rw [IntKind.wrap_i64]; omega
      have R := Hid.intro (And.intro (own_up (B := w.heap.size) d3 (fun k hk => by simp [Value.ownBlock] at hk; have := HS.out; omega)) d4)
      clear d3 d4
      go_wp2_with fail
      go_ret
      exact ⟨_, F, rfl, d1, d2, R.out.1, R.out.2⟩
set_option maxRecDepth 100000 in
set_option maxHeartbeats 1000000 in
theorem counts3_any (a : Option Addr) (n cap : Nat) (b : Int) (w : World) (h : RU w a n) (h2 : 0 ≤ b ∧ b ≤ 255) (hn : n ≤ 9223372036854775807) :
    Calls Try.prog 16 #[.slice a n cap, .int .u8 b] w fun e w' => ∃ (v : Value) (K : Nat) (M : List Nat), e = .returned (.tuple #[v, .int .i64 (K : Int)]) ∧ Spd K M (spr K M) ∧ may (K : Int) (M.map Int.ofNat) = true ∧ 0 < g M 2 ∧ w'.ownsRow w.heap.size 3 1 v 65 (nis M) ∧ Below w.heap.size w w' := by
  have FQ := freq3_any a n cap w h hn
  obtain ⟨r, hr⟩ : ∃ r : Nat, b % 6 = (r : Int) := ⟨(b % 6).toNat, by omega⟩
  have hrt : b.tmod 6 = (r : Int) := by rw [Int.tmod_eq_emod_of_nonneg h2.1]; exact hr
  obtain ⟨K, hK⟩ : ∃ K : Nat, 7 + (r : Int) = (K : Int) := ⟨7 + r, by omega⟩
  have K12 : K ≤ 12 := by omega
  have K7 : 7 ≤ K := by omega
  have wr' : IntKind.i64.wrap (r : Int) = (r : Int) := by rw [IntKind.wrap_i64]; omega
  have wb : IntKind.i64.wrap b = b := by rw [IntKind.wrap_i64]; omega
  obtain ⟨h2a, h2b⟩ := h2
  clear h
  go_enter Try.func16, Try.ntmps16
  go_wp2_with fail
  with_reducible refine FQ.mono ?_
  rintro e w1 ⟨vF, F, rfl, f1, f2, f3, f4⟩
  clear FQ
  obtain ⟨bF, cF, rfl⟩ := own_slice f3 (by omega)
  have ct := own_there f3 2 (by omega)
  have c2 : w1.cell? ⟨bF, 2, none⟩ = some (.int .i64 (fr F 2)) := by
    rw [ct.1]
    simp only [ivs, List.getElem?_map]
    rw [List.getElem?_eq_getElem (by omega), fr_at F 2 (by omega)]
    rfl
  have fz := ct.2.2
  have F2b : 0 ≤ fr F 2 ∧ fr F 2 ≤ 65535 := by rw [fr_at F 2 (by omega)]; exact f2 _ (List.getElem_mem _)
  have l2 : (F.set 2 (fr F 2 + 1)).length = 65 := by simpa using f1
  have b2 : ∀ x ∈ F.set 2 (fr F 2 + 1), 0 ≤ x ∧ x ≤ 16777216 := fun x hx => by
    rcases List.mem_or_eq_of_mem_set hx with h | h
    · have := f2 x h; omega
    · omega
  obtain ⟨M, hM, m1, m2, m3⟩ := norm_is (z := (K : Int)) l2 b2 (sum_pos (fun x hx => (b2 x hx).1) (fr F 2 + 1) (List.mem_iff_getElem.2 ⟨2, by omega, by simp⟩) (by omega)) (by omega)
  have P2 : Hid (0 < g M 2) := by
    show _ < _
    rcases norm_cases (F.set 2 (fr F 2 + 1)) (K : Int) with h | ⟨M', h1, -, -, -, -, h6, -⟩
    · rw [hM] at h; exact absurd (Prod.mk.inj h).1 (by decide)
    · rw [hM] at h1
      rw [(Prod.mk.inj h1).2, h6, fr_at _ 2 (by omega)]
      simp; omega
  have o2 := own_set f3 2 (.int .i64 (fr F 2 + 1))
  rw [ivs_set] at o2
  have hbF := (f3.lt bF rfl).1
  have B2 : Hid (Below w.heap.size w (w1.setCell ⟨bF, 2, none⟩ (.int .i64 (fr F 2 + 1)))) := f4.setCell (p := ⟨bF, 2, none⟩) hbF _
  have RN := rnorm_any (some ⟨bF, 0, none⟩) 65 cF (F.set 2 (fr F 2 + 1)) (K : Int) _ (own_ri' o2) (by omega)
  rw [hM] at RN
  obtain ⟨F1, F1b⟩ := F2b
  have M1 := Hid.intro m1
  have M2 := Hid.intro m2
  clear f2 f3 f4 ct l2 b2 hM m1 m2 m3 o2 hbF
  generalize F.set 2 (fr F 2 + 1) = G at *
  generalize fr F 2 = y at *
  go_wp2_with fail
  generalize w1.setCell ⟨bF, 2, none⟩ (.int .i64 (y + 1)) = w2 at *
  with_reducible refine RN.mono ?_
  rintro e w3 ⟨v, rfl, o3, b3⟩
  clear RN
  simp only at o3
  rw [M1.out] at o3
  obtain ⟨bv, cv, rfl⟩ := own_slice o3 (by omega)
  have fd := fld28 (.slice (some ⟨bv, 0, none⟩) 65 cv) 0 w3
  have SP : Hid (Spd K M (spr K M)) := by
    obtain ⟨k', L', e1, e2, e3, e4, e5⟩ := may_spd M2.out
    have ek : k' = K := by omega
    have eL : L' = M := by rw [← e4, List.map_map]; conv => rhs; rw [← List.map_id M]
                           exact List.map_congr_left (fun x _ => rfl)
    rw [ek, eL] at e5
    exact e5
  have O3 : Hid (w3.ownsRow w.heap.size 3 1 (.slice (some ⟨bv, 0, none⟩) 65 cv) 65 (nis M)) := own_low o3 B2.out.size
  have B3 : Hid (Below w.heap.size w w3) := B2.out.trans (b3.mono B2.out.size)
  clear o3 b3
  go_wp2_with fail
  go_ret2
  exact ⟨_, K, M, rfl, SP.out, M2.out, P2.out, O3.out, B3.out⟩
end Go.Proofs.Ytofclflcicjlaaa
