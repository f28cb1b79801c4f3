/-
  Frequencies by numbers.
-/
import Derived.Test.YtofclflcicjlaaaSh
import Derived.BigRegion
import Derived.Deep.RegionHeld3
namespace Go.Proofs.Ytofclflcicjlaaa
open Go.ChangeShapes Go.WideShapes Go.ChangeAt Go.RowKit
open Go.ChangeMaps (open_string shut_string)
def RU (w : World) (a : Option Addr) (n : Nat) : Prop := 0 < n → ∃ x, a = some x ∧ ∀ i, i < n → ∃ z : Int, 0 ≤ z ∧ z ≤ 65535 ∧ w.cell? (x.add i) = some (.int .u16 z)
def FqRel (S : Nat) (w : World) (sv : Value) (wr : World) : Prop :=
  ∃ (i : Nat) (F : List Int), i ≤ 1000 ∧ sv = .int .i64 i ∧ F.length = 65 ∧ (∀ z ∈ F, 0 ≤ z ∧ z ≤ 65535) ∧ wr.ownsRow 0 3 1 (.slice (some ⟨S, 0, none⟩) 65 65) 65 (ivs F) ∧ Below w.heap.size w wr
set_option maxRecDepth 100000 in
set_option maxHeartbeats 2000000 in
theorem freq_any (a : Option Addr) (n cap : Nat) (w : World) (h : RU w a n) (hn : n ≤ 140) :
    Calls Try.prog 10 #[.slice a n cap] w fun e w' => ∃ v F, e = .returned v ∧ F.length = 65 ∧ (∀ z ∈ F, (0 : Int) ≤ z ∧ z ≤ 65535) ∧ w'.ownsRow w.heap.size 3 1 v 65 (ivs F) ∧ Below w.heap.size w w' := by
  have mk := make_ints 28 3 Try.underlying28 info3 65 (by omega) w
  rw [show ((65 : Nat) : Int) = 65 from rfl] at mk
  have om := own_made_ints w 3 65 (by omega)
  have b1 : Below w.heap.size w (w.alloc (.cells (madeCells #[.int .i64 0] 65) 3)) := (Below.refl _ _).alloc (Nat.le_refl _) _
  obtain ⟨w1, hw1⟩ : ∃ w1, w.alloc (.cells (madeCells #[.int .i64 0] 65) 3) = w1 := ⟨_, rfl⟩
  rw [hw1] at mk om b1
  have ST : Hid (FqRel w.heap.size w (.int .i64 0) w1) := ⟨0, List.replicate 65 0, by omega, rfl, by simp, fun z hz => by have := List.eq_of_mem_replicate hz; omega, own_low om (Nat.zero_le _), b1⟩
  have HX := Hid.intro h
  obtain ⟨S, hS⟩ : ∃ S, w.heap.size = S := ⟨_, rfl⟩
  clear om b1 hw1 h
  go_enter Try.func10, Try.ntmps10
  go_wp2_with fail
  simp only [hS] at ST ⊢
  have HS := Hid.intro hS
  clear hS mk
  go_loopw [4] (fun sv wr => FqRel S w sv wr) (fun sv _ => n - (intOf sv).toNat)
  case atStart => exact ST.out
  case round =>
    clear ST
    obtain ⟨i, F, hi, rfl, d1, d2, d3, d4⟩ := hrel
    by_cases hlt : i + 1 < n
    · obtain ⟨x, rfl, hx⟩ := HX.out (by omega)
      obtain ⟨z, z0, z1, cz⟩ := hx i (by omega)
      obtain ⟨y, y0, y1, cy⟩ := hx (i + 1) (by omega)
      have cz' : wr.cell? (x.add i) = some (.int .u16 z) := by rw [d4.cell (World.block_lt_of_cell? _ _ cz)]; exact cz
      have cy' : wr.cell? (x.add (i + 1)) = some (.int .u16 y) := by rw [d4.cell (World.block_lt_of_cell? _ _ cy)]; exact cy
      obtain ⟨j, hj⟩ : ∃ j : Nat, (i : Int) + 1 = (j : Int) := ⟨i + 1, by omega⟩
      rw [show i + 1 = j by omega] at cy'
      obtain ⟨p, hp⟩ : ∃ p : Nat, z % 65 = (p : Int) := ⟨(z % 65).toNat, by omega⟩
      have hpt : z.tmod 65 = (p : Int) := by rw [Int.tmod_eq_emod_of_nonneg z0]; exact hp
      have hp65 : p < 65 := by omega
      obtain ⟨q, hq⟩ : ∃ q : Nat, z / 65 = (q : Int) := ⟨(z / 65).toNat, by omega⟩
      have hqt : z.tdiv 65 = (q : Int) := by rw [Int.tdiv_eq_ediv_of_nonneg z0]; exact hq
      obtain ⟨r, hr⟩ : ∃ r : Nat, (q : Int) % 16 = (r : Int) := ⟨q % 16, by omega⟩
      have hrt : (q : Int).tmod 16 = (r : Int) := by rw [Int.tmod_eq_emod_of_nonneg (by omega)]; exact hr
      have hr16 : r < 16 := by omega
      have wz : IntKind.i64.wrap z = z := by rw [IntKind.wrap_i64]; omega
      have wy : IntKind.i64.wrap y = y := by rw [IntKind.wrap_i64]; omega
      have wj : IntKind.i64.wrap (j : Int) = (j : Int) := by rw [IntKind.wrap_i64]; omega
      have wp : IntKind.i64.wrap (p : Int) = (p : Int) := by rw [IntKind.wrap_i64]; omega
      have hpi : (p : Int) < 65 := by omega
      have hp0 : (0 : Int) ≤ (p : Int) := by omega
      have hii : (i : Int) < (n : Int) := by omega
      have hi0 : (0 : Int) ≤ (i : Int) := by omega
      have hji : (j : Int) < (n : Int) := by omega
      have hj0 : (0 : Int) ≤ (j : Int) := by omega
      obtain ⟨u, hu, fu⟩ := own_one d3 p hp65
      have yb : 0 ≤ y / 2 ^ r ∧ y / 2 ^ r ≤ 65535 := by
        have h2 : (0 : Int) ≤ 2 ^ r := Int.pow_nonneg (by omega)
        exact ⟨Int.ediv_nonneg y0 h2, Int.le_trans (Int.ediv_le_self _ y0) y1⟩
      have o1 := own_drew (own_set d3 p (.int .i64 (y / 2 ^ r)))
      rw [ivs_set] at o1
      have c1 : Chg (· = S) wr (wr.setCell ⟨S, p, none⟩ (.int .i64 (y / 2 ^ r))).drew := chg_drew (chg_in (chg_refl _ _) _ _)
      have hSS := HS.out
      have R : Hid (FqRel S w (.int .i64 ((i + 2 : Nat) : Int)) (wr.setCell ⟨S, p, none⟩ (.int .i64 (y / 2 ^ r))).drew) := ⟨i + 2, F.set p (y / 2 ^ r), by omega, rfl, by rw [List.length_set]; exact d1, fun v hv => by
        rcases List.mem_or_eq_of_mem_set hv with h | h
        · exact d2 v h
        · rw [h]; exact yb, o1, d4.trans (chg_below c1 d4.size (fun k hk => by omega))⟩
      clear cz cy hx o1 c1 yb d2 d3 d4 hSS
      go_wp2_with fail
      go_region
      all_goals
        go_wp2_with fail
        go_roundw
        case rel => exact R.out
        case measure => simp [intOf]; omega
    · obtain ⟨j, hj⟩ : ∃ j : Nat, (i : Int) + 1 = (j : Int) := ⟨i + 1, by omega⟩
      have hjn : n ≤ j := by omega
      have R := Hid.intro (And.intro (own_up (B := w.heap.size) d3 (fun k hk => by simp [Value.ownBlock] at hk; have := HS.out; omega)) d4)
      clear d3 d4
      go_wp2_with fail
      go_ret
      exact ⟨_, F, rfl, d1, d2, R.out.1, R.out.2⟩
end Go.Proofs.Ytofclflcicjlaaa
