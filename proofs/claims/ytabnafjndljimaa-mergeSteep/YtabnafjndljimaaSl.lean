/-
  Frequencies each more than all ahead together: the walk of MergeSteep.
-/
import Derived.Test.YtabnafjndljimaaFl
namespace Go.Proofs.Ytabnafjndljimaa
open Go.ChangeShapes Go.WideShapes Go.ChangeAt Go.RowKit
open Go.ChangeMaps (open_string shut_string)

def spp (i : Nat) : List (Nat × Int) := (List.range i).map (fun j => (4 * j, 2 ^ j))
theorem spp_succ (i : Nat) : spp (i + 1) = spp i ++ [(4 * i, 2 ^ i)] := by unfold spp; rw [List.range_succ, List.map_append]; rfl
theorem spp_mem (i : Nat) (h : i ≤ 16) : ∀ p ∈ spp i, p.1 < 65 ∧ 0 < p.2 ∧ p.2 ≤ 16777216 := by
  intro p hp
  obtain ⟨j, hj, rfl⟩ := List.mem_map.1 hp
  have hj := List.mem_range.1 hj
  have h2 : (2 : Int) ^ j = ((2 ^ j : Nat) : Int) := by simp
  have h3 : 2 ^ j ≤ 2 ^ 16 := Nat.pow_le_pow_right (by omega) (by omega)
  have h4 : 0 < 2 ^ j := Nat.two_pow_pos j
  refine ⟨by show 4 * j < 65; omega, ?_, ?_⟩
  · show (0 : Int) < 2 ^ j; rw [h2]; omega
  · show (2 : Int) ^ j ≤ 16777216; rw [h2]; omega
theorem spp_nodup (i : Nat) : ((spp i).map (·.1)).Nodup := by
  unfold spp
  rw [List.map_map, List.nodup_iff_pairwise_ne, List.pairwise_map]
  refine (List.pairwise_lt_range (n := i)).imp fun {a b} hab => ?_
  show 4 * a ≠ 4 * b
  omega
theorem stp_rising (m : Nat) : Rising (stp m) := by
  unfold Rising stp
  rw [List.pairwise_map]
  refine (List.pairwise_lt_range (n := m)).imp fun {a b} hab => ?_
  exact Nat.pow_le_pow_right (by omega) (by omega)
theorem stp_at (m i : Nat) (h : i < m) : at0 (stp m) i = 2 ^ i := by
  unfold at0 stp
  rw [List.getD_eq_getElem?_getD, List.getElem?_map, List.getElem?_range h]; rfl
theorem steep_law (d m : Nat) (h7 : 7 ≤ d) (h15 : d < 16) (h2 : 2 ≤ m) (hm : m < d + 2) (o r : List Nat) (ho : Ordered (asg (spp m)) 65 o) (hr : Ranks (asg (spp m)) d o r) (i : Nat) (hi : i < m) : at0 (put o r) (4 * i) = min (m - i) (m - 1) := by
  have h65 : ∀ p ∈ spp m, p.1 < 65 := fun p hp => (spp_mem m (by omega) p hp).1
  have hn := spp_nodup m
  have hp : ∀ p ∈ spp m, 0 < p.2 := fun p hp => (spp_mem m (by omega) p hp).2.1
  have hperm := asg_order _ h65 hn hp o ho
  have hol : o.length = m := by rw [hperm.length_eq]; simp [spp]
  have hv : (spp m).map (fun p => p.2.toNat) = stp m := by
    unfold spp stp
    rw [List.map_map]
    apply List.map_congr_left
    intro j _
    show ((2 : Int) ^ j).toNat = 2 ^ j
    have h2 : (2 : Int) ^ j = ((2 ^ j : Nat) : Int) := by simp
    rw [h2]; rfl
  have hcs : (cs (asg (spp m)) o).reverse = stp m := by
    have pp := (List.reverse_perm _).trans (asg_cs _ h65 hn hp o ho)
    rw [hv] at pp
    exact List.Perm.eq_of_pairwise (le := (· ≤ ·)) (fun a b _ _ h k => Nat.le_antisymm h k) (cs_rising ho) (stp_rising m) pp
  obtain ⟨ls, c1, c2⟩ := hr.2.2 (by omega)
  rw [hcs, hol] at c1
  have hls := chain_one _ _ _ _ c1 (chainB_chain _ _ _ _ (steep_chain d h15 h7 m hm h2))
  have hmem : 4 * i ∈ o := hperm.mem_iff.2 (List.mem_map.2 ⟨(4 * i, 2 ^ i), List.mem_map.2 ⟨i, List.mem_range.2 hi, rfl⟩, rfl⟩)
  obtain ⟨q, hq, e⟩ := List.getElem_of_mem hmem
  have hfr : fr (asg (spp m)) (4 * i) = 2 ^ i := asg_at _ h65 hn (4 * i, 2 ^ i) (List.mem_map.2 ⟨i, List.mem_range.2 hi, rfl⟩)
  have hqi : q = m - 1 - i := by
    have c3 := cs_at (asg (spp m)) o q hq
    rw [g_eq o q hq, e, hfr] at c3
    have c4 : at0 (cs (asg (spp m)) o).reverse (m - 1 - q) = at0 (cs (asg (spp m)) o) q := by
      rw [at0_rev _ _ (by rw [cs_len]; omega), cs_len, hol]; congr 1; omega
    rw [hcs, c3, stp_at m _ (by omega)] at c4
    have h2 : (2 : Int) ^ i = ((2 ^ i : Nat) : Int) := by simp
    rw [h2] at c4
    have c5 : 2 ^ (m - 1 - q) = 2 ^ i := c4
    by_cases l1 : m - 1 - q < i
    · have := Nat.pow_lt_pow_right (a := 2) (by omega) l1; omega
    · by_cases l2 : i < m - 1 - q
      · have := Nat.pow_lt_pow_right (a := 2) (by omega) l2; omega
      · omega
  have := put_at o r q hq hr.1 (ordered_nodup ho) (by rw [e]; omega)
  rw [e] at this
  rw [this, c2, vec_at _ _ _ hq, hls, hol, show m - 1 - q = i by omega]
  exact steep_ln d h15 h7 m hm h2 i hi
def SpRel (m S : Nat) (w : World) (sv : Value) (wr : World) : Prop :=
  ∃ i : Nat, i ≤ m ∧ sv = .int .i64 i ∧ wr.ownsRow 0 3 1 (.slice (some ⟨S, 0, none⟩) 65 65) 65 (ivs (asg (spp i))) ∧ Below w.heap.size w wr
set_option maxRecDepth 100000 in
set_option maxHeartbeats 2000000 in
theorem steep_walk (a0 a1 : Int) (h0 : 0 ≤ a0 ∧ a0 ≤ 255) (h1 : 0 ≤ a1 ∧ a1 ≤ 255) (w : World) :
    Calls Try.prog 8 #[.int .u8 a0, .int .u8 a1] w fun e w' => e = .returned (.bool true) ∧ Below w.heap.size w w' := by
  have mk := make_ints 22 3 Try.underlying22 info3 65 (by omega) w
  rw [show ((65 : Nat) : Int) = 65 from rfl] at mk
  have om := own_made_ints w 3 65 (by omega)
  have b1 : Below w.heap.size w (w.alloc (.cells (madeCells #[.int .i64 0] 65) 3)) := (Below.refl _ _).alloc (Nat.le_refl _) _
  generalize w.alloc (.cells (madeCells #[.int .i64 0] 65) 3) = w1 at *
  obtain ⟨d, hd⟩ : ∃ d : Nat, 7 + a1 % 9 = (d : Int) := ⟨(7 + a1 % 9).toNat, by omega⟩
  have hd7 : 7 ≤ d := by omega
  have hd15 : d < 16 := by omega
  obtain ⟨a0, rfl⟩ : ∃ n : Nat, a0 = (n : Int) := ⟨a0.toNat, by omega⟩
  obtain ⟨y, hy⟩ : ∃ y : Nat, a0 % d = y := ⟨_, rfl⟩
  have hyi : (a0 : Int) % (d : Int) = (y : Int) := by rw [← hy]; simp
  have hyt : (a0 : Int).tmod (d : Int) = (y : Int) := by rw [Int.tmod_eq_emod_of_nonneg (by omega)]; exact hyi
  have hyd : y < d := by rw [← hy]; exact Nat.mod_lt _ (by omega)
  obtain ⟨m, hm⟩ : ∃ m : Nat, (2 : Int) + (y : Int) = (m : Int) := ⟨2 + y, by omega⟩
  have hm2 : 2 ≤ m := by omega
  have hmd : m < d + 2 := by omega
  have ST : Hid (SpRel m w.heap.size w (.int .i64 0) w1) := ⟨0, by omega, rfl, own_low om (Nat.zero_le _), b1⟩
  clear om b1 hy
  obtain ⟨S, hS⟩ : ∃ S, w.heap.size = S := ⟨_, rfl⟩
  have dz : ¬ (d : Int) = 0 := by omega
  have dz' : ((d : Int) == 0) = false := by simp; omega
  go_enter Try.func8, Try.ntmps8
  go_wp2_with fail
  simp only [hS] at ST ⊢
  have HS := Hid.intro hS
  clear hd hS mk hyi hyt hm dz dz'
  go_loopw [8] (fun sv wr => SpRel m S w sv wr) (fun sv _ => m - (intOf sv).toNat)
  case atStart => exact ST.out
  case round =>
    clear ST
    obtain ⟨i, hi, rfl, d1, d2⟩ := hrel
    by_cases hlt : i < m
    · obtain ⟨p, hp⟩ : ∃ p : Nat, 4 * i = p := ⟨_, rfl⟩
      have hp4 : (i : Int) * 4 = (p : Int) := by omega
      have hpm : (p : Int) % 65 = (p : Int) := by omega
      have hp65 : p < 65 := by omega
      obtain ⟨z, hz⟩ : ∃ z : Nat, 2 ^ i = z := ⟨_, rfl⟩
      have hzi : (2 : Int) ^ i = (z : Int) := by rw [← hz]; simp
      have hz16 : z ≤ 65536 := by rw [← hz]; exact Nat.le_trans (Nat.pow_le_pow_right (by omega) (by omega : i ≤ 16)) (by decide)
      have o1 := own_set d1 p (.int .i64 (z : Int))
      rw [ivs_set] at o1
      have e : (asg (spp i)).set p (z : Int) = asg (spp (i + 1)) := by rw [spp_succ, asg_snoc, hp, hzi]
      rw [e] at o1
      have hSS := HS.out
      have b2 : Below w.heap.size w (wr.setCell ⟨S, p, none⟩ (.int .i64 (z : Int))) := d2.trans (chg_below (S := (· = S)) (chg_in (chg_refl _ _) _ _) d2.size (fun k hk => by omega))
      have R := Hid.intro (And.intro o1 b2)
      obtain ⟨u, hu, fu⟩ := own_one d1 p hp65
      have hi16 : i < 17 := by omega
      clear o1 b2 e d1 d2 hp hSS hz
      go_wp2_with fail
      go_roundw
      case rel => exact ⟨i + 1, by omega, by go_num, R.out.1, R.out.2⟩
      case measure => simp [intOf]; omega
    · obtain rfl : i = m := by omega
      have LE := lengths_yes (some ⟨S, 0, none⟩) 65 (asg (spp i)) d wr (own_ri2 d1) (mayB_of _ d (asg_mem _ 16777216 (by omega) (fun p hp => by have := spp_mem i (by omega) p hp; omega)) (by omega) (by omega))
      have HD := Hid.intro (And.intro d1 d2)
      clear d1 d2
      go_wp2_with fail
      with_reducible refine LE.mono ?_
      rintro e w2 ⟨v, o, r, rfl, k1, k2, k3, k4⟩
      have FL := Hid.intro (fun c hc => steep_law d i hd7 hd15 hm2 hmd o r k1 k2 c hc)
      obtain ⟨d1, d2⟩ := HD.out
      have b2 : Below w.heap.size w w2 := d2.trans (k4.mono d2.size)
      obtain ⟨b, cap, rfl⟩ := own_slice k3 (by omega)
      have ER := err_any 0 w2
      have HH := Hid.intro (And.intro k3 b2)
      clear LE k1 k2 k3 k4 d1 d2 b2 HD
      go_wp2_with fail
      with_reducible refine ER.mono ?_
      rintro e w3 ⟨rfl, rfl⟩
      clear ER
      go_wp2_with fail
      go_loopw [11] (fun sv wr => RdRel i w3 sv wr) (fun sv _ => i - (intOf sv).toNat)
      case atStart => exact ⟨0, by omega, rfl, rfl⟩
      case round =>
        obtain ⟨j, hj, rfl, rfl⟩ := hrel
        obtain ⟨q2, q3⟩ := HH.out
        by_cases hlt : j < i
        · obtain ⟨p, hp⟩ : ∃ p : Nat, 4 * j = p := ⟨_, rfl⟩
          have hp4 : (j : Int) * 4 = (p : Int) := by omega
          have hpm : (p : Int) % 65 = (p : Int) := by omega
          have cl := ni_cell q2 p (by omega)
          have e1 := FL.out j hlt
          rw [hp] at e1
          rw [e1] at cl
          have hp65 : p < 65 := by omega
          clear q2 q3 e1 hp
          by_cases hj0 : j = 0
          · have hj1 : j < 1 := by omega
            obtain ⟨x, hx⟩ : ∃ x : Nat, i - 1 = x := ⟨_, rfl⟩
            obtain ⟨x', hx'⟩ : ∃ x : Nat, i - j = x := ⟨_, rfl⟩
            have e2 : (i : Int) - 1 = (x : Int) := by omega
            have e2' : (i : Int) - (j : Int) = (x' : Int) := by omega
            have e4 : x < x' := by omega
            have e3 : min (i - j) (i - 1) = x := by omega
            clear hj0 hx'
            have t1 : ((x : Int) == (x : Int)) = true := by simp
            have t2 : ((x : Int) != (x : Int)) = false := by simp
            have hxi : x < i := by omega
            rw [e3] at cl
            clear e3 hx
            go_wp2_with fail
            go_roundw
            case rel => exact ⟨j + 1, by omega, by go_num, rfl⟩
            case measure => simp [intOf]; omega
          · obtain ⟨x, hx⟩ : ∃ x : Nat, i - j = x := ⟨_, rfl⟩
            have e2 : (i : Int) - (j : Int) = (x : Int) := by omega
            have e3 : min (i - j) (i - 1) = x := by omega
            have t1 : ((x : Int) == (x : Int)) = true := by simp
            have t2 : ((x : Int) != (x : Int)) = false := by simp
            have hxi : x < i := by omega
            rw [e3] at cl
            clear e3 hx
            go_wp2_with fail
            go_roundw
            case rel => exact ⟨j + 1, by omega, by go_num, rfl⟩
            case measure => simp [intOf]; omega
        · have AW := awake_any wr
          have B3 := Hid.intro q3
          clear q2 q3
          go_wp2_with fail
          with_reducible refine AW.mono ?_
          rintro e w4 ⟨rfl, k5⟩
          have B4 := Hid.intro (B3.out.trans (k5.mono B3.out.size))
          clear AW k5
          go_wp2_with fail
          go_ret
          exact ⟨rfl, B4.out⟩
end Go.Proofs.Ytabnafjndljimaa
