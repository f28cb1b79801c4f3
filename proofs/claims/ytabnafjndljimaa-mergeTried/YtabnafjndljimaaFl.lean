/-
  Classes that come alike often: the walk of MergeFlat.
-/
import Derived.Test.YtabnafjndljimaaAg
namespace Go.Proofs.Ytabnafjndljimaa
open Go.ChangeShapes Go.WideShapes Go.ChangeAt Go.RowKit
open Go.ChangeMaps (open_string shut_string)

def flp (x : Int) (fm i : Nat) : List (Nat × Int) := (List.range i).map (fun j => ((j + fm) % 65, x))
theorem flp_succ (x : Int) (fm i : Nat) : flp x fm (i + 1) = flp x fm i ++ [((i + fm) % 65, x)] := by unfold flp; rw [List.range_succ, List.map_append]; rfl
theorem flp_mem (x : Int) (fm i : Nat) : ∀ p ∈ flp x fm i, p.1 < 65 ∧ p.2 = x := by
  intro p hp
  obtain ⟨j, _, rfl⟩ := List.mem_map.1 hp
  exact ⟨Nat.mod_lt _ (by omega), rfl⟩
theorem flp_nodup (x : Int) (fm i : Nat) (h : i ≤ 65) : ((flp x fm i).map (·.1)).Nodup := by
  unfold flp
  rw [List.map_map]
  rw [List.nodup_iff_pairwise_ne, List.pairwise_map]
  refine (List.pairwise_lt_range (n := i)).imp_of_mem fun {a b} ha hb hab => ?_
  have := List.mem_range.1 ha
  have := List.mem_range.1 hb
  show (a + fm) % 65 ≠ (b + fm) % 65
  omega
theorem flat_law (x : Int) (fm k : Nat) (hx : 0 < x) (h1 : 0 < k) (h6 : k < 7) (o r : List Nat) (ho : Ordered (asg (flp x fm (2 ^ k))) 65 o) (hr : Ranks (asg (flp x fm (2 ^ k))) 7 o r) (c : Nat) (_hc : c < 65) :
    (fr (asg (flp x fm (2 ^ k))) c = x ∧ at0 (put o r) c = k) ∨ (fr (asg (flp x fm (2 ^ k))) c = 0 ∧ at0 (put o r) c = 0) := by
  have hN : 2 ^ k ≤ 64 := Nat.le_trans (Nat.pow_le_pow_right (by omega) (by omega : k ≤ 6)) (by decide)
  have hN2 : 2 ≤ 2 ^ k := by have := Nat.pow_le_pow_right (n := 2) (by omega) h1; simpa using this
  have h65 : ∀ p ∈ flp x fm (2 ^ k), p.1 < 65 := fun p hp => (flp_mem x fm _ p hp).1
  have hn := flp_nodup x fm (2 ^ k) (by omega)
  have hp : ∀ p ∈ flp x fm (2 ^ k), 0 < p.2 := fun p hp => by rw [(flp_mem x fm _ p hp).2]; exact hx
  have hperm := asg_order _ h65 hn hp o ho
  have hol : o.length = 2 ^ k := by rw [hperm.length_eq]; simp [flp]
  have hcs : (cs (asg (flp x fm (2 ^ k))) o).reverse = List.replicate (2 ^ k) x.toNat := by
    rw [List.eq_replicate_iff]
    refine ⟨by rw [List.length_reverse, cs_len, hol], fun b hb => ?_⟩
    have hb' := (asg_cs _ h65 hn hp o ho).mem_iff.1 (List.mem_reverse.1 hb)
    obtain ⟨p, hp', rfl⟩ := List.mem_map.1 hb'
    rw [(flp_mem x fm _ p hp').2]
  obtain ⟨ls, c1, c2⟩ := hr.2.2 (by omega)
  rw [hcs, hol] at c1
  have hls := flat_chain (2 ^ k) x.toNat (by omega) 7 _ ls c1
  by_cases hc : c ∈ o
  · left
    obtain ⟨q, hq, rfl⟩ := List.getElem_of_mem hc
    have hm := (ordered_mem ho o[q]).1 hc
    refine ⟨?_, ?_⟩
    · obtain ⟨p, hp', e⟩ := List.mem_map.1 (hperm.mem_iff.1 hc)
      rw [← e, asg_at _ h65 hn p hp', (flp_mem x fm _ p hp').2]
    · rw [put_at o r q hq hr.1 (ordered_nodup ho) hm.1, c2, vec_at _ _ _ hq, hls, hol]
      exact flat_ln k h6 h1 _ (by omega)
  · right
    refine ⟨asg_no _ h65 c (fun p hp' e => hc (hperm.mem_iff.2 (by rw [← e]; exact List.mem_map_of_mem hp'))), put_no o r c hc⟩
def RdRel (n : Nat) (w : World) (sv : Value) (wr : World) : Prop := ∃ j : Nat, j ≤ n ∧ sv = .int .i64 j ∧ wr = w
def FlRel (x : Int) (fm N S : Nat) (w : World) (sv : Value) (wr : World) : Prop :=
  ∃ i : Nat, i ≤ N ∧ sv = .int .i64 i ∧ wr.ownsRow 0 3 1 (.slice (some ⟨S, 0, none⟩) 65 65) 65 (ivs (asg (flp x fm i))) ∧ Below w.heap.size w wr
theorem iv_at {W : World} {base e b n cap : Nat} {zs : List Int} (h : W.ownsRow base e 1 (.slice (some ⟨b, 0, none⟩) n cap) n (ivs zs)) (i : Nat) (hi : i < n) : W.cell? ⟨b, i, none⟩ = some (.int .i64 (fr zs i)) := by
  have hl : zs.length = n := by have := h.1; simpa [ivs] using this
  rw [(own_there h i (by omega)).1, fr_at zs i (by omega)]
  simp [ivs, iv, hl, hi]
theorem ni_cell {W : World} {base e b n cap : Nat} {l : List Nat} (h : W.ownsRow base e 1 (.slice (some ⟨b, 0, none⟩) n cap) n (ni l)) (i : Nat) (hi : i < n) : W.cell? ⟨b, i, none⟩ = some (.int .i64 (at0 l i : Int)) := by
  have hl : l.length = n := by have := h.1; rw [ni_len] at this; omega
  rw [(own_there h i (by omega)).1, ni_at l i (by omega)]
  unfold at0; rw [List.getD_eq_getElem?_getD, List.getElem?_eq_getElem (by omega)]; rfl
set_option maxRecDepth 100000 in
set_option maxHeartbeats 2000000 in
theorem flat_walk (a0 a1 a2 : Int) (h0 : 0 ≤ a0 ∧ a0 ≤ 255) (h1 : 0 ≤ a1 ∧ a1 ≤ 65535) (h2 : 0 ≤ a2 ∧ a2 ≤ 255) (w : World) :
    Calls Try.prog 7 #[.int .u8 a0, .int .u16 a1, .int .u8 a2] w fun e w' => e = .returned (.bool true) ∧ Below w.heap.size w w' := by
  have mk := make_ints 22 3 Try.underlying22 info3 65 (by omega) w
  rw [show ((65 : Nat) : Int) = 65 from rfl] at mk
  have om := own_made_ints w 3 65 (by omega)
  have b1 : Below w.heap.size w (w.alloc (.cells (madeCells #[.int .i64 0] 65) 3)) := (Below.refl _ _).alloc (Nat.le_refl _) _
  generalize w.alloc (.cells (madeCells #[.int .i64 0] 65) 3) = w1 at *
  obtain ⟨k, hk⟩ : ∃ k : Nat, 1 + a0 % 6 = (k : Int) := ⟨(1 + a0 % 6).toNat, by omega⟩
  have hk1 : 0 < k := by omega
  have hk6 : k < 7 := by omega
  obtain ⟨fm, rfl⟩ : ∃ fm : Nat, a2 = (fm : Int) := ⟨a2.toNat, by omega⟩
  obtain ⟨N, hN⟩ : ∃ N : Nat, 2 ^ k = N := ⟨_, rfl⟩
  have hNi : (2 : Int) ^ k = (N : Int) := by rw [← hN]; simp
  have hN64 : N ≤ 64 := by rw [← hN]; exact Nat.le_trans (Nat.pow_le_pow_right (by omega) (by omega : k ≤ 6)) (by decide)
  have HN := Hid.intro hN
  have ST : Hid (FlRel (1 + a1) fm N w.heap.size w (.int .i64 0) w1) := ⟨0, by omega, rfl, own_low om (Nat.zero_le _), b1⟩
  clear om b1 hN
  obtain ⟨S, hS⟩ : ∃ S, w.heap.size = S := ⟨_, rfl⟩
  go_enter Try.func7, Try.ntmps7
  go_wp2_with fail
  simp only [hS] at ST ⊢
  have HS := Hid.intro hS
  clear hk hS mk
  go_loopw [9] (fun sv wr => FlRel (1 + a1) fm N S w sv wr) (fun sv _ => N - (intOf sv).toNat)
  case atStart => exact ST.out
  case round =>
    clear ST
    obtain ⟨i, hi, rfl, d1, d2⟩ := hrel
    by_cases hlt : i < N
    · obtain ⟨p, hp⟩ : ∃ p : Nat, (i + fm) % 65 = p := ⟨_, rfl⟩
      have hpi : ((i : Int) + (fm : Int)) % 65 = (p : Int) := by omega
      have hp65 : p < 65 := by omega
      have o1 := own_set d1 p (.int .i64 (1 + a1))
      rw [ivs_set] at o1
      have e : (asg (flp (1 + a1) fm i)).set p (1 + a1) = asg (flp (1 + a1) fm (i + 1)) := by rw [flp_succ, asg_snoc, hp]
      rw [e] at o1
      have hSS := HS.out
      have b2 : Below w.heap.size w (wr.setCell ⟨S, p, none⟩ (.int .i64 (1 + a1))) := d2.trans (chg_below (S := (· = S)) (chg_in (chg_refl _ _) _ _) d2.size (fun k hk => by omega))
      have R := Hid.intro (And.intro o1 b2)
      obtain ⟨u, hu, fu⟩ := own_one d1 p hp65
      clear o1 b2 e d1 d2 hp hSS
      go_wp2_with fail
      go_roundw
      case rel => exact ⟨i + 1, by omega, by go_num, R.out.1, R.out.2⟩
      case measure => simp [intOf]; omega
    · obtain rfl : i = N := by omega
      have LE := lengths_yes (some ⟨S, 0, none⟩) 65 (asg (flp (1 + a1) fm i)) 7 wr (own_ri2 d1) (mayB_of _ 7 (asg_mem _ 16777216 (by omega) (fun p hp => by rw [(flp_mem _ _ _ p hp).2]; omega)) (by omega) (by omega))
      rw [show ((7 : Nat) : Int) = 7 from rfl] at LE
      have HD := Hid.intro (And.intro d1 d2)
      clear d1 d2
      go_wp2_with fail
      with_reducible refine LE.mono ?_
      rintro e w2 ⟨v, o, r, rfl, k1, k2, k3, k4⟩
      have FL := Hid.intro (fun c hc => flat_law (1 + a1) fm k (by omega) hk1 hk6 o r (by rw [HN.out]; exact k1) (by rw [HN.out]; exact k2) c hc)
      rw [HN.out] at FL
      obtain ⟨d1, d2⟩ := HD.out
      have d1' := own_later d1 k4
      have b2 : Below w.heap.size w w2 := d2.trans (k4.mono d2.size)
      obtain ⟨b, cap, rfl⟩ := own_slice k3 (by omega)
      have ER := err_any 0 w2
      have HH := Hid.intro (And.intro d1' (And.intro k3 b2))
      clear LE k1 k2 k3 k4 d1 d2 d1' b2 HD
      go_wp2_with fail
      with_reducible refine ER.mono ?_
      rintro e w3 ⟨rfl, rfl⟩
      clear ER
      go_wp2_with fail
      go_loopw [12] (fun sv wr => RdRel 65 w3 sv wr) (fun sv _ => 65 - (intOf sv).toNat)
      case atStart => exact ⟨0, by omega, rfl, rfl⟩
      case round =>
        obtain ⟨j, hj, rfl, rfl⟩ := hrel
        obtain ⟨q1, q2, q3⟩ := HH.out
        by_cases hlt : j < 65
        · have cf := iv_at q1 j hlt
          have cl := ni_cell q2 j hlt
          have bx : (0 : Int) < 1 + a1 := by omega
          rcases FL.out j hlt with ⟨e1, e2⟩ | ⟨e1, e2⟩
          · rw [e1] at cf
            rw [e2] at cl
            have t1 : ((k : Int) == (k : Int)) = true := by simp
            have t2 : ((k : Int) != (k : Int)) = false := by simp
            have t3 : ((1 + a1 : Int) == 0) = false := by simp; omega
            clear q1 q2 q3 e1 e2
            generalize 1 + a1 = x at *
            go_wp2_with fail
            go_roundw
            case rel => exact ⟨j + 1, by omega, by go_num, rfl⟩
            case measure => simp [intOf]; omega
          · rw [e1] at cf
            rw [e2] at cl
            clear q1 q2 q3 e1 e2
            go_wp2_with fail
            go_roundw
            case rel => exact ⟨j + 1, by omega, by go_num, rfl⟩
            case measure => simp [intOf]; omega
        · have AW := awake_any wr
          have B3 := Hid.intro q3
          clear q1 q2 q3
          go_wp2_with fail
          with_reducible refine AW.mono ?_
          rintro e w4 ⟨rfl, k5⟩
          have B4 := Hid.intro (B3.out.trans (k5.mono B3.out.size))
          clear AW k5
          go_wp2_with fail
          go_ret
          exact ⟨rfl, B4.out⟩
end Go.Proofs.Ytabnafjndljimaa
