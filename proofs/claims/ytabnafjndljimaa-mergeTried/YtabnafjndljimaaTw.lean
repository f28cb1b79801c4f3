/-
  Of a few classes all lengths are tried: the walk of MergeTried.
-/
import Derived.Test.YtabnafjndljimaaTm
import Derived.Test.YtabnafjndljimaaFl
import Derived.Deep.RegionHeld3
namespace Go.Proofs.Ytabnafjndljimaa
open Go.ChangeShapes Go.WideShapes Go.ChangeAt Go.RowKit
open Go.ChangeMaps (open_string shut_string)

theorem and_three : ∀ x : Nat, x < 1024 → bits .and .i64 (x : Int) 3 = ((x % 4 : Nat) : Int) := by decide +kernel
theorem ksum_succ (k : Nat → Nat) (n : Nat) : ksum k (n + 1) = ksum k n + 2 ^ (4 - k n) := by unfold ksum; rw [List.range_succ, List.map_append, List.sum_append]; simp
theorem kcst_succ (v k : Nat → Nat) (n : Nat) : kcst v k (n + 1) = kcst v k n + k n * v n := by unfold kcst; rw [List.range_succ, List.map_append, List.sum_append]; simp
theorem ksum_bd (c : Nat) : ∀ n, ksum (dg c) n ≤ n * 16
  | 0 => by simp [ksum]
  | n + 1 => by
    have h1 := ksum_bd c n
    have h2 : 2 ^ (4 - dg c n) ≤ 16 := Nat.le_trans (Nat.pow_le_pow_right (by omega) (by omega : 4 - dg c n ≤ 4)) (by decide)
    rw [ksum_succ, Nat.succ_mul]; omega
theorem kcst_bd (v : Nat → Nat) (c : Nat) : ∀ n, (∀ i, i < n → v i ≤ 256) → kcst v (dg c) n ≤ n * 1024
  | 0, _ => by simp [kcst]
  | n + 1, h => by
    have h1 := kcst_bd v c n (fun i hi => h i (by omega))
    have h2 : dg c n * v n ≤ 4 * 256 := Nat.mul_le_mul (by unfold dg; omega) (h n (by omega))
    rw [kcst_succ, Nat.succ_mul]; omega
def TwRel1 (v : Nat → Nat) (N S : Nat) (w : World) (sv : Value) (wr : World) : Prop :=
  ∃ i : Nat, i ≤ N ∧ sv = .int .i64 i ∧ wr.ownsRow 0 3 1 (.slice (some ⟨S, 0, none⟩) 65 65) 65 (ivs (asg (trp v i))) ∧ Below w.heap.size w wr
def TwRel2 (N : Nat) (w : World) (av iv : Value) (wr : World) : Prop := ∃ i : Nat, i ≤ N ∧ iv = .int .i64 i ∧ av = .int .i64 ((4 ^ i : Nat) : Int) ∧ wr = w
def TwRel3 (v : Nat → Nat) (N wt : Nat) (w : World) (lv cv : Value) (wr : World) : Prop :=
  ∃ c le : Nat, c ≤ 4 ^ N ∧ cv = .int .i64 c ∧ lv = .int .i64 (le : Nat) ∧ wt ≤ le ∧ le ≤ 1099511627776 ∧ (∀ c', c' < c → ksum (dg c') N = 16 → le ≤ kcst v (dg c') N) ∧ wr = w
def TwRel4 (v : Nat → Nat) (N c : Nat) (w : World) (sv cv iv : Value) (wr : World) : Prop :=
  ∃ i : Nat, i ≤ N ∧ iv = .int .i64 i ∧ sv = .int .i64 (ksum (dg c) i : Nat) ∧ cv = .int .i64 (kcst v (dg c) i : Nat) ∧ wr = w
theorem held_one {w8 a b : World} {B : Nat} {u : Value} (hB : B < w8.heap.size) (h : a.cell? ⟨B, 0, none⟩ = some u ∧ Below w8.heap.size w8 a) (k : Below a.heap.size a b) : b.cell? ⟨B, 0, none⟩ = some u ∧ Below w8.heap.size w8 b := by
  have hlt : B < a.heap.size := Nat.lt_of_lt_of_le hB h.2.size
  exact ⟨by rw [k.cell (p := ⟨B, 0, none⟩) hlt]; exact h.1, h.2.trans (k.mono h.2.size)⟩
theorem held_tl {w8 a : World} {p : Prop} (h : p ∧ Below w8.heap.size w8 a) : Below w8.heap.size w8 a := h.2
theorem few_cost {v : Nat → Nat} {n d : Nat} {o r : List Nat} (hn : n < 2) (hv : ∀ i, i < n → 0 < v i ∧ v i ≤ 256) (ho : Ordered (asg (trp v n)) 65 o) (hr : Ranks (asg (trp v n)) d o r) : (ccost (asg (trp v n)) o r : Int) = fr (asg (trp v n)) 0 := by
  have h65 : ∀ p ∈ trp v n, p.1 < 65 := fun p hp => (trp_mem v n (by omega) hv p hp).1
  have hp : ∀ p ∈ trp v n, 0 < p.2 := fun p hp => (trp_mem v n (by omega) hv p hp).2.1
  have hperm := asg_order _ h65 (trp_nodup v n) hp o ho
  rw [trp_pos] at hperm
  rcases (by omega : n = 0 ∨ n = 1) with h | h
  · subst h
    have e : o = [] := List.Perm.eq_nil hperm
    subst e
    rw [asg_no _ h65 0 (fun p hp => by simp [trp] at hp)]; rfl
  · subst h
    have e : o = [0] := List.perm_singleton.1 hperm
    subst e
    rw [hr.2.1 rfl]
    have e1 : ccost (asg (trp v 1)) [0] [1] = (fr (asg (trp v 1)) 0).toNat := by
      unfold ccost cs
      simp [at0]
    have e2 : fr (asg (trp v 1)) 0 = (v 0 : Int) := asg_at _ h65 (trp_nodup v 1) (0, ((v 0 : Nat) : Int)) (by simp [trp])
    rw [e1, e2]; rfl
set_option maxRecDepth 100000 in
set_option maxHeartbeats 4000000 in
theorem tried_walk (a : Option Addr) (len cap : Nat) (zs : List Int) (lim : Int) (w : World) (hx : 0 < len → ∃ x, a = some x ∧ ∀ i, i < len → w.cell? (x.add i) = some (.int .u8 (fr zs i))) (hz : ∀ i, i < len → 0 ≤ fr zs i ∧ fr zs i ≤ 255) (hlen : len ≤ 9223372036854775807) (hl : 0 ≤ lim ∧ lim ≤ 255) :
    Calls Try.prog 6 #[.slice a len cap, .int .u8 lim] w fun e w' => e = .returned (.bool true) ∧ Below w.heap.size w w' := by
  have mk := make_ints 22 3 Try.underlying22 info3 65 (by omega) w
  rw [show ((65 : Nat) : Int) = 65 from rfl] at mk
  have om := own_made_ints w 3 65 (by omega)
  have b1 : Below w.heap.size w (w.alloc (.cells (madeCells #[.int .i64 0] 65) 3)) := (Below.refl _ _).alloc (Nat.le_refl _) _
  generalize w.alloc (.cells (madeCells #[.int .i64 0] 65) 3) = w1 at *
  obtain ⟨d, hd⟩ : ∃ d : Nat, 7 + lim % 9 = (d : Int) := ⟨(7 + lim % 9).toNat, by omega⟩
  have hd7 : 7 ≤ d := by omega
  have hd15 : d ≤ 15 := by omega
  obtain ⟨v, hvdef⟩ : ∃ v : Nat → Nat, ∀ i, i < len → ((1 : Int) + fr zs i = (v i : Int) ∧ 0 ≤ fr zs i ∧ fr zs i ≤ 255) := ⟨fun i => (1 + fr zs i).toNat, fun i hi => by have := hz i hi; exact ⟨by show (1 : Int) + fr zs i = ((1 + fr zs i).toNat : Int); omega, this⟩⟩
  have HX := Hid.intro hx
  have HV := Hid.intro hvdef
  clear hx hz hvdef
  obtain ⟨S, hS⟩ : ∃ S, w.heap.size = S := ⟨_, rfl⟩
  by_cases h5 : 5 < len
  · obtain ⟨N, h5N⟩ : ∃ N : Nat, (5 : Int) = (N : Int) := ⟨5, rfl⟩
    have hN5 : N ≤ 5 := by omega
    have hNl : N ≤ len := by omega
    have ST : Hid (TwRel1 v N w.heap.size w (.int .i64 0) w1) := ⟨0, by omega, rfl, own_low om (Nat.zero_le _), b1⟩
    clear om b1
    go_enter Try.func6, Try.ntmps6
    go_wp2_with fail
    clear h5N
    simp only [hS] at ST ⊢
    have HS := Hid.intro hS
    clear hS mk
    go_loopw [7] (fun sv wr => TwRel1 v N S w sv wr) (fun sv _ => N - (intOf sv).toNat)
    case atStart => exact ST.out
    case round =>
      clear ST
      obtain ⟨i, hi, rfl, d1, d2⟩ := hrel
      have hSS := HS.out
      by_cases hlt : i < N
      · obtain ⟨x, rfl, hx⟩ := HX.out (by omega)
        have cz := hx i (by omega)
        have cz' : wr.cell? (x.add i) = some (.int .u8 (fr zs i)) := by rw [d2.cell (World.block_lt_of_cell? _ _ cz)]; exact cz
        have hvi := HV.out i (by omega)
        obtain ⟨p, hp⟩ : ∃ p : Nat, 7 * i = p := ⟨_, rfl⟩
        have hpi : (i : Int) * 7 = (p : Int) := by omega
        have hp65 : p < 65 := by omega
        obtain ⟨t, ht⟩ : ∃ t : Nat, v i = t := ⟨_, rfl⟩
        have hti : (1 : Int) + fr zs i = (t : Int) := by rw [← ht]; exact hvi.1
        have o1 := own_set d1 p (.int .i64 (t : Int))
        rw [ivs_set] at o1
        have e : (asg (trp v i)).set p (t : Int) = asg (trp v (i + 1)) := by rw [trp_succ, asg_snoc, hp, ht]
        rw [e] at o1
        have b2 : Below w.heap.size w (wr.setCell ⟨S, p, none⟩ (.int .i64 (t : Int))) := d2.trans (chg_below (S := (· = S)) (chg_in (chg_refl _ _) _ _) d2.size (fun k hk => by omega))
        have R := Hid.intro (And.intro o1 b2)
        obtain ⟨u, hu, fu⟩ := own_one d1 p hp65
        have zb : 0 ≤ fr zs i ∧ fr zs i ≤ 255 := hvi.2
        have hil : i < len := by omega
        clear o1 b2 e d1 d2 hp hSS cz hx hvi ht
        generalize fr zs i = z at *
        go_wp2_with fail
        go_roundw
        case rel => exact ⟨i + 1, by omega, by go_num, R.out.1, R.out.2⟩
        case measure => simp [intOf]; omega
      · obtain rfl : i = N := by omega
        have hvb : ∀ j, j < i → 0 < v j ∧ v j ≤ 256 := fun j hj => by have := HV.out j (by omega); omega
        have LE := lengths_yes (some ⟨S, 0, none⟩) 65 (asg (trp v i)) d wr (own_ri2 d1) (mayB_of _ d (asg_mem _ 16777216 (by omega) (fun p hp => by have := trp_mem v i hN5 hvb p hp; omega)) hd7 hd15)
        have HD := Hid.intro (And.intro d1 d2)
        have HVB := Hid.intro hvb
        clear d1 d2 hvb hSS
        go_wp2_with fail
        with_reducible refine LE.mono ?_
        rintro e w2 ⟨vv, o, r, rfl, k1, k2, k3, k4⟩
        obtain ⟨d1, d2⟩ := HD.out
        have rF := own_later d1 k4
        have b2 : Below w.heap.size w w2 := d2.trans (k4.mono d2.size)
        obtain ⟨b, cap', rfl⟩ := own_slice k3 (by omega)
        have ER := err_any 0 w2
        have dL := dot_cost (asg_len (trp v i)) k1 k2.1
        have F65 : ∀ z ∈ asg (trp v i), -1099511627776 ≤ z ∧ z ≤ 1099511627776 := fun z hz => by
          have := asg_mem (trp v i) 256 (by omega) (fun p hp => by have := trp_mem v i hN5 HVB.out p hp; omega) z hz
          omega
        have L15 : ∀ z ∈ (put o r).map Int.ofNat, -100 ≤ z ∧ z ≤ 100 := fun z hz => by
          obtain ⟨q, hq, rfl⟩ := List.mem_map.1 hz
          obtain ⟨j, hj, rfl⟩ := List.getElem_of_mem hq
          rw [put_len] at hj
          have := (lens_at k1 k2 hd7 j hj).1
          unfold at0 at this
          rw [List.getD_eq_getElem?_getD, List.getElem?_eq_getElem (by rw [put_len]; exact hj)] at this
          have e : Int.ofNat (put o r)[j] = ((put o r)[j] : Int) := rfl
          have t : (put o r)[j] ≤ d := this
          rw [e]; omega
        have CO : ∀ W, Below w2.heap.size w2 W → Calls Try.prog 14 #[.slice (some ⟨S, 0, none⟩) 65 65, .slice (some ⟨b, 0, none⟩) 65 cap'] W fun e W' => e = .returned (.int .i64 (ccost (asg (trp v i)) o r : Int)) ∧ Below W.heap.size W W' := fun W hW => by
          have c := cost_any (some ⟨S, 0, none⟩) (some ⟨b, 0, none⟩) 65 65 65 cap' (asg (trp v i)) _ W (ri_below (own_ri2 rF) hW) (ri_below (own_ri2 k3) hW) (by omega) (by omega) (dotB_of _ _ F65 L15)
          rw [dL] at c; exact c
        have HH := Hid.intro (And.intro k1 (And.intro k2 (And.intro rF b2)))
        have ltS := (rF.lt S rfl).2
        clear LE HD k1 k2 k3 k4 d1 d2 b2 rF dL F65 L15
        go_wp2_with fail
        with_reducible refine ER.mono ?_
        rintro e w3 ⟨rfl, rfl⟩
        clear ER
        by_cases h2 : i < 2
        · obtain ⟨k1, k2, rF, b2⟩ := HH.out
          have few := few_cost h2 HVB.out k1 k2
          have cf0 := iv_at rF 0 (by omega)
          rw [few] at CO
          generalize fr (asg (trp v i)) 0 = f0 at *
          have tt : (f0 == f0) = true := by simp
          have AW := awake_any
          have hSg : w3.drew.cell? ⟨S, 0, none⟩ = some (.int .i64 f0) ∧ Below w3.heap.size w3 w3.drew := ⟨cf0, (Below.refl _ _).drew⟩
          have HB := Hid.intro b2
          clear k1 k2 rF b2 few cf0
          go_wp2_with fail
          go_region_held3 (fun W => W.cell? ⟨S, 0, none⟩ = some (.int .i64 f0) ∧ Below w3.heap.size w3 W) (first | exact hSg | exact held_one ltS (by assumption) (by assumption) | assumption) (first
            | (go_at_call 14; refine (CO _ ?_).mono ?_; exact held_tl (by assumption); rintro e w9 ⟨rfl, hb9⟩)
            | (go_at_call 9; refine (AW _).mono ?_; rintro e w9 ⟨rfl, hb9⟩))
          all_goals
            have hT : ∃ p : Prop, p ∧ Below w3.heap.size w3 w9 := ⟨_, by assumption⟩
            obtain ⟨_, _, hT⟩ := hT
            have B9 := Hid.intro (HB.out.trans (hT.mono HB.out.size))
            clear hT
            go_wp2_with fail
            go_ret
            exact ⟨rfl, B9.out⟩
        · obtain ⟨k1, k2, rF, b2⟩ := HH.out
          have low := Hid.intro (fun c hs => tried_low hN5 (by omega) HVB.out hd7 k1 k2 (dg c) (fun j _ => by unfold dg; omega) hs)
          obtain ⟨a1, a2, a3⟩ := tried_there hN5 (by omega) HVB.out hd7 k1 k2
          obtain ⟨cc, hcc, hdc⟩ := digits _ i a1
          have there : Hid (cc < 4 ^ i ∧ ksum (dg cc) i = 16 ∧ kcst v (dg cc) i = ccost (asg (trp v i)) o r) := ⟨hcc, by rw [ksum_congr hdc]; exact a2, by rw [kcst_congr hdc]; exact a3⟩
          have CO1 := CO w3 (Below.refl _ _)
          have wtb : ccost (asg (trp v i)) o r ≤ 5120 := by rw [← there.out.2.2]; have := kcst_bd v cc i (fun j hj => (HVB.out j hj).2); omega
          have RF := Hid.intro (And.intro rF b2)
          clear CO HH k1 k2 rF b2 a1 a2 a3 hcc hdc
          generalize ccost (asg (trp v i)) o r = wt at *
          go_wp2_with fail
          with_reducible refine CO1.mono ?_
          rintro e w4 ⟨rfl, z4⟩
          have RF4 := Hid.intro (And.intro (own_later RF.out.1 z4) (RF.out.2.trans (z4.mono RF.out.2.size)))
          clear CO1 z4 RF
          go_wp2_with fail
          go_loopw [11, 12] (fun av iv wr => TwRel2 i w4 av iv wr) (fun _ iv _ => i - (intOf iv).toNat)
          case atStart => exact ⟨0, by omega, rfl, rfl, rfl⟩
          case round =>
            obtain ⟨j, hj, rfl, rfl, rfl⟩ := hrel
            by_cases hltj : j < i
            · obtain ⟨q, hq⟩ : ∃ q : Nat, 4 ^ j = q := ⟨_, rfl⟩
              have hq2 : Hid (4 ^ (j + 1) = q * 4) := by show 4 ^ (j + 1) = q * 4; rw [Nat.pow_succ, hq]
              have hqb : q ≤ 1024 := by rw [← hq]; exact Nat.le_trans (Nat.pow_le_pow_right (by omega) (by omega : j ≤ 5)) (by decide)
              rw [hq]
              clear hq
              go_wp2_with fail
              go_roundw
              case rel => exact ⟨j + 1, by omega, by go_num, by rw [hq2.out, Int.natCast_mul]; rfl, rfl⟩
              case measure => simp [intOf]; omega
            · obtain rfl : j = i := by omega
              obtain ⟨al, hal⟩ : ∃ al : Nat, 4 ^ j = al := ⟨_, rfl⟩
              have halb : al ≤ 1024 := by rw [← hal]; exact Nat.le_trans (Nat.pow_le_pow_right (by omega) (by omega : j ≤ 5)) (by decide)
              have HAL := Hid.intro hal
              rw [hal]
              clear hal
              go_wp2_with fail
              go_loopw [13, 14] (fun lv cv w' => TwRel3 v j wt wr lv cv w') (fun _ cv _ => al - (intOf cv).toNat)
              case atStart => exact ⟨0, 1099511627776, Nat.zero_le _, rfl, rfl, by omega, by omega, fun c' h => absurd h (Nat.not_lt_zero _), rfl⟩
              case round =>
                obtain ⟨c, le, hc, rfl, rfl, hwl, hle, hall, rfl⟩ := hrel
                rw [HAL.out] at hc
                by_cases hltc : c < al
                · have HALL := Hid.intro hall
                  clear hall
                  go_wp2_with fail
                  go_loopw [15, 16, 17] (fun sv kv iv w' => TwRel4 v j c wr sv kv iv w') (fun _ _ iv _ => j - (intOf iv).toNat)
                  case atStart => exact ⟨0, by omega, rfl, rfl, rfl, rfl⟩
                  case round =>
                    obtain ⟨m, hm, rfl, rfl, rfl, rfl⟩ := hrel
                    have sb := ksum_bd c m
                    have kb := kcst_bd v c m (fun q hq => (HVB.out q (by omega)).2)
                    by_cases hltm : m < j
                    · have hvm := HVB.out m hltm
                      obtain ⟨p, hp⟩ : ∃ p : Nat, 7 * m = p := ⟨_, rfl⟩
                      have hpi : (m : Int) * 7 = (p : Int) := by omega
                      have hp65 : p < 65 := by omega
                      have cf := iv_at RF4.out.1 p hp65
                      have h65 : ∀ q ∈ trp v j, q.1 < 65 := fun q hq => (trp_mem v j hN5 HVB.out q hq).1
                      have hfv : fr (asg (trp v j)) p = (v m : Int) := by rw [← hp]; exact asg_at _ h65 (trp_nodup v j) (7 * m, ((v m : Nat) : Int)) (List.mem_map.2 ⟨m, List.mem_range.2 hltm, rfl⟩)
                      rw [hfv] at cf
                      have SS := Hid.intro (ksum_succ (dg c) m)
                      have KK := Hid.intro (kcst_succ v (dg c) m)
                      obtain ⟨ee, he⟩ : ∃ ee : Nat, (2 : Int) * (m : Int) = (ee : Int) := ⟨2 * m, by omega⟩
                      obtain ⟨xx, hxx⟩ : ∃ xx : Nat, c / 4 ^ m = xx := ⟨_, rfl⟩
                      have hxi : (c : Int) / 2 ^ ee = (xx : Int) := by
                        have e1 : (2 : Int) ^ ee = ((4 ^ m : Nat) : Int) := by
                          have : ee = 2 * m := by omega
                          rw [this, Int.pow_mul]; simp
                        rw [e1, ← hxx]; simp
                      have hxb : xx < 1024 := by rw [← hxx]; exact Nat.lt_of_le_of_lt (Nat.div_le_self _ _) (by omega)
                      have hand := and_three xx hxb
                      obtain ⟨yy, hyy⟩ : ∃ yy : Nat, xx % 4 = yy := ⟨_, rfl⟩
                      rw [hyy] at hand
                      obtain ⟨kk, hkk⟩ : ∃ kk : Nat, (yy : Int) + 1 = (kk : Int) := ⟨yy + 1, by omega⟩
                      have hdg : dg c m = kk := by unfold dg; rw [hxx, hyy]; omega
                      rw [hdg] at SS KK
                      have hk4 : 1 ≤ kk ∧ kk ≤ 4 := by omega
                      obtain ⟨s2, hs2⟩ : ∃ s2 : Nat, 2 ^ (4 - kk) = s2 := ⟨_, rfl⟩
                      have hsh : (16 : Int) / 2 ^ kk = (s2 : Int) := by
                        rw [← hs2]
                        rcases (by omega : kk = 1 ∨ kk = 2 ∨ kk = 3 ∨ kk = 4) with h | h | h | h <;> subst h <;> decide
                      have hs2b : s2 ≤ 16 := by rw [← hs2]; exact Nat.le_trans (Nat.pow_le_pow_right (by omega) (by omega : 4 - kk ≤ 4)) (by decide)
                      rw [hs2] at SS
                      generalize v m = vm at *
                      obtain ⟨pr, hpr⟩ : ∃ pr : Nat, kk * vm = pr := ⟨_, rfl⟩
                      have hpri : (kk : Int) * (vm : Int) = (pr : Int) := by rw [← hpr, Int.natCast_mul]
                      have hprb : pr ≤ 1024 := by rw [← hpr]; exact Nat.le_trans (Nat.mul_le_mul hk4.2 hvm.2) (by decide)
                      rw [hpr] at KK
                      generalize ksum (dg c) m = ks0 at *
                      generalize kcst v (dg c) m = kc0 at *
                      have hee : ee < 64 := by omega
                      have hkk64 : kk < 64 := by omega
                      clear hp h65 hfv hxx hyy hdg hs2 hpr
                      go_wp2_with fail
                      go_roundw
                      case rel => exact ⟨m + 1, by omega, by go_num, by rw [SS.out, Int.natCast_add], by rw [KK.out, Int.natCast_add], rfl⟩
                      case measure => simp [intOf]; omega
                    · obtain rfl : m = j := by omega
                      obtain ⟨s0, hs0⟩ : ∃ s0 : Nat, ksum (dg c) m = s0 := ⟨_, rfl⟩
                      obtain ⟨q0, hq0⟩ : ∃ q0 : Nat, kcst v (dg c) m = q0 := ⟨_, rfl⟩
                      have LOW := Hid.intro (low.out c)
                      rw [hq0] at kb LOW ⊢
                      rw [hs0] at sb LOW ⊢
                      have nx : Hid (∀ le', le' ≤ le → (s0 = 16 → le' ≤ q0) → ∀ c', c' < c + 1 → ksum (dg c') m = 16 → le' ≤ kcst v (dg c') m) := fun le' h1 h2 c' h3 h4 => by
                        by_cases e : c' = c
                        · subst e; rw [hq0]; exact h2 (by rw [← hs0]; exact h4)
                        · exact Nat.le_trans h1 (HALL.out c' (by omega) h4)
                      clear hs0 hq0
                      by_cases h16 : s0 = 16
                      · have lw := LOW.out h16
                        subst h16
                        by_cases hmn : q0 < le
                        · have R := Hid.intro (nx.out q0 (by omega) (fun _ => Nat.le_refl _))
                          go_wp2_with fail
                          go_roundw
                          case rel => exact ⟨c + 1, q0, by rw [HAL.out]; omega, by go_num, by first | rfl | go_num, lw, by omega, R.out, rfl⟩
                          case measure => simp [intOf]; omega
                        · have R := Hid.intro (nx.out le (Nat.le_refl _) (fun _ => by omega))
                          have hmn2 : le ≤ q0 := by omega
                          go_wp2_with fail
                          go_roundw
                          case rel => exact ⟨c + 1, le, by rw [HAL.out]; omega, by go_num, by first | rfl | go_num, hwl, hle, R.out, rfl⟩
                          case measure => simp [intOf]; omega
                      · have t16 : ((s0 : Int) == 16) = false := by simp; omega
                        have R := Hid.intro (nx.out le (Nat.le_refl _) (fun h => absurd h h16))
                        clear h16
                        go_wp2_with fail
                        go_roundw
                        case rel => exact ⟨c + 1, le, by rw [HAL.out]; omega, by go_num, rfl, hwl, hle, R.out, rfl⟩
                        case measure => simp [intOf]; omega
                · obtain rfl : c = al := by omega
                  have th := there.out
                  have h3 := hall cc (by have := HAL.out; omega) th.2.1
                  obtain rfl : le = wt := by omega
                  have tt : ((le : Int) == (le : Int)) = true := by simp
                  have AW := awake_any wr
                  have B4 := RF4.out.2
                  have HB4 := Hid.intro B4
                  clear hall th h3 B4
                  go_wp2_with fail
                  with_reducible refine AW.mono ?_
                  rintro e w15 ⟨rfl, z15⟩
                  have B15 := Hid.intro (HB4.out.trans (z15.mono HB4.out.size))
                  clear AW z15
                  go_wp2_with fail
                  go_ret
                  exact ⟨rfl, B15.out⟩
  · obtain ⟨N, hNN⟩ : ∃ N : Nat, len = N := ⟨_, rfl⟩
    have hN5 : N ≤ 5 := by omega
    have hNl : N ≤ len := by omega
    have ST : Hid (TwRel1 v N w.heap.size w (.int .i64 0) w1) := ⟨0, by omega, rfl, own_low om (Nat.zero_le _), b1⟩
    clear om b1
    rw [hNN]
    go_enter Try.func6, Try.ntmps6
    go_wp2_with fail
    simp only [hS] at ST ⊢
    have HS := Hid.intro hS
    clear hS mk
    go_loopw [7] (fun sv wr => TwRel1 v N S w sv wr) (fun sv _ => N - (intOf sv).toNat)
    case atStart => exact ST.out
    case round =>
      clear ST
      obtain ⟨i, hi, rfl, d1, d2⟩ := hrel
      have hSS := HS.out
      by_cases hlt : i < N
      · obtain ⟨x, rfl, hx⟩ := HX.out (by omega)
        have cz := hx i (by omega)
        have cz' : wr.cell? (x.add i) = some (.int .u8 (fr zs i)) := by rw [d2.cell (World.block_lt_of_cell? _ _ cz)]; exact cz
        have hvi := HV.out i (by omega)
        obtain ⟨p, hp⟩ : ∃ p : Nat, 7 * i = p := ⟨_, rfl⟩
        have hpi : (i : Int) * 7 = (p : Int) := by omega
        have hp65 : p < 65 := by omega
        obtain ⟨t, ht⟩ : ∃ t : Nat, v i = t := ⟨_, rfl⟩
        have hti : (1 : Int) + fr zs i = (t : Int) := by rw [← ht]; exact hvi.1
        have o1 := own_set d1 p (.int .i64 (t : Int))
        rw [ivs_set] at o1
        have e : (asg (trp v i)).set p (t : Int) = asg (trp v (i + 1)) := by rw [trp_succ, asg_snoc, hp, ht]
        rw [e] at o1
        have b2 : Below w.heap.size w (wr.setCell ⟨S, p, none⟩ (.int .i64 (t : Int))) := d2.trans (chg_below (S := (· = S)) (chg_in (chg_refl _ _) _ _) d2.size (fun k hk => by omega))
        have R := Hid.intro (And.intro o1 b2)
        obtain ⟨u, hu, fu⟩ := own_one d1 p hp65
        have zb : 0 ≤ fr zs i ∧ fr zs i ≤ 255 := hvi.2
        have hil : i < len := by omega
        clear o1 b2 e d1 d2 hp hSS cz hx hvi ht
        generalize fr zs i = z at *
        go_wp2_with fail
        go_roundw
        case rel => exact ⟨i + 1, by omega, by go_num, R.out.1, R.out.2⟩
        case measure => simp [intOf]; omega
      · obtain rfl : i = N := by omega
        have hvb : ∀ j, j < i → 0 < v j ∧ v j ≤ 256 := fun j hj => by have := HV.out j (by omega); omega
        have LE := lengths_yes (some ⟨S, 0, none⟩) 65 (asg (trp v i)) d wr (own_ri2 d1) (mayB_of _ d (asg_mem _ 16777216 (by omega) (fun p hp => by have := trp_mem v i hN5 hvb p hp; omega)) hd7 hd15)
        have HD := Hid.intro (And.intro d1 d2)
        have HVB := Hid.intro hvb
        clear d1 d2 hvb hSS
        go_wp2_with fail
        with_reducible refine LE.mono ?_
        rintro e w2 ⟨vv, o, r, rfl, k1, k2, k3, k4⟩
        obtain ⟨d1, d2⟩ := HD.out
        have rF := own_later d1 k4
        have b2 : Below w.heap.size w w2 := d2.trans (k4.mono d2.size)
        obtain ⟨b, cap', rfl⟩ := own_slice k3 (by omega)
        have ER := err_any 0 w2
        have dL := dot_cost (asg_len (trp v i)) k1 k2.1
        have F65 : ∀ z ∈ asg (trp v i), -1099511627776 ≤ z ∧ z ≤ 1099511627776 := fun z hz => by
          have := asg_mem (trp v i) 256 (by omega) (fun p hp => by have := trp_mem v i hN5 HVB.out p hp; omega) z hz
          omega
        have L15 : ∀ z ∈ (put o r).map Int.ofNat, -100 ≤ z ∧ z ≤ 100 := fun z hz => by
          obtain ⟨q, hq, rfl⟩ := List.mem_map.1 hz
          obtain ⟨j, hj, rfl⟩ := List.getElem_of_mem hq
          rw [put_len] at hj
          have := (lens_at k1 k2 hd7 j hj).1
          unfold at0 at this
          rw [List.getD_eq_getElem?_getD, List.getElem?_eq_getElem (by rw [put_len]; exact hj)] at this
          have e : Int.ofNat (put o r)[j] = ((put o r)[j] : Int) := rfl
          have t : (put o r)[j] ≤ d := this
          rw [e]; omega
        have CO : ∀ W, Below w2.heap.size w2 W → Calls Try.prog 14 #[.slice (some ⟨S, 0, none⟩) 65 65, .slice (some ⟨b, 0, none⟩) 65 cap'] W fun e W' => e = .returned (.int .i64 (ccost (asg (trp v i)) o r : Int)) ∧ Below W.heap.size W W' := fun W hW => by
          have c := cost_any (some ⟨S, 0, none⟩) (some ⟨b, 0, none⟩) 65 65 65 cap' (asg (trp v i)) _ W (ri_below (own_ri2 rF) hW) (ri_below (own_ri2 k3) hW) (by omega) (by omega) (dotB_of _ _ F65 L15)
          rw [dL] at c; exact c
        have HH := Hid.intro (And.intro k1 (And.intro k2 (And.intro rF b2)))
        have ltS := (rF.lt S rfl).2
        clear LE HD k1 k2 k3 k4 d1 d2 b2 rF dL F65 L15
        go_wp2_with fail
        with_reducible refine ER.mono ?_
        rintro e w3 ⟨rfl, rfl⟩
        clear ER
        by_cases h2 : i < 2
        · obtain ⟨k1, k2, rF, b2⟩ := HH.out
          have few := few_cost h2 HVB.out k1 k2
          have cf0 := iv_at rF 0 (by omega)
          rw [few] at CO
          generalize fr (asg (trp v i)) 0 = f0 at *
          have tt : (f0 == f0) = true := by simp
          have AW := awake_any
          have hSg : w3.drew.cell? ⟨S, 0, none⟩ = some (.int .i64 f0) ∧ Below w3.heap.size w3 w3.drew := ⟨cf0, (Below.refl _ _).drew⟩
          have HB := Hid.intro b2
          clear k1 k2 rF b2 few cf0
          go_wp2_with fail
          go_region_held3 (fun W => W.cell? ⟨S, 0, none⟩ = some (.int .i64 f0) ∧ Below w3.heap.size w3 W) (first | exact hSg | exact held_one ltS (by assumption) (by assumption) | assumption) (first
            | (go_at_call 14; refine (CO _ ?_).mono ?_; exact held_tl (by assumption); rintro e w9 ⟨rfl, hb9⟩)
            | (go_at_call 9; refine (AW _).mono ?_; rintro e w9 ⟨rfl, hb9⟩))
          all_goals
            have hT : ∃ p : Prop, p ∧ Below w3.heap.size w3 w9 := ⟨_, by assumption⟩
            obtain ⟨_, _, hT⟩ := hT
            have B9 := Hid.intro (HB.out.trans (hT.mono HB.out.size))
            clear hT
            go_wp2_with fail
            go_ret
            exact ⟨rfl, B9.out⟩
        · obtain ⟨k1, k2, rF, b2⟩ := HH.out
          have low := Hid.intro (fun c hs => tried_low hN5 (by omega) HVB.out hd7 k1 k2 (dg c) (fun j _ => by unfold dg; omega) hs)
          obtain ⟨a1, a2, a3⟩ := tried_there hN5 (by omega) HVB.out hd7 k1 k2
          obtain ⟨cc, hcc, hdc⟩ := digits _ i a1
          have there : Hid (cc < 4 ^ i ∧ ksum (dg cc) i = 16 ∧ kcst v (dg cc) i = ccost (asg (trp v i)) o r) := ⟨hcc, by rw [ksum_congr hdc]; exact a2, by rw [kcst_congr hdc]; exact a3⟩
          have CO1 := CO w3 (Below.refl _ _)
          have wtb : ccost (asg (trp v i)) o r ≤ 5120 := by rw [← there.out.2.2]; have := kcst_bd v cc i (fun j hj => (HVB.out j hj).2); omega
          have RF := Hid.intro (And.intro rF b2)
          clear CO HH k1 k2 rF b2 a1 a2 a3 hcc hdc
          generalize ccost (asg (trp v i)) o r = wt at *
          go_wp2_with fail
          with_reducible refine CO1.mono ?_
          rintro e w4 ⟨rfl, z4⟩
          have RF4 := Hid.intro (And.intro (own_later RF.out.1 z4) (RF.out.2.trans (z4.mono RF.out.2.size)))
          clear CO1 z4 RF
          go_wp2_with fail
          go_loopw [11, 12] (fun av iv wr => TwRel2 i w4 av iv wr) (fun _ iv _ => i - (intOf iv).toNat)
          case atStart => exact ⟨0, by omega, rfl, rfl, rfl⟩
          case round =>
            obtain ⟨j, hj, rfl, rfl, rfl⟩ := hrel
            by_cases hltj : j < i
            · obtain ⟨q, hq⟩ : ∃ q : Nat, 4 ^ j = q := ⟨_, rfl⟩
              have hq2 : Hid (4 ^ (j + 1) = q * 4) := by show 4 ^ (j + 1) = q * 4; rw [Nat.pow_succ, hq]
              have hqb : q ≤ 1024 := by rw [← hq]; exact Nat.le_trans (Nat.pow_le_pow_right (by omega) (by omega : j ≤ 5)) (by decide)
              rw [hq]
              clear hq
              go_wp2_with fail
              go_roundw
              case rel => exact ⟨j + 1, by omega, by go_num, by rw [hq2.out, Int.natCast_mul]; rfl, rfl⟩
              case measure => simp [intOf]; omega
            · obtain rfl : j = i := by omega
              obtain ⟨al, hal⟩ : ∃ al : Nat, 4 ^ j = al := ⟨_, rfl⟩
              have halb : al ≤ 1024 := by rw [← hal]; exact Nat.le_trans (Nat.pow_le_pow_right (by omega) (by omega : j ≤ 5)) (by decide)
              have HAL := Hid.intro hal
              rw [hal]
              clear hal
              go_wp2_with fail
              go_loopw [13, 14] (fun lv cv w' => TwRel3 v j wt wr lv cv w') (fun _ cv _ => al - (intOf cv).toNat)
              case atStart => exact ⟨0, 1099511627776, Nat.zero_le _, rfl, rfl, by omega, by omega, fun c' h => absurd h (Nat.not_lt_zero _), rfl⟩
              case round =>
                obtain ⟨c, le, hc, rfl, rfl, hwl, hle, hall, rfl⟩ := hrel
                rw [HAL.out] at hc
                by_cases hltc : c < al
                · have HALL := Hid.intro hall
                  clear hall
                  go_wp2_with fail
                  go_loopw [15, 16, 17] (fun sv kv iv w' => TwRel4 v j c wr sv kv iv w') (fun _ _ iv _ => j - (intOf iv).toNat)
                  case atStart => exact ⟨0, by omega, rfl, rfl, rfl, rfl⟩
                  case round =>
                    obtain ⟨m, hm, rfl, rfl, rfl, rfl⟩ := hrel
                    have sb := ksum_bd c m
                    have kb := kcst_bd v c m (fun q hq => (HVB.out q (by omega)).2)
                    by_cases hltm : m < j
                    · have hvm := HVB.out m hltm
                      obtain ⟨p, hp⟩ : ∃ p : Nat, 7 * m = p := ⟨_, rfl⟩
                      have hpi : (m : Int) * 7 = (p : Int) := by omega
                      have hp65 : p < 65 := by omega
                      have cf := iv_at RF4.out.1 p hp65
                      have h65 : ∀ q ∈ trp v j, q.1 < 65 := fun q hq => (trp_mem v j hN5 HVB.out q hq).1
                      have hfv : fr (asg (trp v j)) p = (v m : Int) := by rw [← hp]; exact asg_at _ h65 (trp_nodup v j) (7 * m, ((v m : Nat) : Int)) (List.mem_map.2 ⟨m, List.mem_range.2 hltm, rfl⟩)
                      rw [hfv] at cf
                      have SS := Hid.intro (ksum_succ (dg c) m)
                      have KK := Hid.intro (kcst_succ v (dg c) m)
                      obtain ⟨ee, he⟩ : ∃ ee : Nat, (2 : Int) * (m : Int) = (ee : Int) := ⟨2 * m, by omega⟩
                      obtain ⟨xx, hxx⟩ : ∃ xx : Nat, c / 4 ^ m = xx := ⟨_, rfl⟩
                      have hxi : (c : Int) / 2 ^ ee = (xx : Int) := by
                        have e1 : (2 : Int) ^ ee = ((4 ^ m : Nat) : Int) := by
                          have : ee = 2 * m := by omega
                          rw [this, Int.pow_mul]; simp
                        rw [e1, ← hxx]; simp
                      have hxb : xx < 1024 := by rw [← hxx]; exact Nat.lt_of_le_of_lt (Nat.div_le_self _ _) (by omega)
                      have hand := and_three xx hxb
                      obtain ⟨yy, hyy⟩ : ∃ yy : Nat, xx % 4 = yy := ⟨_, rfl⟩
                      rw [hyy] at hand
                      obtain ⟨kk, hkk⟩ : ∃ kk : Nat, (yy : Int) + 1 = (kk : Int) := ⟨yy + 1, by omega⟩
                      have hdg : dg c m = kk := by unfold dg; rw [hxx, hyy]; omega
                      rw [hdg] at SS KK
                      have hk4 : 1 ≤ kk ∧ kk ≤ 4 := by omega
                      obtain ⟨s2, hs2⟩ : ∃ s2 : Nat, 2 ^ (4 - kk) = s2 := ⟨_, rfl⟩
                      have hsh : (16 : Int) / 2 ^ kk = (s2 : Int) := by
                        rw [← hs2]
                        rcases (by omega : kk = 1 ∨ kk = 2 ∨ kk = 3 ∨ kk = 4) with h | h | h | h <;> subst h <;> decide
                      have hs2b : s2 ≤ 16 := by rw [← hs2]; exact Nat.le_trans (Nat.pow_le_pow_right (by omega) (by omega : 4 - kk ≤ 4)) (by decide)
                      rw [hs2] at SS
                      generalize v m = vm at *
                      obtain ⟨pr, hpr⟩ : ∃ pr : Nat, kk * vm = pr := ⟨_, rfl⟩
                      have hpri : (kk : Int) * (vm : Int) = (pr : Int) := by rw [← hpr, Int.natCast_mul]
                      have hprb : pr ≤ 1024 := by rw [← hpr]; exact Nat.le_trans (Nat.mul_le_mul hk4.2 hvm.2) (by decide)
                      rw [hpr] at KK
                      generalize ksum (dg c) m = ks0 at *
                      generalize kcst v (dg c) m = kc0 at *
                      have hee : ee < 64 := by omega
                      have hkk64 : kk < 64 := by omega
                      clear hp h65 hfv hxx hyy hdg hs2 hpr
                      go_wp2_with fail
                      go_roundw
                      case rel => exact ⟨m + 1, by omega, by go_num, by rw [SS.out, Int.natCast_add], by rw [KK.out, Int.natCast_add], rfl⟩
                      case measure => simp [intOf]; omega
                    · obtain rfl : m = j := by omega
                      obtain ⟨s0, hs0⟩ : ∃ s0 : Nat, ksum (dg c) m = s0 := ⟨_, rfl⟩
                      obtain ⟨q0, hq0⟩ : ∃ q0 : Nat, kcst v (dg c) m = q0 := ⟨_, rfl⟩
                      have LOW := Hid.intro (low.out c)
                      rw [hq0] at kb LOW ⊢
                      rw [hs0] at sb LOW ⊢
                      have nx : Hid (∀ le', le' ≤ le → (s0 = 16 → le' ≤ q0) → ∀ c', c' < c + 1 → ksum (dg c') m = 16 → le' ≤ kcst v (dg c') m) := fun le' h1 h2 c' h3 h4 => by
                        by_cases e : c' = c
                        · subst e; rw [hq0]; exact h2 (by rw [← hs0]; exact h4)
                        · exact Nat.le_trans h1 (HALL.out c' (by omega) h4)
                      clear hs0 hq0
                      by_cases h16 : s0 = 16
                      · have lw := LOW.out h16
                        subst h16
                        by_cases hmn : q0 < le
                        · have R := Hid.intro (nx.out q0 (by omega) (fun _ => Nat.le_refl _))
                          go_wp2_with fail
                          go_roundw
                          case rel => exact ⟨c + 1, q0, by rw [HAL.out]; omega, by go_num, by first | rfl | go_num, lw, by omega, R.out, rfl⟩
                          case measure => simp [intOf]; omega
                        · have R := Hid.intro (nx.out le (Nat.le_refl _) (fun _ => by omega))
                          have hmn2 : le ≤ q0 := by omega
                          go_wp2_with fail
                          go_roundw
                          case rel => exact ⟨c + 1, le, by rw [HAL.out]; omega, by go_num, by first | rfl | go_num, hwl, hle, R.out, rfl⟩
                          case measure => simp [intOf]; omega
                      · have t16 : ((s0 : Int) == 16) = false := by simp; omega
                        have R := Hid.intro (nx.out le (Nat.le_refl _) (fun h => absurd h h16))
                        clear h16
                        go_wp2_with fail
                        go_roundw
                        case rel => exact ⟨c + 1, le, by rw [HAL.out]; omega, by go_num, rfl, hwl, hle, R.out, rfl⟩
                        case measure => simp [intOf]; omega
                · obtain rfl : c = al := by omega
                  have th := there.out
                  have h3 := hall cc (by have := HAL.out; omega) th.2.1
                  obtain rfl : le = wt := by omega
                  have tt : ((le : Int) == (le : Int)) = true := by simp
                  have AW := awake_any wr
                  have B4 := RF4.out.2
                  have HB4 := Hid.intro B4
                  clear hall th h3 B4
                  go_wp2_with fail
                  with_reducible refine AW.mono ?_
                  rintro e w15 ⟨rfl, z15⟩
                  have B15 := Hid.intro (HB4.out.trans (z15.mono HB4.out.size))
                  clear AW z15
                  go_wp2_with fail
                  go_ret
                  exact ⟨rfl, B15.out⟩
end Go.Proofs.Ytabnafjndljimaa
