/-
  NormEven: the walk.
-/
import Derived.Test.YtplalkhjjndffaaAw
import Derived.Test.YtplalkhjjndffaaMa
import Derived.BigQuiet
import Derived.Deep.RegionHeld3
import Derived.Deep.QuietTactic
namespace Go.Proofs.Ytplalkhjjndffaa
open Go.ChangeShapes Go.WideShapes Go.ChangeAt Go.RowKit
open Go.ChangeMaps (open_string shut_string)


theorem held_c {w8 a b : World} {B C j k : Nat} {u v : Value} (hB : B < w8.heap.size) (hC : C < w8.heap.size) (h : (a.cell? ⟨B, j, none⟩ = some u ∧ a.cell? ⟨C, k, none⟩ = some v) ∧ Below w8.heap.size w8 a) (hk : Below a.heap.size a b) :
    (b.cell? ⟨B, j, none⟩ = some u ∧ b.cell? ⟨C, k, none⟩ = some v) ∧ Below w8.heap.size w8 b :=
  ⟨⟨by rw [hk.cell (p := ⟨B, j, none⟩) (Nat.lt_of_lt_of_le hB h.2.size)]; exact h.1.1, by rw [hk.cell (p := ⟨C, k, none⟩) (Nat.lt_of_lt_of_le hC h.2.size)]; exact h.1.2⟩, h.2.trans (hk.mono h.2.size)⟩
def fillF (i c : Nat) : List Nat := List.replicate i c ++ List.replicate (65 - i) 0
theorem fillF_len (i c : Nat) (h : i ≤ 65) : (fillF i c).length = 65 := by unfold fillF; simp; omega
theorem fillF_set (i c : Nat) (h : i < 65) : (fillF i c).set i c = fillF (i + 1) c := by
  unfold fillF
  obtain ⟨k, hk⟩ : ∃ k, 65 - i = k + 1 := ⟨64 - i, by omega⟩
  rw [hk, show 65 - (i + 1) = k from by omega, List.replicate_succ, List.set_append_right _ _ (by simp), List.length_replicate, Nat.sub_self, List.replicate_succ', List.append_assoc]
  rfl
theorem fillF_even (k c : Nat) (h : 2 ^ k ≤ 64) : fillF (2 ^ k) c = evenF k c 0 := by
  unfold fillF evenF
  rw [show 65 - 2 ^ k = (64 - 2 ^ k) + 1 from by omega, List.replicate_succ']
theorem even_set (k c d : Nat) (h : 2 ^ k ≤ 64) : (evenF k c 0).set 64 d = evenF k c d := by
  unfold evenF
  rw [List.set_append_right _ _ (by simp; omega), List.set_append_right _ _ (by simp)]
  simp
theorem even_g (k c d i : Nat) (h : i < 2 ^ k) : g (evenF k c d) i = c := by
  unfold g evenF
  rw [List.getD_eq_getElem?_getD, List.getElem?_append_left (by simpa using h), List.getElem?_replicate, if_pos h]; rfl
theorem even_last (k c d : Nat) (h : 2 ^ k ≤ 64) : g (evenF k c d) 64 = d := by
  unfold g evenF
  rw [List.getD_eq_getElem?_getD, List.getElem?_append_right (by simp; omega), List.getElem?_append_right (by simp)]
  simp
theorem even_norm {k m c : Nat} (hc : 0 < c) (hc2 : c ≤ 65536) (hk : k ≤ 6) (hm : 7 ≤ m) (hm2 : m ≤ 12) : normA ((evenF k c 0).map Int.ofNat) (m : Int) = (0, evenF k (2 ^ (m - k)) 0) := by
  have p : 0 < 2 ^ k := Nat.two_pow_pos k
  have q : 0 < c * 2 ^ k := Nat.mul_pos hc p
  rw [norm_yes ((lgB_iff _).2 (by omega)) (even_len hk _ _) (fun x hx => ?_) (by rw [even_sum]; omega), Int.toNat_natCast, even_alike hc (by omega)]
  simp only [evenF, List.mem_append, List.mem_replicate, List.mem_singleton] at hx
  omega
theorem even_norm2 {k m c : Nat} (hc : 0 < c) (hc2 : c ≤ 65536) (hk : k ≤ 6) (hm : 7 ≤ m) (hm2 : m ≤ 12) : normA ((evenF k c (c * 2 ^ k)).map Int.ofNat) (m : Int) = (0, evenF k (2 ^ (m - (k + 1))) (2 ^ (m - 1))) := by
  have p : 0 < 2 ^ k := Nat.two_pow_pos k
  have q : 0 < c * 2 ^ k := Nat.mul_pos hc p
  have p6 : 2 ^ k ≤ 2 ^ 6 := Nat.pow_le_pow_right (by omega) hk
  have r : c * 2 ^ k ≤ 65536 * 2 ^ 6 := Nat.mul_le_mul hc2 p6
  rw [norm_yes ((lgB_iff _).2 (by omega)) (even_len hk _ _) (fun x hx => ?_) (by rw [even_sum]; omega), Int.toNat_natCast, even_much hc (by omega)]
  simp only [evenF, List.mem_append, List.mem_replicate, List.mem_singleton] at hx
  omega
def EvRel (S s c : Nat) (w : World) (iv : Value) (wr : World) : Prop :=
  ∃ i : Nat, i ≤ s ∧ iv = .int .i64 i ∧ wr.ownsRow S 3 1 (.slice (some ⟨S, 0, none⟩) 65 65) 65 (nis (fillF i c)) ∧ Below S w wr
def EvRel2 (s : Nat) (w : World) (iv : Value) (wr : World) : Prop := ∃ i : Nat, i ≤ s ∧ iv = .int .i64 i ∧ Below w.heap.size w wr
set_option maxRecDepth 100000 in
set_option maxHeartbeats 4000000 in
theorem even_walk (a1 a2 a3 : Int) (h1 : 0 ≤ a1 ∧ a1 ≤ 255) (h2 : 0 ≤ a2 ∧ a2 ≤ 65535) (h3 : 0 ≤ a3 ∧ a3 ≤ 255) (w : World) :
    Calls Try.prog 6 #[.int .u8 a1, .int .u16 a2, .int .u8 a3] w fun e w' => e = .returned (.bool true) ∧ Below w.heap.size w w' := by
  obtain ⟨K, hK⟩ : ∃ K : Nat, a1 % 7 = (K : Int) := ⟨(a1 % 7).toNat, by omega⟩
  have hKt : a1.tmod 7 = (K : Int) := by rw [Int.tmod_eq_emod_of_nonneg h1.1]; exact hK
  have K6 : K ≤ 6 := by omega
  obtain ⟨r, hr⟩ : ∃ r : Nat, a3 % 6 = (r : Int) := ⟨(a3 % 6).toNat, by omega⟩
  have hrt : a3.tmod 6 = (r : Int) := by rw [Int.tmod_eq_emod_of_nonneg h3.1]; exact hr
  obtain ⟨M, hM⟩ : ∃ M : Nat, 7 + (r : Int) = (M : Int) := ⟨7 + r, by omega⟩
  have M7 : 7 ≤ M := by omega
  have M12 : M ≤ 12 := by omega
  obtain ⟨c, rfl⟩ : ∃ c : Nat, a2 = (c : Int) := ⟨a2.toNat, by omega⟩
  obtain ⟨c1, hc⟩ : ∃ c1 : Nat, 1 + (c : Int) = (c1 : Int) := ⟨1 + c, by omega⟩
  have c0 : 0 < c1 := by omega
  have c6 : c1 ≤ 65536 := by omega
  have E1 := even_norm (k := K) c0 c6 K6 M7 M12
  have E2 := even_norm2 (k := K) c0 c6 K6 M7 M12
  have p6 : 2 ^ K ≤ 2 ^ 6 := Nat.pow_le_pow_right (by omega) K6
  have p6' : 2 ^ K ≤ 64 := p6
  have FE := fillF_even K c1 p6'
  have ES := even_set K c1 (c1 * 2 ^ K) p6'
  have G1 := fun i h => even_g K (2 ^ (M - K)) 0 i h
  have G2 := fun i h => even_g K (2 ^ (M - (K + 1))) (2 ^ (M - 1)) i h
  have L1 := even_last K (2 ^ (M - K)) 0 p6'
  have L2 := even_last K (2 ^ (M - (K + 1))) (2 ^ (M - 1)) p6'
  have N1 := even_len K6 (2 ^ (M - K)) 0
  have N2 := even_len K6 (2 ^ (M - (K + 1))) (2 ^ (M - 1))
  have pA : 2 ^ (M - K) ≤ 4096 := pow_bd _ (by omega)
  have pB : 2 ^ (M - (K + 1)) ≤ 4096 := pow_bd _ (by omega)
  have pD : 2 ^ (M - 1) ≤ 4096 := pow_bd _ (by omega)
  have cs : c1 * 2 ^ K ≤ 65536 * 64 := Nat.mul_le_mul c6 p6'
  have iA : (2 : Int) ^ (M - K) = ((2 ^ (M - K) : Nat) : Int) := by rw [Int.natCast_pow]; rfl
  have iB : (2 : Int) ^ (M - (K + 1)) = ((2 ^ (M - (K + 1)) : Nat) : Int) := by rw [Int.natCast_pow]; rfl
  have iD : (2 : Int) ^ (M - 1) = ((2 ^ (M - 1) : Nat) : Int) := by rw [Int.natCast_pow]; rfl
  have iS : (2 : Int) ^ K = ((2 ^ K : Nat) : Int) := by rw [Int.natCast_pow]; rfl
  have iC : (c1 : Int) * ((2 ^ K : Nat) : Int) = ((c1 * 2 ^ K : Nat) : Int) := by rw [Int.natCast_mul]
  obtain ⟨j, hj⟩ : ∃ j, M - K = j := ⟨_, rfl⟩
  obtain ⟨j1, hj1⟩ : ∃ j1, M - (K + 1) = j1 := ⟨_, rfl⟩
  obtain ⟨m1, hm1⟩ : ∃ m1, M - 1 = m1 := ⟨_, rfl⟩
  have sj : (M : Int) - (K : Int) = (j : Int) := by omega
  have sj1 : (j : Int) - 1 = (j1 : Int) := by omega
  have sm1 : (M : Int) - 1 = (m1 : Int) := by omega
  have j0 : 1 ≤ j := by omega
  simp only [hj, hj1, hm1] at E1 E2 G1 G2 L1 L2 N1 N2 pA pB pD iA iB iD
  have jb : j ≤ 12 := by omega
  have j1b : j1 ≤ 12 := by omega
  have m1b : m1 ≤ 12 := by omega
  have jK : (K : Int) < (M : Int) := by omega
  clear hj hj1 hm1
  generalize (2 : Nat) ^ j = A at *
  generalize (2 : Nat) ^ j1 = B' at *
  generalize (2 : Nat) ^ m1 = D at *
  generalize (2 : Nat) ^ K = s at *
  generalize c1 * s = cs' at *
  have HE1 := Hid.intro E1
  clear E1
  have HE2 := Hid.intro E2
  clear E2
  have HG1 := Hid.intro G1
  clear G1
  have HG2 := Hid.intro G2
  clear G2
  have HL1 := Hid.intro L1
  clear L1
  have HL2 := Hid.intro L2
  clear L2
  have HN1 := Hid.intro N1
  clear N1
  have HN2 := Hid.intro N2
  clear N2
  have HFE := Hid.intro FE
  clear FE
  have HES := Hid.intro ES
  clear ES
  have wA : IntKind.i64.wrap (A : Int) = (A : Int) := by rw [IntKind.wrap_i64]; omega
  have wB : IntKind.i64.wrap (B' : Int) = (B' : Int) := by rw [IntKind.wrap_i64]; omega
  have wD : IntKind.i64.wrap (D : Int) = (D : Int) := by rw [IntKind.wrap_i64]; omega
  have wS : IntKind.i64.wrap (s : Int) = (s : Int) := by rw [IntKind.wrap_i64]; omega
  have wC : IntKind.i64.wrap (cs' : Int) = (cs' : Int) := by rw [IntKind.wrap_i64]; omega
  have wj : IntKind.i64.wrap (j : Int) = (j : Int) := by rw [IntKind.wrap_i64]; omega
  have wj1 : IntKind.i64.wrap (j1 : Int) = (j1 : Int) := by rw [IntKind.wrap_i64]; omega
  have wm1 : IntKind.i64.wrap (m1 : Int) = (m1 : Int) := by rw [IntKind.wrap_i64]; omega
  have j0' : (1 : Int) ≤ (j : Int) := by omega
  have mk := make_ints 22 3 Try.underlying22 info3 65 (by omega) w
  rw [show ((65 : Nat) : Int) = 65 from rfl] at mk
  have om := own_made_ints w 3 65 (by omega)
  have b1 : Below w.heap.size w (w.alloc (.cells (madeCells #[.int .i64 0] 65) 3)) := (Below.refl _ _).alloc (Nat.le_refl _) _
  obtain ⟨w1, hw1⟩ : ∃ w1, w.alloc (.cells (madeCells #[.int .i64 0] 65) 3) = w1 := ⟨_, rfl⟩
  rw [hw1] at mk om b1
  obtain ⟨S, hS⟩ : ∃ S, w.heap.size = S := ⟨_, rfl⟩
  have HS := Hid.intro hS
  rw [hS] at mk om b1 ⊢
  have ST : Hid (EvRel S s c1 w (.int .i64 0) w1) := ⟨0, Nat.zero_le _, rfl, by
    have e : nis (fillF 0 c1) = ivs (List.replicate 65 0) := by rw [nis_map]; unfold fillF; simp
    rw [e]; exact om, b1⟩
  obtain ⟨h1a, h1b⟩ := h1
  obtain ⟨h3a, h3b⟩ := h3
  obtain ⟨h2a, h2b⟩ := h2
  have AW := Hid.intro awake_any
  clear om b1 hw1 hS p6
  go_enter Try.func6, Try.ntmps6
  go_wp2_with fail
  clear mk
  go_loopw [10] (fun iv wr => EvRel S s c1 w iv wr) (fun iv _ => s - (intOf iv).toNat)
  case atStart => exact ST.out
  case round =>
    clear ST
    obtain ⟨i, hi, rfl, d1, d2⟩ := hrel
    by_cases hlt : i < s
    · obtain ⟨-, s0, f0⟩ := own_there d1 i (by omega)
      obtain ⟨y0, cy⟩ := Option.isSome_iff_exists.1 s0
      have o2 := own_set d1 i (.int .i64 (c1 : Int))
      have e2 : (nis (fillF i c1)).set i (.int .i64 (c1 : Int)) = nis (fillF (i + 1) c1) := by
        rw [nis_map, ivs_set, nis_map, ← fillF_set i c1 (by omega), List.map_set]; rfl
      rw [e2] at o2
      have O2 := Hid.intro o2
      have D2 := Hid.intro (d2.setCell (p := ⟨S, i, none⟩) (Nat.le_refl _) (.int .i64 (c1 : Int)))
      clear o2 e2 s0 d1 d2
      go_wp2_with fail
      go_roundw
      case rel => exact ⟨i + 1, by omega, by go_num, O2.out, D2.out⟩
      case measure => simp [intOf]; omega
    · obtain rfl : i = s := by omega
      rw [HFE.out] at d1
      have OF := of_any (some ⟨S, 0, none⟩) 65 65 ((evenF K c1 0).map Int.ofNat) M wr (own_ri' d1) (by omega)
      rw [HE1.out] at OF
      have z2 := d2.size
      rw [HS.out] at z2
      go_wp2_with fail
      with_reducible refine OF.mono ?_
      rintro e w2 ⟨v, rfl, o3, b3⟩
      clear OF
      have o3' : w2.ownsRow wr.heap.size 3 1 v (evenF K A 0).length (nis (evenF K A 0)) := o3
      rw [HN1.out] at o3'
      clear o3
      obtain ⟨B, cb, rfl⟩ := own_slice o3' (by omega)
      have d3 := own_later d1 b3
      obtain ⟨-, s0, f0⟩ := own_there d3 64 (by omega)
      obtain ⟨y0, cy⟩ := Option.isSome_iff_exists.1 s0
      have o4 := own_set d3 64 (.int .i64 (cs' : Int))
      have e4 : (nis (evenF K c1 0)).set 64 (.int .i64 (cs' : Int)) = nis (evenF K c1 cs') := by
        rw [nis_map, ivs_set, nis_map, ← HES.out, List.map_set]; rfl
      rw [e4] at o4
      have hBS : S < B := by
        have := (o3'.lt B rfl).1
        have := (d1.lt S rfl).2
        omega
      have l4 := own_kept (S := (· = S)) o3' (chg_in (chg_refl _ w2) 64 (.int .i64 (cs' : Int))) (fun k hk e => by simp [Value.ownBlock] at hk; omega)
      have b4 : Below S w (w2.setCell ⟨S, 64, none⟩ (.int .i64 (cs' : Int))) := (d2.trans (b3.mono z2)).setCell (p := ⟨S, 64, none⟩) (Nat.le_refl _) _
      obtain ⟨w3, hw3⟩ : ∃ w3, w2.setCell ⟨S, 64, none⟩ (.int .i64 (cs' : Int)) = w3 := ⟨_, rfl⟩
      rw [hw3] at o4 l4 b4
      have OF2 := of_any (some ⟨S, 0, none⟩) 65 65 ((evenF K c1 cs').map Int.ofNat) M w3 (own_ri' o4) (by omega)
      rw [HE2.out] at OF2
      have z3 := b4.size
      rw [HS.out] at z3
      clear d1 d2 d3 o3' e4 s0 b3 o4
      go_wp2_with fail
      try simp only [hw3]
      clear hw3
      with_reducible refine OF2.mono ?_
      rintro e w5 ⟨v, rfl, o5, b5⟩
      clear OF2
      have o5' : w5.ownsRow w3.heap.size 3 1 v (evenF K B' D).length (nis (evenF K B' D)) := o5
      rw [HN2.out] at o5'
      clear o5
      obtain ⟨C, cc, rfl⟩ := own_slice o5' (by omega)
      have l5 := own_later l4 b5
      have b6 : Below S w w5 := b4.trans (b5.mono z3)
      clear l4 b4 b5 f0 cy
      go_wp2_with fail
      with_reducible refine (err_i _ _).mono ?_
      rintro e w6 ⟨rfl, rfl⟩
      go_wp2_with fail
      with_reducible refine (err_i _ _).mono ?_
      rintro e w7 ⟨rfl, rfl⟩
      go_wp2_with fail
      have GA := Hid.intro (fun q (h : q < i) => (nis_cell l5 q (by rw [HN1.out]; omega)).trans (by rw [HG1.out q h]))
      have GB := Hid.intro (fun q (h : q < i) => (nis_cell o5' q (by rw [HN2.out]; omega)).trans (by rw [HG2.out q h]))
      have cB := (nis_cell l5 64 (by rw [HN1.out]; omega)).trans (by rw [HL1.out])
      have cC := (nis_cell o5' 64 (by rw [HN2.out]; omega)).trans (by rw [HL2.out])
      have hbB := (l5.lt B rfl).2
      have hbC := (o5'.lt C rfl).2
      have B8 := Hid.intro b6
      clear l5 o5' b6
      have cB' : w7.cell? ⟨B, 64, none⟩ = some (.int .i64 0) := cB
      clear cB
      go_loopw [15] (fun iv wr => EvRel2 i w7 iv wr) (fun iv _ => i - (intOf iv).toNat)
      case atStart => exact ⟨0, Nat.zero_le _, rfl, Below.refl _ _⟩
      case round =>
        obtain ⟨q, hq, rfl, d7⟩ := hrel
        by_cases hqi : q < i
        · have ga := ((bcell d7).1 B q hbB).trans (GA.out q hqi)
          have gb := ((bcell d7).1 C q hbC).trans (GB.out q hqi)
          have tA : ((A : Int) != (A : Int)) = false := by simp
          have tB : ((B' : Int) != (B' : Int)) = false := by simp
          have q65 : (q : Int) < 65 := by omega
          have q0 : (0 : Int) ≤ (q : Int) := by omega
          go_wp2_with fail
          go_quiet (fail)
          go_wp2_with fail
          go_roundw
          case rel => exact ⟨q + 1, by omega, by go_num, below_drewN d7 _⟩
          case measure => simp [intOf]; omega
        · have e1 := ((bcell d7).1 B 64 hbB).trans cB'
          have e2 := ((bcell d7).1 C 64 hbC).trans cC
          have hb1 := Nat.lt_of_lt_of_le hbB d7.size
          have hb2 := Nat.lt_of_lt_of_le hbC d7.size
          have B9 := Hid.intro (B8.out.trans (d7.mono (by have := B8.out.size; rw [HS.out] at this; exact this)))
          have t0 : ((0 : Int) == 0) = true := rfl
          have tD : ((D : Int) == (D : Int)) = true := by simp
          go_wp2_with fail
          refine wp_region_held_drew (S := fun W => (W.cell? ⟨B, 64, none⟩ = some (.int .i64 0) ∧ W.cell? ⟨C, 64, none⟩ = some (.int .i64 (D : Int))) ∧ Below wr.heap.size wr W) (by kernel_rfl) ⟨⟨e1, e2⟩, (Below.refl _ _).drew⟩ (fun hHeld => ?_)
          refine take' (i := 0) (d := (some 109)) (v := ?_) rfl rfl (by kernel_rfl) (by kernel_rfl) (by kernel_rfl) (fun _ _ _ h => h) (Or.inl ⟨by rfl, ?_⟩) (by assumption) ?_
          rotate_left
          · intro w hSw; (try dsimp only at hSw); go_simp; try with_reducible rfl
          try simp only [Act.put, List.setIfInBounds_toArray, List.set_cons_zero, List.set_cons_succ]
          refine take' (i := 1) (d := (some 110)) (v := ?_) rfl rfl (by kernel_rfl) (by kernel_rfl) (by kernel_rfl) (fun _ _ _ h => h) (Or.inl ⟨by rfl, ?_⟩) (by assumption) ?_
          rotate_left
          · intro w hSw; (try dsimp only at hSw); go_simp; try with_reducible rfl
          try simp only [Act.put, List.setIfInBounds_toArray, List.set_cons_zero, List.set_cons_succ]
          refine take' (i := 2) (d := (some 111)) (v := ?_) rfl rfl (by kernel_rfl) (by kernel_rfl) (by kernel_rfl) (fun _ _ _ h => h) (Or.inl ⟨by rfl, ?_⟩) (by assumption) ?_
          rotate_left
          · intro w hSw; (try dsimp only at hSw); go_simp; try with_reducible rfl
          try simp only [Act.put, List.setIfInBounds_toArray, List.set_cons_zero, List.set_cons_succ]
          refine take' (i := 3) (d := (some 112)) (v := ?_) rfl rfl (by kernel_rfl) (by kernel_rfl) (by kernel_rfl) (fun _ _ _ h => h) (Or.inl ⟨by rfl, ?_⟩) (by assumption) ?_
          rotate_left
          · intro w hSw; (try dsimp only at hSw); go_simp; try with_reducible rfl
          try simp only [Act.put, List.setIfInBounds_toArray, List.set_cons_zero, List.set_cons_succ]
          refine take' (i := 4) (d := (some 113)) (v := ?_) rfl rfl (by kernel_rfl) (by kernel_rfl) (by kernel_rfl) (fun _ _ _ h => h) (Or.inl ⟨by rfl, ?_⟩) (by assumption) ?_
          rotate_left
          · intro w hSw; (try dsimp only at hSw); go_simp; try with_reducible rfl
          try simp only [Act.put, List.setIfInBounds_toArray, List.set_cons_zero, List.set_cons_succ]
          refine take' (i := 5) (d := (some 114)) (v := ?_) rfl rfl (by kernel_rfl) (by kernel_rfl) (by kernel_rfl) (fun _ _ _ h => h) (Or.inl ⟨by rfl, ?_⟩) (by assumption) ?_
          rotate_left
          · intro w hSw; (try dsimp only at hSw); go_simp; try with_reducible rfl
          try simp only [Act.put, List.setIfInBounds_toArray, List.set_cons_zero, List.set_cons_succ]
          refine take' (i := 6) (d := (some 115)) (v := ?_) rfl rfl (by kernel_rfl) (by kernel_rfl) (by kernel_rfl) (fun _ _ _ h => h) (Or.inl ⟨by rfl, ?_⟩) (by assumption) ?_
          rotate_left
          · intro w hSw; (try dsimp only at hSw); go_simp; try with_reducible rfl
          try simp only [Act.put, List.setIfInBounds_toArray, List.set_cons_zero, List.set_cons_succ]
          refine take' (i := 7) (d := (some 116)) (v := ?_) rfl rfl (by kernel_rfl) (by kernel_rfl) (by kernel_rfl) (fun _ _ _ h => h) (Or.inl ⟨by rfl, ?_⟩) (by assumption) ?_
          rotate_left
          · intro w hSw; (try dsimp only at hSw); go_simp; try with_reducible rfl
          try simp only [Act.put, List.setIfInBounds_toArray, List.set_cons_zero, List.set_cons_succ]
          refine take' (i := 8) (d := (some 117)) (v := ?_) rfl rfl (by kernel_rfl) (by kernel_rfl) (by kernel_rfl) (fun _ _ _ h => h) (Or.inl ⟨by rfl, ?_⟩) (by assumption) ?_
          rotate_left
          · intro w hSw; (try dsimp only at hSw); go_simp; try with_reducible rfl
          try simp only [Act.put, List.setIfInBounds_toArray, List.set_cons_zero, List.set_cons_succ]
          refine take' (i := 9) (d := (some 118)) (v := ?_) rfl rfl (by kernel_rfl) (by kernel_rfl) (by kernel_rfl) (fun _ _ _ h => h) (Or.inl ⟨by rfl, ?_⟩) (by assumption) ?_
          rotate_left
          · intro w hSw; (try dsimp only at hSw); go_simp; try with_reducible rfl
          try simp only [Act.put, List.setIfInBounds_toArray, List.set_cons_zero, List.set_cons_succ]
          refine take' (i := 10) (d := (some 119)) (v := ?_) rfl rfl (by kernel_rfl) (by kernel_rfl) (by kernel_rfl) (fun _ _ _ h => h) (Or.inl ⟨by rfl, ?_⟩) (by assumption) ?_
          rotate_left
          · intro w hSw; (try dsimp only at hSw); go_simp; try with_reducible rfl
          try simp only [Act.put, List.setIfInBounds_toArray, List.set_cons_zero, List.set_cons_succ]
          refine take' (i := 11) (d := (some 120)) (v := ?_) rfl rfl (by kernel_rfl) (by kernel_rfl) (by kernel_rfl) (fun _ _ _ h => h) (Or.inl ⟨by rfl, ?_⟩) (by assumption) ?_
          rotate_left
          · intro w hSw; (try dsimp only at hSw); go_simp; try with_reducible rfl
          try simp only [Act.put, List.setIfInBounds_toArray, List.set_cons_zero, List.set_cons_succ]
          refine take' (i := 12) (d := (some 121)) (v := ?_) rfl rfl (by kernel_rfl) (by kernel_rfl) (by kernel_rfl) (fun _ _ _ h => h) (Or.inl ⟨by rfl, ?_⟩) (by assumption) ?_
          rotate_left
          · intro w hSw; (try dsimp only at hSw); go_simp; try with_reducible rfl
          try simp only [Act.put, List.setIfInBounds_toArray, List.set_cons_zero, List.set_cons_succ]
          refine take' (i := 13) (d := (some 122)) (v := ?_) rfl rfl (by kernel_rfl) (by kernel_rfl) (by kernel_rfl) (fun _ _ _ h => h) (Or.inl ⟨by rfl, ?_⟩) (by assumption) ?_
          rotate_left
          · intro w hSw; (try dsimp only at hSw); go_simp; try with_reducible rfl
          try simp only [Act.put, List.setIfInBounds_toArray, List.set_cons_zero, List.set_cons_succ]
          refine wpAnyH_ready (rs := [14]) (by kernel_rfl) (by simp) ?_
          refine AllReadyH.cons (o := _) rfl (fun K hK => ?_) AllReadyH.nil
          go_simp
          refine (AW.out _).mono ?_
          rintro e w9 ⟨rfl, hb9⟩
          go_wp2_with fail
          refine hK.out _ _ (held_c hb1 hb2 hHeld hb9) (fun hHeld => ?_)
          clear hK K
          try simp only [Act.put, List.setIfInBounds_toArray, List.set_cons_zero, List.set_cons_succ]
          refine take' (i := 15) (d := (some 124)) (v := ?_) rfl rfl (by kernel_rfl) (by kernel_rfl) (by kernel_rfl) (fun _ _ _ h => h) (Or.inl ⟨by rfl, ?_⟩) (by assumption) ?_
          rotate_left
          · intro w hSw; (try dsimp only at hSw); go_simp; try with_reducible rfl
          try simp only [Act.put, List.setIfInBounds_toArray, List.set_cons_zero, List.set_cons_succ]
          refine take' (i := 16) (d := (some 6)) (v := ?_) rfl rfl (by kernel_rfl) (by kernel_rfl) (by kernel_rfl) (fun _ _ _ h => h) (Or.inl ⟨by rfl, ?_⟩) (by assumption) ?_
          rotate_left
          · intro w hSw; (try dsimp only at hSw); go_simp; try with_reducible rfl
          try simp only [Act.put, List.setIfInBounds_toArray, List.set_cons_zero, List.set_cons_succ]
          refine wpAnyH_done (by kernel_rfl) ?_ _
          have HB := Hid.intro (B9.out.trans (hHeld.2.mono (by have := B9.out.size; rw [HS.out] at this; exact this)))
          clear hHeld
          go_wp2_with fail
          go_ret
          exact ⟨rfl, HB.out⟩
end Go.Proofs.Ytplalkhjjndffaa
