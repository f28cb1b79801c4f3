/-
  What may not be asked.
-/
import Derived.Test.YtlkebkchbgpnpaaKw
namespace Go.Proofs.Ytlkebkchbgpnpaa
open Go.ChangeShapes Go.WideShapes Go.ChangeAt Go.RowKit
open Go.ChangeMaps (open_string shut_string)

theorem no_bad : ∀ n, 1 ≤ n → n ≤ 15 → mayL (lK.set 9 ((n : Nat) : Int)) = false := by
  intro n h1 h2
  rcases (by omega : n = 1 ∨ n = 2 ∨ n = 3 ∨ n = 4 ∨ n = 5 ∨ n = 6 ∨ n = 7 ∨ n = 8 ∨ n = 9 ∨ n = 10 ∨ n = 11 ∨ n = 12 ∨ n = 13 ∨ n = 14 ∨ n = 15) with h | h | h | h | h | h | h | h | h | h | h | h | h | h | h <;> subst h <;> decide +kernel
theorem may_K : mayL lK = true := by decide +kernel
theorem at_K : ∀ c, c < 65 → c ≠ 0 → c ≠ 1 → c ≠ 3 → at0 (nat lK) c = 0 := by decide +kernel
theorem kv_no (c : Int) (h : c ≠ 0 ∧ c ≠ 1 ∧ c ≠ 3) : okPB (nat lK) (c, 0) = false := by
  unfold okPB
  by_cases h0 : 0 ≤ c ∧ c < 65
  · rw [show at0 (nat lK) c.toNat = 0 from at_K c.toNat (by omega) (by omega) (by omega) (by omega)]; simp
  · by_cases h1 : 0 ≤ c
    · rw [decide_eq_false (show ¬ c < 65 by omega)]; simp
    · rw [decide_eq_false h1]; rfl
theorem put_kv (c : Int) (h : c ≠ 0 ∧ c ≠ 1 ∧ c ≠ 3) : putH lK [(0, 0), (c, 0)] = (1, []) := by
  unfold putH
  rw [if_neg (by rw [may_K]; decide), if_neg]
  rw [List.all_cons, List.all_cons, kv_no c h]
  simp
theorem fp_two2 (c : Int) : ∀ p ∈ [((0 : Int), (0 : Int)), (c, 0)], 0 ≤ p.2 ∧ p.2 ≤ 18446744073709551615 := by
  intro p hp
  simp only [List.mem_cons, List.not_mem_nil, or_false] at hp
  rcases hp with e | e <;> rw [e] <;> simp only <;> omega
theorem get_neg (n : Int) (h : n < 0 ∨ 4096 < n) (s : List UInt8) : getH lK s n = (1, []) := by
  unfold getH
  rw [if_neg (by rw [may_K]; decide), if_pos h]
theorem ex_r1 : putH lK [(1, 1)] = (1, []) := by decide +kernel
theorem fp_one1 : ∀ p ∈ [((1 : Int), (1 : Int))], 0 ≤ p.2 ∧ p.2 ≤ 18446744073709551615 := by decide
def lO : List Int := (List.replicate 65 (0 : Int)).set 5 1
def lZ : List Int := List.replicate 65 (0 : Int)
theorem ex_r2 : getH lO [1] 1 = (3, []) := by decide +kernel
theorem ex_r3 : getH lZ [0] 1 = (3, []) := by decide +kernel
theorem put_er {w W : World} (al : Option Addr) (nl capl : Nat) (ps : List (Int × Int)) (a : Option Addr) (cap : Nat) (f : List Int) (er : Nat) (hp : RP W al nl ps) (hf : ∀ p ∈ ps, 0 ≤ p.2 ∧ p.2 ≤ 18446744073709551615) (hnl : nl ≤ 5000) (h : RI W a 65 f) (hb : Below w.heap.size w W) (he : putH f ps = (er, [])) :
    Calls Try.prog 10 #[.slice al nl capl, .slice a 65 cap] W fun e W' => e = .returned (.tuple #[.string (bs []), .int .i64 (er : Nat)]) ∧ Below w.heap.size w W' := by
  have P := hput_any al nl capl ps a 65 cap f W hp hf hnl h (by omega)
  rw [he] at P
  refine P.mono ?_
  rintro e W' ⟨rfl, b⟩
  exact ⟨rfl, hb.trans (b.mono hb.size)⟩
theorem get_er {w W : World} (a : Option Addr) (cap : Nat) (f : List Int) (s : ByteArray) (n : Int) (er : Nat) (h : RI W a 65 f) (hs : s.size ≤ 100000) (hb : Below w.heap.size w W) (he : getH f s.data.toList n = (er, [])) :
    Calls Try.prog 12 #[.string s, .int .i64 n, .slice a 65 cap] W fun e W' => ∃ a' c', e = .returned (.tuple #[.slice a' 0 c', .int .i64 (er : Nat)]) ∧ Below w.heap.size w W' := by
  have P := hget_any a 65 cap f s n W h (by omega) hs
  rw [he] at P
  refine P.mono ?_
  rintro e W' ⟨a', m, c', rfl, r, -, -, -, b⟩
  have hm : m = 0 := by rw [← r.1]; rfl
  subst hm
  exact ⟨a', c', rfl, hb.trans (b.mono hb.size)⟩
theorem ivs_one' (l : List Int) : ∀ u ∈ ivs l, u.oneCell' = true := by
  intro u hu
  obtain ⟨z, _, rfl⟩ := List.mem_map.1 hu
  rfl
set_option maxRecDepth 100000 in
set_option maxHeartbeats 4000000 in
theorem refuses_walk (a0 a1 a2 : Int) (h0 : 0 ≤ a0) (h1 : a0 ≤ 255) (h2 : -9223372036854775808 ≤ a2) (h3 : a2 ≤ 9223372036854775807) (w : World) :
    Calls Try.prog 8 #[.int .u8 a0, .int .i64 a1, .int .i64 a2] w fun e w' => e = .returned (.bool true) ∧ Below w.heap.size w w' := by
  obtain ⟨q, hq⟩ : ∃ q : Nat, a0 % 15 + 1 = (q : Int) := ⟨(a0 % 15 + 1).toNat, by omega⟩
  have hq1 : 1 ≤ q := by omega
  have hq15 : q ≤ 15 := by omega
  have hqq : 1 + a0 % 15 = (q : Int) := by omega
  have NB : Unit → putH (lK.set 9 (q : Int)) [] = (3, []) := fun _ => by unfold putH; rw [if_pos (no_bad q hq1 hq15)]
  have NG : Unit → getH (lK.set 9 (q : Int)) [97] 1 = (3, []) := fun _ => by unfold getH; rw [if_pos (no_bad q hq1 hq15)]
  obtain ⟨i0, hi0, hz0, hs0, hb0⟩ := info_all info3
  have K := known_any w
  clear hq
  go_enter Try.func8, Try.ntmps8
  go_wp2_with fail
  with_reducible refine K.mono ?_
  rintro e w1 ⟨rfl, k1, k2⟩
  have RK := own_ri2 k1
  have K2 := Hid.intro k2
  have LX : Hid ((ivs lK).length = 65 * 1) := rfl
  have hcl : ∀ x, some (⟨w.heap.size, 0, none⟩ : Addr) = some x → ∀ j u, (ivs lK)[j]? = some u → (w1.alloc (.cells #[] 3)).cell? (x.add j) = some u := by
    intro x hx j u hu
    exact ri_cells (ri_below RK ((Below.refl _ _).alloc (Nat.le_refl _) _)) x hx j u hu
  have HCL := Hid.intro hcl
  have HRK := Hid.intro RK
  clear K k1 k2 RK hcl
  go_wp2_with (at_builtin; refine wpList_pushS _ rfl (.tmp 28) (.tmp 29) 23 rfl 3 i0 (.int .i64 0) 1 8 Try.underlying23 hi0 hz0 hs0 hb0 rfl (by decide) (by decide) (.slice (some ⟨w1.heap.size, 0, none⟩) 0 0) 0 [] rfl (own_low (own_empty w1 3 1) (Nat.zero_le _)) (some ⟨w.heap.size, 0, none⟩) 65 65 (ivs lK) rfl LX.out (fun h => by cases h) HCL.out (ivs_one' lK) (by omega) ?_)
  intro v8 w8 o8 g8 m8
  have hb1 : Below w1.heap.size w1 (w1.alloc (.cells #[] 3)) := (Below.refl _ _).alloc (Nat.le_refl _) _
  have hb8 : Below w1.heap.size w1 w8 := below_grown hb1 g8 (by simp) (fun k hk => by simp [Value.ownBlock] at hk; omega)
  obtain ⟨b8, cap8, rfl⟩ := own_slice o8 (by omega)
  have hb8k : w1.heap.size ≤ b8 := by
    rcases m8 b8 rfl with h | h
    · simp [Value.ownBlock] at h; omega
    · have : (w1.alloc (.cells #[] 3)).heap.size = w1.heap.size + 1 := by simp
      omega
  obtain ⟨c9, -, f9⟩ := own_there o8 9 (by omega)
  have c9' : w8.cell? ⟨b8, 9, none⟩ = some (.int .i64 0) := c9
  have o9 := own_set o8 9 (.int .i64 (q : Int))
  rw [ivs_set] at o9
  have HRB := Hid.intro (own_ri2 o9)
  have HB9' : Below w1.heap.size w1 (w8.setCell ⟨b8, 9, none⟩ (.int .i64 (q : Int))) := Below.setCell hb8 (p := ⟨b8, 9, none⟩) hb8k _
  have HRL := Hid.intro (ri_below HRK.out HB9')
  have HB9 := Hid.intro (K2.out.trans (HB9'.mono K2.out.size))
  clear c9 o8 g8 m8 o9 hb1 hb8 hb8k HB9' HCL LX HRK K2
  obtain ⟨kv, hkv, hkc⟩ : ∃ kv : Int, (kv ≠ 0 ∧ kv ≠ 1 ∧ kv ≠ 3) ∧ ((a1 = 0 ∨ a1 = 1 ∨ a1 = 3) ∧ kv = 2 ∨ (a1 ≠ 0 ∧ a1 ≠ 1 ∧ a1 ≠ 3) ∧ kv = a1) := by
    by_cases h : a1 = 0 ∨ a1 = 1 ∨ a1 = 3
    · exact ⟨2, by decide, .inl ⟨h, rfl⟩⟩
    · exact ⟨a1, by omega, .inr ⟨by omega, rfl⟩⟩
  have PK : Unit → putH lK [(0, 0), (kv, 0)] = (1, []) := fun _ => put_kv kv hkv
  have GMn : Unit → getH lK [97] (min a2 (-1)) = (1, []) := fun _ => get_neg _ (.inl (by omega)) _
  have GMx : Unit → getH lK [97] (max a2 4097) = (1, []) := fun _ => get_neg _ (.inr (by omega)) _
  obtain ⟨w9, hw9⟩ : ∃ w9, w8.setCell ⟨b8, 9, none⟩ (.int .i64 (q : Int)) = w9 := ⟨_, rfl⟩
  rw [hw9] at HRB HRL HB9
  have hqq' : wrap64 (1 + a0 % 15) = (q : Int) := by rw [hqq]; unfold wrap64; omega
  have S1 := put_er (w := w9) none 0 0 [] (some ⟨b8, 0, none⟩) cap8 _ 3 (rp_nil _) (fun p hp => by simp at hp) (by omega) HRB.out (Below.refl _ _) (NB ())
  rcases hkc with ⟨hk1, hk2⟩ | ⟨hk1, hk2⟩
  · subst hk2
    rcases hk1 with rfl | rfl | rfl
    all_goals
      go_wp2_with fail
      with_reducible refine S1.mono ?_
      rintro e w10 ⟨rfl, b10⟩
      have b10a := b10.alloc b10.size (.cells #[.int .i64 0, .int .u64 0, .int .i64 2, .int .u64 0] 54)
      have rp2 : RP (w10.alloc (.cells #[.int .i64 0, .int .u64 0, .int .i64 2, .int .u64 0] 54)) (some ⟨w10.heap.size, 0, none⟩) 2 [(0, 0), (2, 0)] := rp_new w10 [(0, 0), (2, 0)]
      have S2 := put_er (w := w9) (some ⟨w10.heap.size, 0, none⟩) 2 2 [(0, 0), (2, 0)] (some ⟨w.heap.size, 0, none⟩) 65 lK 1 rp2 (fp_two2 2) (by omega) (ri_below HRL.out b10a) b10a (PK ())
      clear b10 b10a rp2
      go_wp2_with fail
      with_reducible refine S2.mono ?_
      rintro e w11 ⟨rfl, b11⟩
      have S3 := get_er (w := w9) (some ⟨b8, 0, none⟩) cap8 _ ⟨#[97]⟩ 1 3 (ri_below HRB.out b11) (by decide) b11 (NG ())
      clear b11 S2
      go_wp2_with fail
      with_reducible refine S3.mono ?_
      rintro e w12 ⟨a12, c12, rfl, b12⟩
      have S4 := get_er (w := w9) (some ⟨w.heap.size, 0, none⟩) 65 lK ⟨#[97]⟩ (min a2 (-1)) 1 (ri_below HRL.out b12) (by decide) b12 (GMn ())
      clear b12 S3
      obtain ⟨mn, hmn⟩ : ∃ mn, min a2 (-1) = mn := ⟨_, rfl⟩
      rw [hmn] at S4
      go_wp2_with fail
      with_reducible refine S4.mono ?_
      rintro e w13 ⟨a13, c13, rfl, b13⟩
      have S5 := get_er (w := w9) (some ⟨w.heap.size, 0, none⟩) 65 lK ⟨#[97]⟩ (max a2 4097) 1 (ri_below HRL.out b13) (by decide) b13 (GMx ())
      clear b13 S4 hmn
      obtain ⟨mx, hmx⟩ : ∃ mx, max a2 4097 = mx := ⟨_, rfl⟩
      rw [hmx] at S5
      go_wp2_with fail
      with_reducible refine S5.mono ?_
      rintro e w14 ⟨a14, c14, rfl, b14⟩
      have b14a := b14.alloc b14.size (.cells #[.int .i64 1, .int .u64 1] 54)
      have rp1 : RP (w14.alloc (.cells #[.int .i64 1, .int .u64 1] 54)) (some ⟨w14.heap.size, 0, none⟩) 1 [(1, 1)] := rp_new w14 [(1, 1)]
      have S6 := put_er (w := w9) (some ⟨w14.heap.size, 0, none⟩) 1 1 [(1, 1)] (some ⟨w.heap.size, 0, none⟩) 65 lK 1 rp1 fp_one1 (by omega) (ri_below HRL.out b14a) b14a ex_r1
      clear b14 b14a rp1 S5 hmx
      go_wp2_with fail
      with_reducible refine S6.mono ?_
      rintro e w15 ⟨rfl, b15⟩
      have mk := make_ints 23 3 Try.underlying23 info3 65 (by omega) w15
      rw [show ((65 : Nat) : Int) = 65 from rfl] at mk
      have om := own_set (own_made_ints w15 3 65 (by omega)) 5 (.int .i64 1)
      rw [ivs_set, World.setCell_alloc_new] at om
      have b15a := b15.alloc b15.size (.cells ((madeCells #[.int .i64 0] 65).setIfInBounds 5 (.int .i64 1)) 3)
      have S7 := get_er (w := w9) (some ⟨w15.heap.size, 0, none⟩) 65 lO ⟨#[1]⟩ 1 3 (own_ri2 om) (by decide) b15a ex_r2
      have hs : (madeCells #[Value.int .i64 0] 65).size = 65 := by simp [madeCells]
      have m0 := made_at 65 5 (by omega)
      clear b15 b15a om S6
      go_wp2_with fail
      with_reducible refine S7.mono ?_
      rintro e w16 ⟨a16, c16, rfl, b16⟩
      have mk2 := make_ints 23 3 Try.underlying23 info3 65 (by omega) w16
      rw [show ((65 : Nat) : Int) = 65 from rfl] at mk2
      have b16a := b16.alloc b16.size (.cells (madeCells #[.int .i64 0] 65) 3)
      have S8 := get_er (w := w9) (some ⟨w16.heap.size, 0, none⟩) 65 lZ ⟨#[0]⟩ 1 3 (own_ri2 (own_made_ints w16 3 65 (by omega))) (by decide) b16a ex_r3
      clear b16 b16a S7 mk
      go_wp2_with fail
      with_reducible refine S8.mono ?_
      rintro e w17 ⟨a17, c17, rfl, b17⟩
      have AW := awake_own (w := w9) b17
      clear S8 b17 mk2 hs m0
      go_wp2_with (first | (go_at_call 14; refine (err_any _ _).mono ?_; rintro e w3 ⟨rfl, rfl⟩) | (go_at_call 9; refine AW.mono ?_; rintro e w3 ⟨rfl, b4⟩; have B4 := Hid.intro b4; clear b4))
      go_ret
      exact ⟨rfl, HB9.out.trans (B4.out.mono HB9.out.size)⟩
  · subst hk2
    have t0 : (kv == 0) = false := by simp [hkv.1]
    have t1 : (kv == 1) = false := by simp [hkv.2.1]
    have t3 : (kv == 3) = false := by simp [hkv.2.2]
    have d0 : decide (kv = 0) = false := decide_eq_false hkv.1
    have d1 : decide (kv = 1) = false := decide_eq_false hkv.2.1
    have d3 : decide (kv = 3) = false := decide_eq_false hkv.2.2
    all_goals
      go_wp2_with fail
      with_reducible refine S1.mono ?_
      rintro e w10 ⟨rfl, b10⟩
      have b10a := b10.alloc b10.size (.cells #[.int .i64 0, .int .u64 0, .int .i64 kv, .int .u64 0] 54)
      have rp2 : RP (w10.alloc (.cells #[.int .i64 0, .int .u64 0, .int .i64 kv, .int .u64 0] 54)) (some ⟨w10.heap.size, 0, none⟩) 2 [(0, 0), (kv, 0)] := rp_new w10 [(0, 0), (kv, 0)]
      have S2 := put_er (w := w9) (some ⟨w10.heap.size, 0, none⟩) 2 2 [(0, 0), (kv, 0)] (some ⟨w.heap.size, 0, none⟩) 65 lK 1 rp2 (fp_two2 kv) (by omega) (ri_below HRL.out b10a) b10a (PK ())
      clear b10 b10a rp2
      go_wp2_with fail
      with_reducible refine S2.mono ?_
      rintro e w11 ⟨rfl, b11⟩
      have S3 := get_er (w := w9) (some ⟨b8, 0, none⟩) cap8 _ ⟨#[97]⟩ 1 3 (ri_below HRB.out b11) (by decide) b11 (NG ())
      clear b11 S2
      go_wp2_with fail
      with_reducible refine S3.mono ?_
      rintro e w12 ⟨a12, c12, rfl, b12⟩
      have S4 := get_er (w := w9) (some ⟨w.heap.size, 0, none⟩) 65 lK ⟨#[97]⟩ (min a2 (-1)) 1 (ri_below HRL.out b12) (by decide) b12 (GMn ())
      clear b12 S3
      obtain ⟨mn, hmn⟩ : ∃ mn, min a2 (-1) = mn := ⟨_, rfl⟩
      rw [hmn] at S4
      go_wp2_with fail
      with_reducible refine S4.mono ?_
      rintro e w13 ⟨a13, c13, rfl, b13⟩
      have S5 := get_er (w := w9) (some ⟨w.heap.size, 0, none⟩) 65 lK ⟨#[97]⟩ (max a2 4097) 1 (ri_below HRL.out b13) (by decide) b13 (GMx ())
      clear b13 S4 hmn
      obtain ⟨mx, hmx⟩ : ∃ mx, max a2 4097 = mx := ⟨_, rfl⟩
      rw [hmx] at S5
      go_wp2_with fail
      with_reducible refine S5.mono ?_
      rintro e w14 ⟨a14, c14, rfl, b14⟩
      have b14a := b14.alloc b14.size (.cells #[.int .i64 1, .int .u64 1] 54)
      have rp1 : RP (w14.alloc (.cells #[.int .i64 1, .int .u64 1] 54)) (some ⟨w14.heap.size, 0, none⟩) 1 [(1, 1)] := rp_new w14 [(1, 1)]
      have S6 := put_er (w := w9) (some ⟨w14.heap.size, 0, none⟩) 1 1 [(1, 1)] (some ⟨w.heap.size, 0, none⟩) 65 lK 1 rp1 fp_one1 (by omega) (ri_below HRL.out b14a) b14a ex_r1
      clear b14 b14a rp1 S5 hmx
      go_wp2_with fail
      with_reducible refine S6.mono ?_
      rintro e w15 ⟨rfl, b15⟩
      have mk := make_ints 23 3 Try.underlying23 info3 65 (by omega) w15
      rw [show ((65 : Nat) : Int) = 65 from rfl] at mk
      have om := own_set (own_made_ints w15 3 65 (by omega)) 5 (.int .i64 1)
      rw [ivs_set, World.setCell_alloc_new] at om
      have b15a := b15.alloc b15.size (.cells ((madeCells #[.int .i64 0] 65).setIfInBounds 5 (.int .i64 1)) 3)
      have S7 := get_er (w := w9) (some ⟨w15.heap.size, 0, none⟩) 65 lO ⟨#[1]⟩ 1 3 (own_ri2 om) (by decide) b15a ex_r2
      have hs : (madeCells #[Value.int .i64 0] 65).size = 65 := by simp [madeCells]
      have m0 := made_at 65 5 (by omega)
      clear b15 b15a om S6
      go_wp2_with fail
      with_reducible refine S7.mono ?_
      rintro e w16 ⟨a16, c16, rfl, b16⟩
      have mk2 := make_ints 23 3 Try.underlying23 info3 65 (by omega) w16
      rw [show ((65 : Nat) : Int) = 65 from rfl] at mk2
      have b16a := b16.alloc b16.size (.cells (madeCells #[.int .i64 0] 65) 3)
      have S8 := get_er (w := w9) (some ⟨w16.heap.size, 0, none⟩) 65 lZ ⟨#[0]⟩ 1 3 (own_ri2 (own_made_ints w16 3 65 (by omega))) (by decide) b16a ex_r3
      clear b16 b16a S7 mk
      go_wp2_with fail
      with_reducible refine S8.mono ?_
      rintro e w17 ⟨a17, c17, rfl, b17⟩
      have AW := awake_own (w := w9) b17
      clear S8 b17 mk2 hs m0
      go_wp2_with (first | (go_at_call 14; refine (err_any _ _).mono ?_; rintro e w3 ⟨rfl, rfl⟩) | (go_at_call 9; refine AW.mono ?_; rintro e w3 ⟨rfl, b4⟩; have B4 := Hid.intro b4; clear b4))
      go_ret
      exact ⟨rfl, HB9.out.trans (B4.out.mono HB9.out.size)⟩
end Go.Proofs.Ytlkebkchbgpnpaa
