/-
  LensBack: the walk.
-/
import Derived.Test.YthjokhfjfiaaiaaTy
import Derived.Test.YthjokhfjfiaaiaaKc
import Derived.Test.YthjokhfjfiaaiaaRy
import Derived.Test.YthjokhfjfiaaiaaFq
import Derived.Test.YthjokhfjfiaaiaaMd
import Derived.Test.YthjokhfjfiaaiaaSi
import Derived.Test.YthjokhfjfiaaiaaRf
namespace Go.Proofs.Ythjokhfjfiaaiaa
open Go.ChangeShapes Go.WideShapes Go.ChangeAt Go.RowKit
open Go.ChangeMaps (open_string shut_string)

theorem lget_mid (ah be : ByteArray) (p : List UInt8) (L : List Nat) (w : World) (h1 : ah.size ≤ 20) (h2 : be.size ≤ 20) (h3 : p.length ≤ 65) (hg : ∀ u, getL (p ++ u) = (0, L, p.length)) :
    Calls Try.prog 8 #[.string (ah ++ bs p ++ be), .int .i64 (ah.size : Int)] w fun e w' => ∃ a1 n1 cap1, e = .returned (.tuple #[.slice a1 n1 cap1, .int .i64 ((ah.size : Int) + ((bs p).size : Int)), .int .i64 0]) ∧ RI w' a1 n1 (L.map Int.ofNat) ∧ n1 ≤ 80 ∧ Below w.heap.size w w' := by
  have hm := mid_size ah p be
  have G := lget_any (ah ++ bs p ++ be) (ah.size : Int) w (by rw [hm]; omega)
  have e : getA (ah ++ bs p ++ be).data.toList (ah.size : Int) = (0, L, ah.size + p.length) := by
    rw [getA_of _ ah.size (by rw [len_data, hm]; omega) 0 p.length L (by rw [mid_drop]; exact hg _), if_pos rfl]
  rw [e] at G
  refine G.mono ?_
  rintro e w1 ⟨a1, n1, cap1, rfl, r1, hn1, -, -, b1⟩
  refine ⟨a1, n1, cap1, ?_, r1, hn1, b1⟩
  rw [size_bs]
  simp
theorem xor_ne (x b : Nat) (h : b ≠ 0) : x ^^^ b ≠ x := by
  intro e
  have : x ^^^ (x ^^^ b) = x ^^^ x := by rw [e]
  rw [← Nat.xor_assoc, Nat.xor_self, Nat.zero_xor] at this
  exact h this
set_option maxRecDepth 100000 in
set_option maxHeartbeats 4000000 in
theorem back_walk (a : Option Addr) (n cap : Nat) (lim : Int) (ah be : ByteArray) (cut at' by' : Int) (w : World) (h : RU w a n) (hn : n ≤ 9223372036854775807) (hl : 0 ≤ lim ∧ lim ≤ 255) (hah : ah.size ≤ 9223372036854775807) (hbe : be.size ≤ 9223372036854775807)
    (hcut : 0 ≤ cut ∧ cut ≤ 255) (hat : 0 ≤ at' ∧ at' ≤ 255) (hby : 0 ≤ by' ∧ by' ≤ 255) :
    Calls Try.prog 4 #[.slice a n cap, .int .u8 lim, .string ah, .string be, .int .u8 cut, .int .u8 at', .int .u8 by'] w fun e w' => e = .returned (.bool true) ∧ Below w.heap.size w w' := by
  by_cases hbig : 140 < n ∨ 20 < ah.size ∨ 20 < be.size
  · have AW := awake_any w
    clear h
    rcases (by omega : 140 < n ∨ (¬ 140 < n ∧ 20 < ah.size) ∨ (¬ 140 < n ∧ ¬ 20 < ah.size ∧ 20 < be.size)) with h0 | ⟨h0, h1⟩ | ⟨h0, h1, h2⟩
    all_goals
      clear hbig
      go_enter Try.func4, Try.ntmps4
      go_wp2_with fail
      with_reducible refine AW.mono ?_
      rintro e w4 ⟨rfl, k5⟩
      clear AW
      go_wp2_with fail
      go_ret
      exact ⟨rfl, k5⟩
  · have h140 : n ≤ 140 := by omega
    have h20 : ah.size ≤ 20 := by omega
    have h20' : be.size ≤ 20 := by omega
    have FQ := freq_any a n cap w h h140
    obtain ⟨k, hk⟩ : ∃ k : Nat, 7 + lim % 9 = (k : Int) := ⟨(7 + lim % 9).toNat, by omega⟩
    have k7 : 7 ≤ k := by omega
    have k15 : k ≤ 15 := by omega
    have fi := fld_ints
    clear h hbig hn hah hbe
    go_enter Try.func4, Try.ntmps4
    go_wp2_with fail
    with_reducible refine FQ.mono ?_
    rintro e w1 ⟨v, F, rfl, f1, f2, f3, f4⟩
    obtain ⟨bf, cf, rfl⟩ := own_slice f3 (by omega)
    have MB := may_of f2 k k7 k15
    have RL := rlengths_yes (some ⟨bf, 0, none⟩) cf F k w1 (own_ri2 f3) MB
    have HF := Hid.intro f4
    clear FQ f1 f2 f3 f4 MB
    go_wp2_with fail
    with_reducible refine RL.mono ?_
    rintro e w6 hpost
    obtain ⟨vx, o, r, rfl, m1, m2, m3, m4⟩ := hpost
    obtain ⟨bl, cl, rfl⟩ := own_slice m3 (by omega)
    obtain ⟨-, -, pm⟩ := put_may m1 m2 k7 k15
    obtain ⟨a6, c6, e6, hc6, hm6, r6⟩ := own_ri (zs := (put o r).map Int.ofNat) m3
    injection e6 with e6a e6b e6c
    subst e6a e6c
    simp only [maxLen] at hm6
    obtain ⟨L, hL⟩ : ∃ L, put o r = L := ⟨_, rfl⟩
    rw [hL] at pm r6
    have B6 : Hid (Below w.heap.size w w6) := HF.out.trans (m4.mono HF.out.size)
    have P := lput_any _ 65 cl _ w6 r6 (by omega) hc6 (by omega)
    have R6 := Hid.intro r6
    have PM : Unit → mayL (L.map Int.ofNat) = true := fun _ => pm
    have hpl := put_len2 pm
    have GP : Unit → ∀ u, getL (putN L ++ u) = (0, L, (putN L).length) := fun _ u => get_put pm u
    have GC : Unit → ∀ j, j < (putN L).length → getL ((putN L).take j) = (2, [], 0) := fun _ j hj => get_cut pm j hj
    have GT : Unit → ∀ i (h : i < (putN L).length) c, c ≠ (putN L)[i] → ∀ er nx M, getA ((putN L).set i c) 0 = (er, M, nx) → er ≠ 0 ∨ M ≠ L := fun _ i h c hc er nx M hg => get_turned h hc er nx M hg
    have hP : putL (L.map Int.ofNat) = putN L := rfl
    rw [hP] at P hpl
    generalize putN L = p at *
    clear RL HF m1 m2 m3 m4 hL pm r6 hP
    go_wp2_with fail
    with_reducible refine P.mono ?_
    rintro e w7 ⟨rfl, b7⟩
    have B7 := Hid.intro (B6.out.trans (b7.mono B6.out.size))
    have R7 := Hid.intro (ri_below R6.out b7)
    have hps : Hid ((bs p).size = p.length) := size_bs p
    have hs5 : 5 ≤ (bs p).size := by rw [hps.out]; exact hpl.1
    have hs65 : (bs p).size ≤ 65 := by rw [hps.out]; exact hpl.2
    clear P b7 R6 B6 fi hpl
    have G1 := lget_mid ah be p L w7 h20 h20' (by rw [← hps.out]; exact hs65) (GP ())
    go_wp2_with fail
    with_reducible refine G1.mono ?_
    rintro e w8 ⟨a1, n1, cap1, rfl, r8, hn1, b8⟩
    have B8 := Hid.intro (B7.out.trans (b8.mono B7.out.size))
    have R8 := Hid.intro (ri_below R7.out b8)
    have E0 := err_any 0 w8
    have SA := sameI_any a1 (some ⟨bl, 0, none⟩) n1 65 cap1 cl _ _ w8 r8 R8.out (by omega) (by omega)
    rw [decide_eq_true rfl] at SA
    have HPD : Hid ((bs p).data.toList = p) := bs_data p
    clear G1 b8 r8 B7 R7 GP
    generalize bs p = s at *
    go_wp2_with fail
    refine E0.mono ?_
    rintro e w9 ⟨rfl, rfl⟩
    clear E0
    go_wp2_with fail
    with_reducible refine SA.mono ?_
    rintro e w10 ⟨rfl, b10⟩
    have B10 := Hid.intro (B8.out.trans (b10.mono B8.out.size))
    have R10 := Hid.intro (ri_below R8.out b10)
    clear SA b10 B8 R8
    obtain ⟨j, hj⟩ : ∃ j : Nat, cut % (s.size : Int) = (j : Int) := ⟨(cut % (s.size : Int)).toNat, by have := Int.emod_nonneg cut (b := (s.size : Int)) (by omega); omega⟩
    have hjs : j < s.size := by have := Int.emod_lt_of_pos cut (b := (s.size : Int)) (by omega); omega
    obtain ⟨i, hi⟩ : ∃ i : Nat, at' % (s.size : Int) = (i : Int) := ⟨(at' % (s.size : Int)).toNat, by have := Int.emod_nonneg at' (b := (s.size : Int)) (by omega); omega⟩
    have his : i < s.size := by have := Int.emod_lt_of_pos at' (b := (s.size : Int)) (by omega); omega
    have GC2 : Unit → getA (s.extract 0 j).data.toList 0 = (2, [], 0) := fun _ => by
      rw [take_data, HPD.out]
      exact getA_of _ 0 (Nat.zero_le _) 2 0 [] (by rw [List.drop_zero]; exact GC () j (by rw [← hps.out]; exact hjs))
    have hts : (s.extract 0 j).size ≤ 100000 := by simp; omega
    clear GC
    go_wp2_with fail
    with_reducible refine (lget_err (s.extract 0 j) 0 w w10 B10.out hts 2 (GC2 ())).mono ?_
    rintro e w11 ⟨a2, n2, cap2, rfl, c11, b11⟩
    have B11 := Hid.intro b11
    have R11 := Hid.intro (ri_below R10.out c11)
    clear c11 b11 B10 R10 GC2 hts hj
    obtain ⟨capB, w12, hcv, RM⟩ := bytes_of s w11
    have hil : i < s.data.toList.length := by rw [len_data]; exact his
    have hcell := RM.2.1 i hil
    have fcell := (RM.1 i his).2
    obtain ⟨b, rfl⟩ : ∃ b : Nat, by' = (b : Int) := ⟨by'.toNat, by omega⟩
    have hb256 : b < 256 := by omega
    obtain ⟨x, hx⟩ : ∃ x, s.data.toList[i].toNat = x := ⟨_, rfl⟩
    have hx256 : x < 256 := by rw [← hx]; exact UInt8.toNat_lt _
    have hxor := u8_xor_nat x b hx256 hb256
    have hy256 : x ^^^ b < 256 := Nat.xor_lt_two_pow (n := 8) hx256 hb256
    have RM2 := room_upd RM i hil (UInt8.ofNat (x ^^^ b)) ((x ^^^ b : Nat) : Int) (by rw [u8_of _ hy256])
    have cv2 := room_str RM2 s.size capB (by rw [List.length_set, len_data])
    have GT2 : Unit → b ≠ 0 → ∀ er nx M, getA (bs (s.data.toList.set i (UInt8.ofNat (x ^^^ b)))).data.toList 0 = (er, M, nx) → er ≠ 0 ∨ M ≠ L := fun _ hb er nx M hg => by
      have e := HPD.out
      have hil2 : i < p.length := by rw [← e]; exact hil
      refine GT () i hil2 (UInt8.ofNat (x ^^^ b)) (fun hc => ?_) er nx M (by rw [bs_data, e] at hg; exact hg)
      have h1 : (UInt8.ofNat (x ^^^ b)).toNat = x ^^^ b := u8_of _ hy256
      have h2 : p[i].toNat = x := by rw [← hx]; congr 1; simp [e]
      rw [hc, h2] at h1
      exact xor_ne x b hb h1.symm
    have htx : (bs (s.data.toList.set i (UInt8.ofNat (x ^^^ b)))).size ≤ 100000 := by rw [size_bs, List.length_set, len_data]; omega
    have B13 : Hid (Below w.heap.size w (w12.setCell ⟨w11.heap.size, i, none⟩ (.int .u8 ((x ^^^ b : Nat) : Int)))) := B11.out.trans (RM2.2.2.1.mono B11.out.size)
    have R13 := Hid.intro (ri_below R11.out RM2.2.2.1)
    rw [hx] at hcell
    generalize bs (s.data.toList.set i (UInt8.ofNat (x ^^^ b))) = tx at *
    generalize x ^^^ b = y at *
    obtain ⟨S2, hS2⟩ : ∃ S2, w11.heap.size = S2 := ⟨_, rfl⟩
    simp only [hS2] at hcv hcell fcell cv2 B13 R13
    clear RM RM2 GT hx hS2 B11 R11 hil
    go_wp2_with fail
    clear hcv hcell fcell cv2
    generalize w12.setCell ⟨S2, i, none⟩ (.int .u8 (y : Int)) = w13 at *
    have G2 := lget_any tx 0 w13 htx
    obtain ⟨⟨er, M, nx⟩, hg⟩ : ∃ g, getA tx.data.toList 0 = g := ⟨_, rfl⟩
    rw [hg] at G2
    have GT3 : Unit → b ≠ 0 → er ≠ 0 ∨ M ≠ L := fun _ hb => GT2 () hb er nx M hg
    clear hg GT2 htx
    with_reducible refine G2.mono ?_
    rintro e w14 ⟨a3, n3, cap3, rfl, r14, hn3, -, -, b14⟩
    have B14 := Hid.intro (B13.out.trans (b14.mono B13.out.size))
    have R14 := Hid.intro (ri_below R13.out b14)
    have RN := Hid.intro r14
    have E2 := err_any 2 w14
    have EE := err_any (er : Int) w14
    have AW := awake_own B14.out
    have SA := sameI_any a3 (some ⟨bl, 0, none⟩) n3 65 cap3 cl _ _ w14 RN.out R14.out (by omega) (by omega)
    clear G2 b14 r14 B13 R13
    by_cases hb : b = 0
    · subst hb
      clear GT3 SA EE
      go_wp2_with fail
      refine E2.mono ?_
      rintro e w15 ⟨rfl, rfl⟩
      go_wp2_with fail
      with_reducible refine AW.mono ?_
      rintro e w16 ⟨rfl, b16⟩
      clear AW E2
      go_wp2_with fail
      go_ret
      exact ⟨rfl, b16⟩
    · have t0 : ((b : Int) == 0) = false := by simp; omega
      by_cases he : er = 0
      · have hM : M.map Int.ofNat ≠ L.map Int.ofNat := fun e => ((GT3 () hb).elim (fun h => h he) (fun h => h (by have := congrArg nat e; rwa [nat_of, nat_of] at this)))
        rw [decide_eq_false hM] at SA
        subst he
        have AW2 : Hid (∀ W, Below w14.heap.size w14 W → Calls Try.prog 7 #[] W fun e W' => e = .returned (.bool true) ∧ Below w.heap.size w W') := fun W hW => awake_own (B14.out.trans (hW.mono B14.out.size))
        clear GT3 hM AW hb
        go_wp2_with fail
        refine E2.mono ?_
        rintro e w15 ⟨rfl, rfl⟩
        go_wp2_with fail
        refine EE.mono ?_
        rintro e w15 ⟨rfl, rfl⟩
        go_wp2_with fail
        with_reducible refine SA.mono ?_
        rintro e w16 ⟨rfl, b16⟩
        have AW3 := AW2.out w16 b16
        clear AW2 SA E2 EE
        go_wp2_with fail
        with_reducible refine AW3.mono ?_
        rintro e w17 ⟨rfl, b17⟩
        clear AW3
        go_wp2_with fail
        go_ret
        exact ⟨rfl, b17⟩
      · have t1 : ((er : Int) == 0) = false := by simp; omega
        have t2 : ((er : Int) != 0) = true := by simp; omega
        clear GT3 SA hb
        go_wp2_with fail
        refine E2.mono ?_
        rintro e w15 ⟨rfl, rfl⟩
        go_wp2_with fail
        refine EE.mono ?_
        rintro e w15 ⟨rfl, rfl⟩
        go_wp2_with fail
        with_reducible refine AW.mono ?_
        rintro e w16 ⟨rfl, b16⟩
        clear AW E2 EE
        go_wp2_with fail
        go_ret
        exact ⟨rfl, b16⟩
end Go.Proofs.Ythjokhfjfiaaiaa
