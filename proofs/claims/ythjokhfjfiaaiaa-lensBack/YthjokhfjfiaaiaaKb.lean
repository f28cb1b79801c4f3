/-
  Whether a text begins with another one; Get of lengths.
-/
import Derived.Test.YthjokhfjfiaaiaaKa
namespace Go.Proofs.Ythjokhfjfiaaiaa
open Go.ChangeShapes Go.WideShapes Go.ChangeAt Go.RowKit
open Go.ChangeMaps (open_string shut_string)

theorem tl_ne (t s : ByteArray) (h : ¬ t = s) : (t.toList == s.toList) = false := by
  rw [ByteArray.toList_eq, ByteArray.toList_eq, beq_eq_false_iff_ne]
  exact fun e => h (Go.WideShapes.bytes_inj e)
theorem tl_beq (t s : ByteArray) : (t.toList == s.toList) = decide (t.data.toList = s.data.toList) := by
  rw [ByteArray.toList_eq, ByteArray.toList_eq, Bool.eq_iff_iff]; simp
theorem take_data (s : ByteArray) (k : Nat) : (s.extract 0 k).data.toList = s.data.toList.take k := by simp
theorem drop_data (s : ByteArray) (i : Nat) : (s.extract i s.size).data.toList = s.data.toList.drop i := by
  rw [ByteArray.data_extract, Array.toList_extract, List.extract_eq_take_drop]
  refine List.take_of_length_le ?_
  rw [List.length_drop, len_data]
  exact Nat.le_refl _
set_option maxRecDepth 100000 in
theorem pre_any (s p : ByteArray) (w : World) (_hs : s.size ≤ 100000) (_hp : p.size ≤ 100000) :
    Calls Try.prog 32 #[.string s, .string p] w fun e w' => e = .returned (.bool (decide (s.data.toList.take p.data.toList.length = p.data.toList))) ∧ w' = w := by
  by_cases hl : p.size ≤ s.size
  · have hb : Hid (((s.extract 0 p.size).toList == p.toList) = decide (s.data.toList.take p.data.toList.length = p.data.toList)) := by
      show _ = _
      rw [tl_beq, take_data, len_data]
    generalize decide (s.data.toList.take p.data.toList.length = p.data.toList) = b at *
    go_enter Try.func32, Try.ntmps32
    go_wp2_with fail
    go_ret
    exact ⟨ret_bool hb.out, rfl⟩
  · have hb : Hid (decide (s.data.toList.take p.data.toList.length = p.data.toList) = false) := by
      show _ = _
      rw [decide_eq_false_iff_not]
      intro e
      have := congrArg List.length e
      rw [List.length_take, len_data, len_data] at this
      omega
    generalize decide (s.data.toList.take p.data.toList.length = p.data.toList) = b at *
    go_enter Try.func32, Try.ntmps32
    go_wp2_with fail
    go_ret
    exact ⟨ret_bool hb.out.symm, rfl⟩
theorem pre2_any (s p : ByteArray) (w : World) (hs : s.size ≤ 100000) (hp : p.size ≤ 100000) :
    Calls Try.prog 19 #[.string s, .string p] w fun e w' => e = .returned (.bool (decide (s.data.toList.take p.data.toList.length = p.data.toList))) ∧ w' = w := by
  have P := pre_any s p w hs hp
  generalize decide (s.data.toList.take p.data.toList.length = p.data.toList) = b at *
  go_enter Try.func19, Try.ntmps19
  go_wp2_with fail
  with_reducible refine P.mono ?_
  rintro e w1 ⟨rfl, rfl⟩
  go_wp2_with fail
  go_ret
  exact ⟨rfl, rfl⟩
/-- What Get leaves. -/
def LgPost (g : Nat × List Nat × Nat) (w : World) (e : Ending) (w' : World) : Prop :=
  ∃ a n cap, e = .returned (.tuple #[.slice a n cap, .int .i64 (g.2.2 : Nat), .int .i64 (g.1 : Nat)]) ∧ RI w' a n (g.2.1.map Int.ofNat) ∧ n ≤ 80 ∧ n ≤ cap ∧ cap ≤ maxLen ∧ Below w.heap.size w w'
theorem lg_none {er : Nat} {w w' : World} (h : Below w.heap.size w w') : LgPost (er, [], 0) w (.returned (.tuple #[.slice none 0 0, .int .i64 0, .int .i64 (er : Nat)])) w' :=
  ⟨none, 0, 0, rfl, ⟨rfl, fun h => by omega⟩, by omega, by omega, by decide, h⟩
set_option maxRecDepth 100000 in
set_option maxHeartbeats 1000000 in
theorem lget_any (s : ByteArray) (at' : Int) (w : World) (hs : s.size ≤ 100000) :
    Calls Try.prog 8 #[.string s, .int .i64 at'] w fun e w' => LgPost (getA s.data.toList at') w e w' := by
  by_cases hneg : at' < 0
  · have G : Unit → getA s.data.toList at' = (1, [], 0) := fun _ => getA_arg _ _ (.inl hneg)
    generalize getA s.data.toList at' = g at *
    go_enter Try.func8, Try.ntmps8
    go_wp2_with fail
    go_ret3
    rw [G ()]; exact lg_none (Below.refl _ _)
  · by_cases hbig : (s.size : Int) < at'
    · have G : Unit → getA s.data.toList at' = (1, [], 0) := fun _ => getA_arg _ _ (.inr (by rw [len_data]; exact hbig))
      generalize getA s.data.toList at' = g at *
      go_enter Try.func8, Try.ntmps8
      go_wp2_with fail
      go_ret3
      rw [G ()]; exact lg_none (Below.refl _ _)
    · obtain ⟨i, rfl⟩ : ∃ i : Nat, at' = (i : Int) := ⟨at'.toNat, by omega⟩
      have hi : i ≤ s.size := by omega
      clear hneg hbig
      have G : Unit → ∀ er k L, getL (s.data.toList.drop i) = (er, L, k) → getA s.data.toList i = (er, L, if er = 0 then i + k else 0) := fun _ er k L h => getA_of _ i (by rw [len_data]; exact hi) er k L h
      have HT : Hid ((s.extract i s.size).data.toList = s.data.toList.drop i) := drop_data s i
      generalize getA s.data.toList i = g at *
      generalize s.data.toList.drop i = tl at *
      have hts : (s.extract i s.size).size ≤ 100000 := by simp; omega
      go_enter Try.func8, Try.ntmps8
      go_wp2_with fail
      refine (from_own (s.extract i s.size) (Below.refl w.heap.size w)).mono ?_
      rintro e w1 ⟨A, rfl, hA, k1, -, k3, -⟩
      have hA1 : A < w1.heap.size := blk_lt k1
      have K1 := Hid.intro k1
      have K3 := Hid.intro k3
      clear k1 k3
      unfold ptr
      go_wp2_with fail
      have AL := all_any A (s.extract i s.size) (w1.alloc (.cells #[.pointer (some ⟨A, 0, none⟩)] 46)) (blk_alloc K1.out _) hts
      rw [HT.out] at AL
      unfold hv at AL
      have BW : Hid (Below w.heap.size w (w1.alloc (.cells #[.pointer (some ⟨A, 0, none⟩)] 46)) ∧ w1.heap.size ≤ (w1.alloc (.cells #[.pointer (some ⟨A, 0, none⟩)] 46)).heap.size) := ⟨K3.out.alloc K3.out.size _, by simp⟩
      obtain ⟨D, hD⟩ : ∃ D, dec 65 [] (nbs tl) = D := ⟨_, rfl⟩
      have HD : Unit → dec 65 [] (nbs tl) = D := fun _ => hD
      rw [hD] at AL
      clear hD K1 K3
      generalize (w1.alloc (.cells #[.pointer (some ⟨A, 0, none⟩)] 46)) = w2 at *
      with_reducible refine AL.mono ?_
      rintro e w3 (⟨hD, rfl, c3⟩ | ⟨L, r, v, hD, rfl, o3, hl3, c3⟩)
      · have B3 : Hid (Below w.heap.size w w3) := BW.out.1.trans (chg_below c3 BW.out.1.size (fun k hk => by omega))
        have G2 : Unit → g = (2, [], 0) := fun _ => G () 2 0 [] (get_none ((HD ()).trans hD))
        clear AL c3 BW HD hD G
        go_wp2_with fail
        go_ret3
        rw [G2 ()]; exact lg_none B3.out
      · have B3 : Hid (Below w.heap.size w w3) := BW.out.1.trans (chg_below c3 BW.out.1.size (fun k hk => by omega))
        obtain ⟨a, cap, rfl, hc, hm, r3⟩ := own_ri (zs := L.map Int.ofNat) o3
        have P := lput_any a L.length cap (L.map Int.ofNat) w3 r3 (by omega) hc (by simp only [maxLen] at hm; omega)
        have R3 := Hid.intro r3
        have HM := Hid.intro hm
        have HDD : Unit → dec 65 [] (nbs tl) = some (L, r) := fun _ => (HD ()).trans hD
        have HPL : Hid ((putL (L.map Int.ofNat)).length ≤ 65) := pl_le _
        have HPN : Unit → putL (L.map Int.ofNat) = putN L := fun _ => rfl
        obtain ⟨p, hp⟩ : ∃ p, putL (L.map Int.ofNat) = p := ⟨_, rfl⟩
        rw [hp] at P HPL HPN
        obtain ⟨n, hn⟩ : ∃ n, L.length = n := ⟨_, rfl⟩
        have HN := Hid.intro hn
        rw [hn] at P R3 hc hl3
        simp only [hn]
        clear AL c3 BW HD hD o3 r3 hp hn hm
        go_wp2_with fail
        with_reducible refine P.mono ?_
        rintro e w4 ⟨rfl, b4⟩
        have B4 := Hid.intro (B3.out.trans (Below.mono b4 B3.out.size))
        have R4 := Hid.intro (ri_below R3.out b4)
        clear P b4 R3 B3
        by_cases hp0 : p = []
        · have q0 : (bs p).toList = [] := by rw [ByteArray.toList_eq, bs_data, hp0]
          have G2 : Unit → g = (3, [], 0) := fun _ => G () 3 0 [] (get_no (HDD ()) (fun h => h.1 ((HPN ()).symm.trans hp0)))
          clear G HDD HPN hp0
          go_wp2_with fail
          go_ret3
          rw [G2 ()]; exact lg_none B4.out
        · have q0 : ¬ (bs p).toList = [] := by rw [ByteArray.toList_eq, bs_data]; exact hp0
          have q1 : (bs p).toList.isEmpty = false := by cases h : (bs p).toList with
            | nil => exact absurd h q0
            | cons _ _ => rfl
          have PR := pre2_any (s.extract i s.size) (bs p) w4 hts (by rw [size_bs]; have := HPL.out; omega)
          rw [HT.out, bs_data] at PR
          by_cases hpre : tl.take p.length = p
          · rw [decide_eq_true hpre] at PR
            have hps : (bs p).size ≤ 65 := by rw [size_bs]; exact HPL.out
            have HPS : Hid ((bs p).size = p.length) := size_bs p
            have G2 : Unit → g = (0, L, i + p.length) := fun _ => by
              have e := HPN ()
              have := G () 0 (putN L).length L (get_yes (HDD ()) (by rw [← e]; exact hp0) (by rw [← e]; exact hpre))
              rw [this, if_pos rfl, ← e]
            clear G HDD HPN hpre hp0
            go_wp2_with fail
            with_reducible refine PR.mono ?_
            rintro e w5 ⟨rfl, rfl⟩
            clear PR
            go_wp2_with fail
            go_ret3
            rw [G2 ()]
            refine ⟨a, n, cap, ?_, R4.out, hl3, hc, HM.out, B4.out⟩
            rw [HPS.out]; rfl
          · rw [decide_eq_false hpre] at PR
            have G2 : Unit → g = (3, [], 0) := fun _ => G () 3 0 [] (get_no (HDD ()) (fun h => hpre (by have e := HPN (); rw [e]; exact h.2)))
            clear G HDD HPN hpre hp0
            go_wp2_with fail
            with_reducible refine PR.mono ?_
            rintro e w5 ⟨rfl, rfl⟩
            clear PR
            go_wp2_with fail
            go_ret3
            rw [G2 ()]; exact lg_none B4.out
end Go.Proofs.Ythjokhfjfiaaiaa
