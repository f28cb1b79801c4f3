/-
  SpreadMade: the walk.
-/
import Derived.Test.YteceiinehcjdjaaRt
import Derived.Test.YteceiinehcjdjaaTt
import Derived.Test.YteceiinehcjdjaaSc
import Derived.Test.YteceiinehcjdjaaAw
import Derived.Test.YteceiinehcjdjaaCn
import Derived.Deep.QuietTactic
import Derived.Deep.RegionWith
import Derived.OwnWalk
import Derived.BigQuiet
namespace Go.Proofs.Yteceiinehcjdjaa
open Go.ChangeShapes Go.WideShapes Go.ChangeAt Go.RowKit
open Go.ChangeMaps (open_string shut_string)

theorem fld34 (v : Value) (e : Int) (w : World) : (Instr.field 34 (.agg #[v, .int .i64 e]) 0).run Try.prog w = .ok v w := by rfl
set_option maxRecDepth 100000 in
set_option maxHeartbeats 4000000 in
theorem made_walk (a : Option Addr) (n cap : Nat) (b : Int) (w : World) (h : RU w a n) (h2 : 0 ≤ b ∧ b ≤ 255) (hn : n ≤ 9223372036854775807) :
    Calls Try.prog 4 #[.slice a n cap, .int .u8 b] w fun e w' => e = .returned (.bool true) ∧ Below w.heap.size w w' := by
  have AW := Hid.intro awake_any
  by_cases hbig : 140 < n
  · clear h
    go_enter Try.func4, Try.ntmps4
    go_wp2_with fail
    with_reducible refine (AW.out _).mono ?_
    rintro e w1 ⟨rfl, b1⟩
    go_wp2_with fail
    go_ret
    exact ⟨rfl, b1⟩
  · have CN := counts_any a n cap b w h h2 (by omega)
    clear h
    go_enter Try.func4, Try.ntmps4
    go_wp2_with fail
    with_reducible refine CN.mono ?_
    rintro e w1 ⟨v, K, M, rfl, sp, mm, o1, b1⟩
    clear CN
    obtain ⟨bl, cl, rfl⟩ := own_slice o1 (by omega)
    have HR : Hid (∀ W, Below w1.heap.size w1 W → RI W (some ⟨bl, 0, none⟩) 65 (M.map Int.ofNat)) := fun W hW => own_ri' (own_later (show w1.ownsRow w.heap.size 3 1 (.slice (some ⟨bl, 0, none⟩) 65 cl) 65 (ivs (M.map Int.ofNat)) from o1) hW)
    have e3 : (K : Int).toNat = K := by omega
    have e4 : (M.map Int.ofNat).map Int.toNat = M := by rw [List.map_map]; conv => rhs; rw [← List.map_id M]
                                                        exact List.map_congr_left (fun x _ => rfl)
    have sA := sprA_yes mm
    have tA := tabA_yes mm
    rw [e3, e4] at sA tA
    have l1 : (spr K M).length ≤ 4096 := by rw [sp.all]; exact pow_bd K sp.k12
    have l2 : (tab K M (spr K M) (2 ^ K)).length ≤ 4096 := by rw [tab_len]; exact pow_bd K sp.k12
    obtain ⟨SP, hSP⟩ : ∃ SP, spr K M = SP := ⟨_, rfl⟩
    obtain ⟨TB, hTB⟩ : ∃ TB, tab K M (spr K M) (2 ^ K) = TB := ⟨_, rfl⟩
    rw [hSP] at sA l1
    rw [hTB] at tA l2
    have C1 : Hid (∀ W, Below w1.heap.size w1 W → Calls Try.prog 9 #[.slice (some ⟨bl, 0, none⟩) 65 cl, .int .i64 (K : Int)] W fun e W' => SpPost (0, SP) W e W') := fun W hW => by have := spread_any (some ⟨bl, 0, none⟩) 65 cl _ (K : Int) W (HR.out W hW) (by omega); rw [sA] at this; exact this
    have C2 : Hid (∀ W, Below w1.heap.size w1 W → Calls Try.prog 10 #[.slice (some ⟨bl, 0, none⟩) 65 cl, .int .i64 (K : Int)] W fun e W' => RsPost (0, SP) W e W') := fun W hW => by have := rspread_any (some ⟨bl, 0, none⟩) 65 cl _ (K : Int) W (HR.out W hW) (by omega); rw [sA] at this; exact this
    have C3 : Hid (∀ W, Below w1.heap.size w1 W → Calls Try.prog 11 #[.slice (some ⟨bl, 0, none⟩) 65 cl, .int .i64 (K : Int)] W fun e W' => TbPost (0, TB) W e W') := fun W hW => by have := table_any (some ⟨bl, 0, none⟩) 65 cl _ (K : Int) W (HR.out W hW) (by omega); rw [tA] at this; exact this
    have C4 : Hid (∀ W, Below w1.heap.size w1 W → Calls Try.prog 12 #[.slice (some ⟨bl, 0, none⟩) 65 cl, .int .i64 (K : Int)] W fun e W' => RtPost (0, TB) W e W') := fun W hW => by have := rtable_any (some ⟨bl, 0, none⟩) 65 cl _ (K : Int) W (HR.out W hW) (by omega); rw [tA] at this; exact this
    have B1 := Hid.intro b1
    have L1 := Hid.intro l1
    have L2 := Hid.intro l2
    clear sp mm o1 b1 HR e3 e4 sA tA hSP hTB l1 l2
    go_wp2_with fail
    with_reducible refine (C1.out _ (Below.refl _ _)).mono ?_
    rintro e w2 ⟨v1, rfl, o1, b2⟩
    have o1' : w2.ownsRow w1.heap.size 3 1 v1 SP.length (ivs (SP.map Int.ofNat)) := o1
    obtain ⟨a1, c1, rfl, -, -, -⟩ := own_ri o1'
    have O1 := Hid.intro o1'
    have B2 := Hid.intro b2
    clear o1 o1' b2 C1
    simp only
    go_wp2_with fail
    with_reducible refine (C3.out _ B2.out).mono ?_
    rintro e w3 ⟨v3, rfl, o3, b3⟩
    have o3' : w3.ownsRow w2.heap.size 45 3 v3 TB.length (cvs TB) := o3
    obtain ⟨a3, c3, rfl, r3⟩ := own_rc o3'
    have B3 := Hid.intro (B2.out.trans (b3.mono B2.out.size))
    have O1 := Hid.intro (own_later O1.out b3)
    have O3 := Hid.intro r3
    clear o3 o3' r3 b3 C3 B2
    simp only
    go_wp2_with fail
    with_reducible refine (err_i _ _).mono ?_
    rintro e w9 ⟨rfl, hw9⟩
    cases hw9
    go_wp2_with fail
    with_reducible refine (err_i _ _).mono ?_
    rintro e w9 ⟨rfl, hw9⟩
    cases hw9
    go_wp2_with fail
    with_reducible refine (C2.out _ B3.out).mono ?_
    rintro e w4 ⟨v2, rfl, o2, b4⟩
    have o2' : w4.ownsRow w3.heap.size 3 1 v2 SP.length (ivs (SP.map Int.ofNat)) := o2
    obtain ⟨a2, c2, rfl, -, -, -⟩ := own_ri o2'
    have B4 := Hid.intro (B3.out.trans (b4.mono B3.out.size))
    have SI := sameI_any a1 a2 SP.length SP.length c1 c2 (SP.map Int.ofNat) (SP.map Int.ofNat) w4 (own_ri' (own_later O1.out b4)) (own_ri' o2') (by have := L1.out; omega) (by have := L1.out; omega)
    rw [decide_eq_true rfl] at SI
    have O3 := Hid.intro (rc_later O3.out b4)
    have fd := fld28 (.slice a2 SP.length c2) 0 w4
    clear o2 o2' b4 C2 B3 O1
    simp only
    go_wp2_with fail
    clear fd
    with_reducible refine SI.mono ?_
    rintro e w5 ⟨rfl, b5⟩
    have B5 := Hid.intro (B4.out.trans (b5.mono B4.out.size))
    have O3 := Hid.intro (rc_later O3.out b5)
    clear SI b5 B4
    go_wp2_with fail
    with_reducible refine (C4.out _ B5.out).mono ?_
    rintro e w6 ⟨v4, rfl, o4, b6⟩
    have o4' : w6.ownsRow w5.heap.size 45 3 v4 TB.length (cvs TB) := o4
    obtain ⟨a4, c4, rfl, r4⟩ := own_rc o4'
    have B6 := Hid.intro (B5.out.trans (b6.mono B5.out.size))
    have SC := samec_any a3 a4 TB.length c3 c4 TB w6 (rc_later O3.out b6) r4 (by have := L2.out; omega)
    have fd := fld34 (.slice a4 TB.length c4) 0 w6
    clear o4 o4' r4 b6 C4 B5 O3
    simp only
    go_wp2_with fail
    clear fd
    with_reducible refine SC.mono ?_
    rintro e w7 ⟨rfl, b7⟩
    have B7 := Hid.intro (B6.out.trans (b7.mono B6.out.size))
    clear SC b7 B6
    go_wp2_with fail
    with_reducible refine (AW.out _).mono ?_
    rintro e w8 ⟨rfl, b8⟩
    have B8 : Hid (Below w.heap.size w w8) := B1.out.trans ((B7.out.trans (b8.mono B7.out.size)).mono B1.out.size)
    clear b8
    go_wp2_with fail
    go_ret
    exact ⟨rfl, B8.out⟩
end Go.Proofs.Yteceiinehcjdjaa
