/-
  No parts are a state alone, whatever the counts.
-/
import Derived.Test.YtofclflcicjlaaaLwq
import Derived.Test.YtofclflcicjlaaaC2
import Derived.WalkKit
import Derived.ProofKit
import Derived.OpenShut
import Derived.Deep.QuietTactic
import Derived.Deep.RegionWith
import Derived.Deep.RegionHeld3
import Derived.OwnWalk
import Derived.ChangeOld
import Derived.Below
import Derived.BigQuiet
namespace Go.Proofs.Ytofclflcicjlaaa
open Go.ChangeShapes Go.WideShapes Go.ChangeAt Go.RowKit
open Go.ChangeMaps (open_string shut_string)
set_option linter.unusedVariables false
theorem toNatI (M : List Nat) : (M.map Int.ofNat).map Int.toNat = M := by
  rw [List.map_map]
  conv => rhs; rw [← List.map_id M]
  exact List.map_congr_left (fun x _ => rfl)
set_option maxRecDepth 100000 in
set_option maxHeartbeats 4000000 in
theorem empty_any (a : Option Addr) (len cap : Nat) (b n : Int) (w : World) (h : RU w a len) (hlen : len ≤ 9223372036854775807) (hb : 0 ≤ b ∧ b ≤ 255) (hn : 0 ≤ n ∧ n ≤ 255) :
    Calls Try.prog 6 #[.slice a len cap, .int .u8 b, .int .u8 n] w fun e w' => e = .returned (.bool true) ∧ Below w.heap.size w w' := by
  by_cases h140 : 140 < len
  · have AW := st_awake w
    clear h
    go_enter Try.func6, Try.ntmps6
    go_wp2_with fail
    with_reducible refine AW.mono ?_
    rintro e w1 ⟨rfl, h1⟩
    have H1 := Hid.intro h1
    clear AW h1
    go_wp2_with fail
    go_ret
    exact ⟨rfl, H1.out⟩
  · have CT := counts2_any a len cap b w h hb (by omega)
    obtain ⟨r, hr⟩ : ∃ r : Nat, n % 9 = (r : Int) := ⟨(n % 9).toNat, by omega⟩
    have hrt : n.tmod 9 = (r : Int) := by rw [Int.tmod_eq_emod_of_nonneg hn.1]; exact hr
    have hr9 : r < 9 := by omega
    have wn : IntKind.i64.wrap n = n := by rw [IntKind.wrap_i64]; omega
    have wr : IntKind.i64.wrap (r : Int) = (r : Int) := by rw [IntKind.wrap_i64]; omega
    clear h hb
    obtain ⟨hn0, hn1⟩ := hn
    go_enter Try.func6, Try.ntmps6
    go_wp2_with fail
    with_reducible refine CT.mono ?_
    rintro e w1 ⟨v, K, M, rfl, sp, hm, g2, o1, b1⟩
    clear CT
    obtain ⟨bv, cv, rfl⟩ := own_slice o1 (by omega)
    have ri1 : RI w1 (some ⟨bv, 0, none⟩) 65 (M.map Int.ofNat) := own_ri' o1
    have K7 := sp.k7
    have K12 := sp.k12
    have PS : putS (M.map Int.ofNat) K [] = (0, putB K M (spr K M) []) := by
      have := putS_yes (ps := []) hm (by rfl)
      rw [toNatI] at this
      exact this
    have PT := sput_any none 0 0 [] (some ⟨bv, 0, none⟩) 65 cv (M.map Int.ofNat) K w1 ⟨rfl, fun h => absurd h (by omega)⟩ (by simp) (by omega) (by omega) ri1 (by omega)
    rw [PS] at PT
    have pn := putB_none K M (spr K M) K7 K12
    have GS0 : getS (M.map Int.ofNat) K (putB K M (spr K M) []) ((0 : Nat) : Int) = (0, []) := by
      have := getS_back (f := M.map Int.ofNat) (z := K) (ps := []) (by simp) hm (by rfl) (by simp)
      rw [PS] at this
      exact this
    obtain ⟨S, hS⟩ : ∃ S, putB K M (spr K M) [] = S := ⟨_, rfl⟩
    have SL : S.length ≤ 3 := by rw [← hS, pn]; split <;> simp
    have GS1 : g M 2 ≠ 2 ^ K → (getS (M.map Int.ofNat) K S (((r + 1 : Nat)) : Int)).1 = 3 := fun h => by
      rw [getS_in hm _ _ (by omega), toNatI, ← hS]
      rw [show ((K : Int)).toNat = K from by simp, getB_none sp r (not_full sp g2 h)]
    rw [hS] at PT pn GS0
    have hsz : (bs S).size ≤ 20000 := by rw [size_bs]; omega
    have GT0 := fun W (hW : Below w1.heap.size w1 W) => sget_any (bs S) 0 (some ⟨bv, 0, none⟩) 65 cv (M.map Int.ofNat) K W hsz (ri_below ri1 hW) (by omega)
    have GT1 := fun W (hW : Below w1.heap.size w1 W) => sget_any (bs S) (((r + 1 : Nat)) : Int) (some ⟨bv, 0, none⟩) 65 cv (M.map Int.ofNat) K W hsz (ri_below ri1 hW) (by omega)
    simp only [bs_data] at GT0 GT1
    rw [show (0 : Int) = ((0 : Nat) : Int) from rfl, GS0] at GT0
    have O1 := Hid.intro o1
    have B1 := Hid.intro b1
    have HGT0 : Aside _ := GT0
    have HGT1 : Aside _ := GT1
    have HG1 : Aside _ := GS1
    have PN := Hid.intro pn
    clear sp hm g2 o1 b1 ri1 PS GS0 hS GT0 GT1 GS1 pn
    go_wp2_with fail
    with_reducible refine PT.mono ?_
    rintro e w2 ⟨rfl, b2⟩
    have G0 := HGT0.out w2 b2
    rw [show ((0 : Nat) : Int) = 0 from rfl] at G0
    have B2 := Hid.intro b2
    clear PT b2 HGT0
    go_wp2_with fail
    with_reducible refine G0.mono ?_
    rintro e w3 ⟨v3, rfl, o3, b3⟩
    obtain ⟨av, cv3, rfl, -, -, -⟩ := own_rp o3
    have B3 := Hid.intro (B2.out.trans (b3.mono B2.out.size))
    clear G0 o3 b3
    have cv2 := own_string (l := [1, 128]) (World.ownsRow_lit w3 #[.int .u8 1, .int .u8 128] 2 (Nat.zero_le _) (by decide) rfl)
    have bw3 : Below w1.heap.size w1 (w3.alloc (.cells #[.int .u8 1, .int .u8 128] 5)) := B3.out.alloc B3.out.size _
    obtain ⟨w4, hw4⟩ : ∃ w4, w3.alloc (.cells #[.int .u8 1, .int .u8 128] 5) = w4 := ⟨_, rfl⟩
    rw [hw4] at bw3
    have BW := Hid.intro bw3
    have HP : Aside (∀ (w5 : World), Below w1.heap.size w1 w5 → (w5.cell? ⟨bv, 2, none⟩ = some (.int .i64 (g M 2 : Nat)))) := fun w5 h5 => nis_at (own_later O1.out h5) 2 (by omega)
    clear bw3 B3
    obtain h | h | h | h | h | h : K = 7 ∨ K = 8 ∨ K = 9 ∨ K = 10 ∨ K = 11 ∨ K = 12 := by omega
    all_goals
      subst h
      have pn := PN.out
      simp at pn
      subst pn
    · have G1 := HGT1.out w4 BW.out
      rw [hw4] at cv2
      rw [show (((r + 1 : Nat)) : Int) = (r : Int) + 1 from by omega] at G1 HG1
      have wr1 : (1 : Int) + (r : Int) = (r : Int) + 1 := by omega
      obtain ⟨G, hG⟩ : ∃ G, getS (List.map Int.ofNat M) ((7 : Nat) : Int) [1, 128] ((r : Int) + 1) = G := ⟨_, rfl⟩
      rw [hG] at G1 HG1
      rw [show ((7 : Nat) : Int) = 7 from rfl] at G1
      have HG := HG1.out
      obtain ⟨m2, hm2⟩ : ∃ m2, g M 2 = m2 := ⟨_, rfl⟩
      rw [hm2] at HP HG
      obtain ⟨E, hE⟩ : ∃ E, G.1 = E := ⟨_, rfl⟩
      unfold SgPost at G1
      rw [hE] at G1 HG
      have DEC : (m2 = 128 ∧ ((m2 : Int) == 128) = true) ∨ (E = 3 ∧ ((m2 : Int) == 128) = false) := by
        by_cases hx : m2 = 128
        · exact .inl ⟨hx, by simp [hx]⟩
        · exact .inr ⟨HG hx, by simp; omega⟩
      clear HGT1 HG1 hG HG hm2 hE
      go_wp2_with fail
      with_reducible refine G1.mono ?_
      rintro e w6 ⟨v6, rfl, o6, b6⟩
      obtain ⟨av6, cv6, rfl, -, -, -⟩ := own_rp o6
      have c2 := HP.out w6 (BW.out.trans (b6.mono (BW.out).size))
      have B6 := Hid.intro (B1.out.trans ((BW.out.trans (b6.mono (BW.out).size)).mono B1.out.size))
      clear G1 o6 b6
      rcases DEC with ⟨hx, s1⟩ | ⟨hx, s1⟩
      · by_cases h3 : E = 3
        · have e3 : ((E : Int) == 3) = true := by simp; omega
          clear h3
          go_wp2_with fail
          go_quiet (fail)
          have B7 := Hid.intro (below_drewN B6.out nq)
          generalize w6.drewN nq = w7 at *
          go_wp2_with (first | (go_at_call 14; with_reducible refine (err_i _ _).mono ?_; rintro e w' ⟨rfl, rfl⟩) | (go_at_call 7; with_reducible refine (st_awake _).mono ?_; rintro e w8 ⟨rfl, h8⟩))
          go_ret
          exact ⟨rfl, B7.out.trans (h8.mono B7.out.size)⟩
        · have e3 : ((E : Int) == 3) = false := by simp; omega
          clear h3
          go_wp2_with fail
          go_quiet (fail)
          have B7 := Hid.intro (below_drewN B6.out nq)
          generalize w6.drewN nq = w7 at *
          go_wp2_with (first | (go_at_call 14; with_reducible refine (err_i _ _).mono ?_; rintro e w' ⟨rfl, rfl⟩) | (go_at_call 7; with_reducible refine (st_awake _).mono ?_; rintro e w8 ⟨rfl, h8⟩))
          go_ret
          exact ⟨rfl, B7.out.trans (h8.mono B7.out.size)⟩
      · subst hx
        go_wp2_with fail
        go_quiet (fail)
        have B7 := Hid.intro (below_drewN B6.out nq)
        generalize w6.drewN nq = w7 at *
        go_wp2_with (first | (go_at_call 14; with_reducible refine (err_i _ _).mono ?_; rintro e w' ⟨rfl, rfl⟩) | (go_at_call 7; with_reducible refine (st_awake _).mono ?_; rintro e w8 ⟨rfl, h8⟩))
        go_ret
        exact ⟨rfl, B7.out.trans (h8.mono B7.out.size)⟩
    · have cv3 := own_string (l := [2, 0, 1]) (World.ownsRow_lit w4 #[.int .u8 2, .int .u8 0, .int .u8 1] 3 (Nat.zero_le _) (by decide) rfl)
      have bw5 : Below w1.heap.size w1 (w4.alloc (.cells #[.int .u8 2, .int .u8 0, .int .u8 1] 5)) := BW.out.alloc BW.out.size _
      obtain ⟨w5, hw5⟩ : ∃ w5, w4.alloc (.cells #[.int .u8 2, .int .u8 0, .int .u8 1] 5) = w5 := ⟨_, rfl⟩
      rw [hw5] at bw5 cv3
      have G1 := HGT1.out w5 bw5
      rw [hw4] at cv2
      rw [show (((r + 1 : Nat)) : Int) = (r : Int) + 1 from by omega] at G1 HG1
      have wr1 : (1 : Int) + (r : Int) = (r : Int) + 1 := by omega
      obtain ⟨G, hG⟩ : ∃ G, getS (List.map Int.ofNat M) ((8 : Nat) : Int) [2, 0, 1] ((r : Int) + 1) = G := ⟨_, rfl⟩
      rw [hG] at G1 HG1
      rw [show ((8 : Nat) : Int) = 8 from rfl] at G1
      have HG := HG1.out
      obtain ⟨m2, hm2⟩ : ∃ m2, g M 2 = m2 := ⟨_, rfl⟩
      rw [hm2] at HP HG
      obtain ⟨E, hE⟩ : ∃ E, G.1 = E := ⟨_, rfl⟩
      unfold SgPost at G1
      rw [hE] at G1 HG
      have DEC : (m2 = 256 ∧ ((m2 : Int) == 256) = true) ∨ (E = 3 ∧ ((m2 : Int) == 256) = false) := by
        by_cases hx : m2 = 256
        · exact .inl ⟨hx, by simp [hx]⟩
        · exact .inr ⟨HG hx, by simp; omega⟩
      clear HGT1 HG1 hG HG hm2 hE
      go_wp2_with fail
      with_reducible refine G1.mono ?_
      rintro e w6 ⟨v6, rfl, o6, b6⟩
      obtain ⟨av6, cv6, rfl, -, -, -⟩ := own_rp o6
      have c2 := HP.out w6 (bw5.trans (b6.mono (bw5).size))
      have B6 := Hid.intro (B1.out.trans ((bw5.trans (b6.mono (bw5).size)).mono B1.out.size))
      clear G1 o6 b6
      rcases DEC with ⟨hx, s1⟩ | ⟨hx, s1⟩
      · by_cases h3 : E = 3
        · have e3 : ((E : Int) == 3) = true := by simp; omega
          clear h3
          go_wp2_with fail
          go_quiet (fail)
          have B7 := Hid.intro (below_drewN B6.out nq)
          generalize w6.drewN nq = w7 at *
          go_wp2_with (first | (go_at_call 14; with_reducible refine (err_i _ _).mono ?_; rintro e w' ⟨rfl, rfl⟩) | (go_at_call 7; with_reducible refine (st_awake _).mono ?_; rintro e w8 ⟨rfl, h8⟩))
          go_ret
          exact ⟨rfl, B7.out.trans (h8.mono B7.out.size)⟩
        · have e3 : ((E : Int) == 3) = false := by simp; omega
          clear h3
          go_wp2_with fail
          go_quiet (fail)
          have B7 := Hid.intro (below_drewN B6.out nq)
          generalize w6.drewN nq = w7 at *
          go_wp2_with (first | (go_at_call 14; with_reducible refine (err_i _ _).mono ?_; rintro e w' ⟨rfl, rfl⟩) | (go_at_call 7; with_reducible refine (st_awake _).mono ?_; rintro e w8 ⟨rfl, h8⟩))
          go_ret
          exact ⟨rfl, B7.out.trans (h8.mono B7.out.size)⟩
      · subst hx
        go_wp2_with fail
        go_quiet (fail)
        have B7 := Hid.intro (below_drewN B6.out nq)
        generalize w6.drewN nq = w7 at *
        go_wp2_with (first | (go_at_call 14; with_reducible refine (err_i _ _).mono ?_; rintro e w' ⟨rfl, rfl⟩) | (go_at_call 7; with_reducible refine (st_awake _).mono ?_; rintro e w8 ⟨rfl, h8⟩))
        go_ret
        exact ⟨rfl, B7.out.trans (h8.mono B7.out.size)⟩
    · have cv3 := own_string (l := [2, 0, 2]) (World.ownsRow_lit w4 #[.int .u8 2, .int .u8 0, .int .u8 2] 3 (Nat.zero_le _) (by decide) rfl)
      have bw5 : Below w1.heap.size w1 (w4.alloc (.cells #[.int .u8 2, .int .u8 0, .int .u8 2] 5)) := BW.out.alloc BW.out.size _
      obtain ⟨w5, hw5⟩ : ∃ w5, w4.alloc (.cells #[.int .u8 2, .int .u8 0, .int .u8 2] 5) = w5 := ⟨_, rfl⟩
      rw [hw5] at bw5 cv3
      have G1 := HGT1.out w5 bw5
      rw [hw4] at cv2
      rw [show (((r + 1 : Nat)) : Int) = (r : Int) + 1 from by omega] at G1 HG1
      have wr1 : (1 : Int) + (r : Int) = (r : Int) + 1 := by omega
      obtain ⟨G, hG⟩ : ∃ G, getS (List.map Int.ofNat M) ((9 : Nat) : Int) [2, 0, 2] ((r : Int) + 1) = G := ⟨_, rfl⟩
      rw [hG] at G1 HG1
      rw [show ((9 : Nat) : Int) = 9 from rfl] at G1
      have HG := HG1.out
      obtain ⟨m2, hm2⟩ : ∃ m2, g M 2 = m2 := ⟨_, rfl⟩
      rw [hm2] at HP HG
      obtain ⟨E, hE⟩ : ∃ E, G.1 = E := ⟨_, rfl⟩
      unfold SgPost at G1
      rw [hE] at G1 HG
      have DEC : (m2 = 512 ∧ ((m2 : Int) == 512) = true) ∨ (E = 3 ∧ ((m2 : Int) == 512) = false) := by
        by_cases hx : m2 = 512
        · exact .inl ⟨hx, by simp [hx]⟩
        · exact .inr ⟨HG hx, by simp; omega⟩
      clear HGT1 HG1 hG HG hm2 hE
      go_wp2_with fail
      with_reducible refine G1.mono ?_
      rintro e w6 ⟨v6, rfl, o6, b6⟩
      obtain ⟨av6, cv6, rfl, -, -, -⟩ := own_rp o6
      have c2 := HP.out w6 (bw5.trans (b6.mono (bw5).size))
      have B6 := Hid.intro (B1.out.trans ((bw5.trans (b6.mono (bw5).size)).mono B1.out.size))
      clear G1 o6 b6
      rcases DEC with ⟨hx, s1⟩ | ⟨hx, s1⟩
      · by_cases h3 : E = 3
        · have e3 : ((E : Int) == 3) = true := by simp; omega
          clear h3
          go_wp2_with fail
          go_quiet (fail)
          have B7 := Hid.intro (below_drewN B6.out nq)
          generalize w6.drewN nq = w7 at *
          go_wp2_with (first | (go_at_call 14; with_reducible refine (err_i _ _).mono ?_; rintro e w' ⟨rfl, rfl⟩) | (go_at_call 7; with_reducible refine (st_awake _).mono ?_; rintro e w8 ⟨rfl, h8⟩))
          go_ret
          exact ⟨rfl, B7.out.trans (h8.mono B7.out.size)⟩
        · have e3 : ((E : Int) == 3) = false := by simp; omega
          clear h3
          go_wp2_with fail
          go_quiet (fail)
          have B7 := Hid.intro (below_drewN B6.out nq)
          generalize w6.drewN nq = w7 at *
          go_wp2_with (first | (go_at_call 14; with_reducible refine (err_i _ _).mono ?_; rintro e w' ⟨rfl, rfl⟩) | (go_at_call 7; with_reducible refine (st_awake _).mono ?_; rintro e w8 ⟨rfl, h8⟩))
          go_ret
          exact ⟨rfl, B7.out.trans (h8.mono B7.out.size)⟩
      · subst hx
        go_wp2_with fail
        go_quiet (fail)
        have B7 := Hid.intro (below_drewN B6.out nq)
        generalize w6.drewN nq = w7 at *
        go_wp2_with (first | (go_at_call 14; with_reducible refine (err_i _ _).mono ?_; rintro e w' ⟨rfl, rfl⟩) | (go_at_call 7; with_reducible refine (st_awake _).mono ?_; rintro e w8 ⟨rfl, h8⟩))
        go_ret
        exact ⟨rfl, B7.out.trans (h8.mono B7.out.size)⟩
    · have cv3 := own_string (l := [2, 0, 4]) (World.ownsRow_lit w4 #[.int .u8 2, .int .u8 0, .int .u8 4] 3 (Nat.zero_le _) (by decide) rfl)
      have bw5 : Below w1.heap.size w1 (w4.alloc (.cells #[.int .u8 2, .int .u8 0, .int .u8 4] 5)) := BW.out.alloc BW.out.size _
      obtain ⟨w5, hw5⟩ : ∃ w5, w4.alloc (.cells #[.int .u8 2, .int .u8 0, .int .u8 4] 5) = w5 := ⟨_, rfl⟩
      rw [hw5] at bw5 cv3
      have G1 := HGT1.out w5 bw5
      rw [hw4] at cv2
      rw [show (((r + 1 : Nat)) : Int) = (r : Int) + 1 from by omega] at G1 HG1
      have wr1 : (1 : Int) + (r : Int) = (r : Int) + 1 := by omega
      obtain ⟨G, hG⟩ : ∃ G, getS (List.map Int.ofNat M) ((10 : Nat) : Int) [2, 0, 4] ((r : Int) + 1) = G := ⟨_, rfl⟩
      rw [hG] at G1 HG1
      rw [show ((10 : Nat) : Int) = 10 from rfl] at G1
      have HG := HG1.out
      obtain ⟨m2, hm2⟩ : ∃ m2, g M 2 = m2 := ⟨_, rfl⟩
      rw [hm2] at HP HG
      obtain ⟨E, hE⟩ : ∃ E, G.1 = E := ⟨_, rfl⟩
      unfold SgPost at G1
      rw [hE] at G1 HG
      have DEC : (m2 = 1024 ∧ ((m2 : Int) == 1024) = true) ∨ (E = 3 ∧ ((m2 : Int) == 1024) = false) := by
        by_cases hx : m2 = 1024
        · exact .inl ⟨hx, by simp [hx]⟩
        · exact .inr ⟨HG hx, by simp; omega⟩
      clear HGT1 HG1 hG HG hm2 hE
      go_wp2_with fail
      with_reducible refine G1.mono ?_
      rintro e w6 ⟨v6, rfl, o6, b6⟩
      obtain ⟨av6, cv6, rfl, -, -, -⟩ := own_rp o6
      have c2 := HP.out w6 (bw5.trans (b6.mono (bw5).size))
      have B6 := Hid.intro (B1.out.trans ((bw5.trans (b6.mono (bw5).size)).mono B1.out.size))
      clear G1 o6 b6
      rcases DEC with ⟨hx, s1⟩ | ⟨hx, s1⟩
      · by_cases h3 : E = 3
        · have e3 : ((E : Int) == 3) = true := by simp; omega
          clear h3
          go_wp2_with fail
          go_quiet (fail)
          have B7 := Hid.intro (below_drewN B6.out nq)
          generalize w6.drewN nq = w7 at *
          go_wp2_with (first | (go_at_call 14; with_reducible refine (err_i _ _).mono ?_; rintro e w' ⟨rfl, rfl⟩) | (go_at_call 7; with_reducible refine (st_awake _).mono ?_; rintro e w8 ⟨rfl, h8⟩))
          go_ret
          exact ⟨rfl, B7.out.trans (h8.mono B7.out.size)⟩
        · have e3 : ((E : Int) == 3) = false := by simp; omega
          clear h3
          go_wp2_with fail
          go_quiet (fail)
          have B7 := Hid.intro (below_drewN B6.out nq)
          generalize w6.drewN nq = w7 at *
          go_wp2_with (first | (go_at_call 14; with_reducible refine (err_i _ _).mono ?_; rintro e w' ⟨rfl, rfl⟩) | (go_at_call 7; with_reducible refine (st_awake _).mono ?_; rintro e w8 ⟨rfl, h8⟩))
          go_ret
          exact ⟨rfl, B7.out.trans (h8.mono B7.out.size)⟩
      · subst hx
        go_wp2_with fail
        go_quiet (fail)
        have B7 := Hid.intro (below_drewN B6.out nq)
        generalize w6.drewN nq = w7 at *
        go_wp2_with (first | (go_at_call 14; with_reducible refine (err_i _ _).mono ?_; rintro e w' ⟨rfl, rfl⟩) | (go_at_call 7; with_reducible refine (st_awake _).mono ?_; rintro e w8 ⟨rfl, h8⟩))
        go_ret
        exact ⟨rfl, B7.out.trans (h8.mono B7.out.size)⟩
    · have cv3 := own_string (l := [2, 0, 8]) (World.ownsRow_lit w4 #[.int .u8 2, .int .u8 0, .int .u8 8] 3 (Nat.zero_le _) (by decide) rfl)
      have bw5 : Below w1.heap.size w1 (w4.alloc (.cells #[.int .u8 2, .int .u8 0, .int .u8 8] 5)) := BW.out.alloc BW.out.size _
      obtain ⟨w5, hw5⟩ : ∃ w5, w4.alloc (.cells #[.int .u8 2, .int .u8 0, .int .u8 8] 5) = w5 := ⟨_, rfl⟩
      rw [hw5] at bw5 cv3
      have G1 := HGT1.out w5 bw5
      rw [hw4] at cv2
      rw [show (((r + 1 : Nat)) : Int) = (r : Int) + 1 from by omega] at G1 HG1
      have wr1 : (1 : Int) + (r : Int) = (r : Int) + 1 := by omega
      obtain ⟨G, hG⟩ : ∃ G, getS (List.map Int.ofNat M) ((11 : Nat) : Int) [2, 0, 8] ((r : Int) + 1) = G := ⟨_, rfl⟩
      rw [hG] at G1 HG1
      rw [show ((11 : Nat) : Int) = 11 from rfl] at G1
      have HG := HG1.out
      obtain ⟨m2, hm2⟩ : ∃ m2, g M 2 = m2 := ⟨_, rfl⟩
      rw [hm2] at HP HG
      obtain ⟨E, hE⟩ : ∃ E, G.1 = E := ⟨_, rfl⟩
      unfold SgPost at G1
      rw [hE] at G1 HG
      have DEC : (m2 = 2048 ∧ ((m2 : Int) == 2048) = true) ∨ (E = 3 ∧ ((m2 : Int) == 2048) = false) := by
        by_cases hx : m2 = 2048
        · exact .inl ⟨hx, by simp [hx]⟩
        · exact .inr ⟨HG hx, by simp; omega⟩
      clear HGT1 HG1 hG HG hm2 hE
      go_wp2_with fail
      with_reducible refine G1.mono ?_
      rintro e w6 ⟨v6, rfl, o6, b6⟩
      obtain ⟨av6, cv6, rfl, -, -, -⟩ := own_rp o6
      have c2 := HP.out w6 (bw5.trans (b6.mono (bw5).size))
      have B6 := Hid.intro (B1.out.trans ((bw5.trans (b6.mono (bw5).size)).mono B1.out.size))
      clear G1 o6 b6
      rcases DEC with ⟨hx, s1⟩ | ⟨hx, s1⟩
      · by_cases h3 : E = 3
        · have e3 : ((E : Int) == 3) = true := by simp; omega
          clear h3
          go_wp2_with fail
          go_quiet (fail)
          have B7 := Hid.intro (below_drewN B6.out nq)
          generalize w6.drewN nq = w7 at *
          go_wp2_with (first | (go_at_call 14; with_reducible refine (err_i _ _).mono ?_; rintro e w' ⟨rfl, rfl⟩) | (go_at_call 7; with_reducible refine (st_awake _).mono ?_; rintro e w8 ⟨rfl, h8⟩))
          go_ret
          exact ⟨rfl, B7.out.trans (h8.mono B7.out.size)⟩
        · have e3 : ((E : Int) == 3) = false := by simp; omega
          clear h3
          go_wp2_with fail
          go_quiet (fail)
          have B7 := Hid.intro (below_drewN B6.out nq)
          generalize w6.drewN nq = w7 at *
          go_wp2_with (first | (go_at_call 14; with_reducible refine (err_i _ _).mono ?_; rintro e w' ⟨rfl, rfl⟩) | (go_at_call 7; with_reducible refine (st_awake _).mono ?_; rintro e w8 ⟨rfl, h8⟩))
          go_ret
          exact ⟨rfl, B7.out.trans (h8.mono B7.out.size)⟩
      · subst hx
        go_wp2_with fail
        go_quiet (fail)
        have B7 := Hid.intro (below_drewN B6.out nq)
        generalize w6.drewN nq = w7 at *
        go_wp2_with (first | (go_at_call 14; with_reducible refine (err_i _ _).mono ?_; rintro e w' ⟨rfl, rfl⟩) | (go_at_call 7; with_reducible refine (st_awake _).mono ?_; rintro e w8 ⟨rfl, h8⟩))
        go_ret
        exact ⟨rfl, B7.out.trans (h8.mono B7.out.size)⟩
    · have cv3 := own_string (l := [2, 0, 16]) (World.ownsRow_lit w4 #[.int .u8 2, .int .u8 0, .int .u8 16] 3 (Nat.zero_le _) (by decide) rfl)
      have bw5 : Below w1.heap.size w1 (w4.alloc (.cells #[.int .u8 2, .int .u8 0, .int .u8 16] 5)) := BW.out.alloc BW.out.size _
      obtain ⟨w5, hw5⟩ : ∃ w5, w4.alloc (.cells #[.int .u8 2, .int .u8 0, .int .u8 16] 5) = w5 := ⟨_, rfl⟩
      rw [hw5] at bw5 cv3
      have G1 := HGT1.out w5 bw5
      rw [hw4] at cv2
      rw [show (((r + 1 : Nat)) : Int) = (r : Int) + 1 from by omega] at G1 HG1
      have wr1 : (1 : Int) + (r : Int) = (r : Int) + 1 := by omega
      obtain ⟨G, hG⟩ : ∃ G, getS (List.map Int.ofNat M) ((12 : Nat) : Int) [2, 0, 16] ((r : Int) + 1) = G := ⟨_, rfl⟩
      rw [hG] at G1 HG1
      rw [show ((12 : Nat) : Int) = 12 from rfl] at G1
      have HG := HG1.out
      obtain ⟨m2, hm2⟩ : ∃ m2, g M 2 = m2 := ⟨_, rfl⟩
      rw [hm2] at HP HG
      obtain ⟨E, hE⟩ : ∃ E, G.1 = E := ⟨_, rfl⟩
      unfold SgPost at G1
      rw [hE] at G1 HG
      have DEC : (m2 = 4096 ∧ ((m2 : Int) == 4096) = true) ∨ (E = 3 ∧ ((m2 : Int) == 4096) = false) := by
        by_cases hx : m2 = 4096
        · exact .inl ⟨hx, by simp [hx]⟩
        · exact .inr ⟨HG hx, by simp; omega⟩
      clear HGT1 HG1 hG HG hm2 hE
      go_wp2_with fail
      with_reducible refine G1.mono ?_
      rintro e w6 ⟨v6, rfl, o6, b6⟩
      obtain ⟨av6, cv6, rfl, -, -, -⟩ := own_rp o6
      have c2 := HP.out w6 (bw5.trans (b6.mono (bw5).size))
      have B6 := Hid.intro (B1.out.trans ((bw5.trans (b6.mono (bw5).size)).mono B1.out.size))
      clear G1 o6 b6
      rcases DEC with ⟨hx, s1⟩ | ⟨hx, s1⟩
      · by_cases h3 : E = 3
        · have e3 : ((E : Int) == 3) = true := by simp; omega
          clear h3
          go_wp2_with fail
          go_quiet (fail)
          have B7 := Hid.intro (below_drewN B6.out nq)
          generalize w6.drewN nq = w7 at *
          go_wp2_with (first | (go_at_call 14; with_reducible refine (err_i _ _).mono ?_; rintro e w' ⟨rfl, rfl⟩) | (go_at_call 7; with_reducible refine (st_awake _).mono ?_; rintro e w8 ⟨rfl, h8⟩))
          go_ret
          exact ⟨rfl, B7.out.trans (h8.mono B7.out.size)⟩
        · have e3 : ((E : Int) == 3) = false := by simp; omega
          clear h3
          go_wp2_with fail
          go_quiet (fail)
          have B7 := Hid.intro (below_drewN B6.out nq)
          generalize w6.drewN nq = w7 at *
          go_wp2_with (first | (go_at_call 14; with_reducible refine (err_i _ _).mono ?_; rintro e w' ⟨rfl, rfl⟩) | (go_at_call 7; with_reducible refine (st_awake _).mono ?_; rintro e w8 ⟨rfl, h8⟩))
          go_ret
          exact ⟨rfl, B7.out.trans (h8.mono B7.out.size)⟩
      · subst hx
        go_wp2_with fail
        go_quiet (fail)
        have B7 := Hid.intro (below_drewN B6.out nq)
        generalize w6.drewN nq = w7 at *
        go_wp2_with (first | (go_at_call 14; with_reducible refine (err_i _ _).mono ?_; rintro e w' ⟨rfl, rfl⟩) | (go_at_call 7; with_reducible refine (st_awake _).mono ?_; rintro e w8 ⟨rfl, h8⟩))
        go_ret
        exact ⟨rfl, B7.out.trans (h8.mono B7.out.size)⟩
end Go.Proofs.Ytofclflcicjlaaa
