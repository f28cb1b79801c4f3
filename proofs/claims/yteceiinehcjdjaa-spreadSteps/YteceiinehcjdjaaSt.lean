/-
  SpreadSteps: the walk.
-/
import Derived.Test.YteceiinehcjdjaaTt
import Derived.Test.YteceiinehcjdjaaAw
import Derived.Test.YteceiinehcjdjaaCn
import Derived.Deep.QuietTactic
import Derived.Deep.RegionWith
import Derived.Deep.RegionHeld3
import Derived.OwnWalk
import Derived.ChangeOld
import Derived.Below
import Derived.BigQuiet
namespace Go.Proofs.Yteceiinehcjdjaa
open Go.ChangeShapes Go.WideShapes Go.ChangeAt Go.RowKit
open Go.ChangeMaps (open_string shut_string)

/-- Where the walk through the list of classes stands. -/
def StS (M : List Nat) (i c r : Nat) : Prop := c < 65 ∧ (cls 0 M).drop i = List.replicate r c ++ cls (c + 1) (M.drop (c + 1))
theorem st_zero {K : Nat} {M cs : List Nat} (h : Spd K M cs) : StS M 0 0 (g M 0) := by
  refine ⟨by omega, ?_⟩
  have := cls_drop M 0 (by rw [h.len]; omega)
  simpa using this
theorem st_next {K i c : Nat} {M cs : List Nat} (h : Spd K M cs) (hs : StS M i c 0) (hi : i < 2 ^ K) : c + 1 < 65 ∧ StS M i (c + 1) (g M (c + 1)) := by
  obtain ⟨h1, h2⟩ := hs
  simp only [List.replicate_zero, List.nil_append] at h2
  have hl := congrArg List.length h2
  rw [List.length_drop, cls_len, h.sum] at hl
  have hc : c + 1 < 65 := by
    rcases Nat.lt_or_ge (c + 1) 65 with e | e
    · exact e
    · exfalso
      rw [List.drop_of_length_le (by rw [h.len]; exact e)] at hl
      simp [cls] at hl; omega
  refine ⟨hc, hc, ?_⟩
  rw [h2, cls_drop M (c + 1) (by rw [h.len]; exact hc)]
theorem st_step {i c r : Nat} {M : List Nat} (hs : StS M i c (r + 1)) : g (cls 0 M) i = c ∧ StS M (i + 1) c r := by
  obtain ⟨h1, h2⟩ := hs
  rw [List.replicate_succ, List.cons_append] at h2
  have h0 : (cls 0 M)[i]? = some c := by
    have := congrArg (fun l => l[0]?) h2
    simpa using this
  refine ⟨by unfold g; rw [List.getD_eq_getElem?_getD, h0]; rfl, h1, ?_⟩
  have := congrArg (List.drop 1) h2
  rw [List.drop_drop] at this
  simpa using this
theorem spr_place {K i : Nat} {M cs : List Nat} (h : Spd K M cs) (hi : i < 2 ^ K) : g (spr K M) (plc K i) = g (cls 0 M) i := fill_place K h.k7 h.k12 (cls 0 M) i hi
def StRel (M : List Nat) (K : Nat) (w : World) (av cv lv iv : Value) (wr : World) : Prop :=
  ∃ i c r : Nat, i ≤ 2 ^ K ∧ iv = .int .i64 i ∧ av = .int .i64 (plc K i : Nat) ∧ cv = .int .i64 c ∧ lv = .int .i64 r ∧ r ≤ 4096 ∧ StS M i c r ∧ Below w.heap.size w wr
def StRel2 (M : List Nat) (i : Nat) (w : World) (cv lv : Value) (wr : World) : Prop :=
  ∃ c r : Nat, cv = .int .i64 c ∧ lv = .int .i64 r ∧ r ≤ 4096 ∧ StS M i c r ∧ Below w.heap.size w wr
set_option maxRecDepth 100000 in
set_option maxHeartbeats 4000000 in
theorem steps_walk (a : Option Addr) (n cap : Nat) (b : Int) (w : World) (h : RU w a n) (h2 : 0 ≤ b ∧ b ≤ 255) (hn : n ≤ 9223372036854775807) :
    Calls Try.prog 7 #[.slice a n cap, .int .u8 b] w fun e w' => e = .returned (.bool true) ∧ Below w.heap.size w w' := by
  have AW := Hid.intro awake_any
  by_cases hbig : 140 < n
  · clear h
    go_enter Try.func7, Try.ntmps7
    go_wp2_with fail
    with_reducible refine (AW.out _).mono ?_
    rintro e w1 ⟨rfl, b1⟩
    go_wp2_with fail
    go_ret
    exact ⟨rfl, b1⟩
  · have CN := counts_any a n cap b w h h2 (by omega)
    clear h
    go_enter Try.func7, Try.ntmps7
    go_wp2_with fail
    with_reducible refine CN.mono ?_
    rintro e w1 ⟨v, K, M, rfl, sp, mm, o1, b1⟩
    clear CN
    obtain ⟨bl, cl, rfl⟩ := own_slice o1 (by omega)
    have e3 : (K : Int).toNat = K := by omega
    have e4 : (M.map Int.ofNat).map Int.toNat = M := by rw [List.map_map]; conv => rhs; rw [← List.map_id M]
                                                        exact List.map_congr_left (fun x _ => rfl)
    have sA := sprA_yes mm
    rw [e3, e4] at sA
    have C1 := spread_any (some ⟨bl, 0, none⟩) 65 cl (M.map Int.ofNat) (K : Int) w1 (own_ri' o1) (by omega)
    rw [sA] at C1
    obtain ⟨s, hs2, hs8, es, e2, e8, eS, sl, su, u2, u8⟩ := stp_eq K sp.k7 sp.k12
    have O1 := Hid.intro o1
    have B1 := Hid.intro b1
    have HSP := Hid.intro sp
    have K12 := sp.k12
    have sk : (2 : Int) ^ K = (s : Int) := by rw [← es, Int.natCast_pow]; rfl
    have wk : IntKind.i64.wrap (s : Int) = (s : Int) := by rw [IntKind.wrap_i64]; omega
    clear sp mm o1 b1 e3 e4 sA
    go_wp2_with fail
    with_reducible refine C1.mono ?_
    rintro e w2 ⟨v1, rfl, o2, b2⟩
    simp only at o2
    rw [HSP.out.all, es] at o2
    obtain ⟨bs', cs', rfl⟩ := own_slice o2 (by omega)
    have B2 := Hid.intro (B1.out.trans (b2.mono B1.out.size))
    have O1 := Hid.intro (own_later O1.out b2)
    have O2 := Hid.intro o2
    clear o2 b2 C1 B1
    go_wp2_with fail
    with_reducible refine (err_i _ _).mono ?_
    rintro e w9 ⟨rfl, hw9⟩
    cases hw9
    have tn : ((s : Int) != (s : Int)) = false := by simp
    have c0 := nis_at O1.out 0 (by omega)
    have GB : ∀ c, g M c ≤ 4096 := fun c => by have := spd_le HSP.out c; rw [es] at this; omega
    have GB0 := GB 0
    have ST : Hid (StRel M K w2 (.int .i64 0) (.int .i64 0) (.int .i64 (g M 0 : Nat)) (.int .i64 0) w2) := ⟨0, 0, g M 0, Nat.zero_le _, rfl, by simp [plc], rfl, rfl, GB0, st_zero HSP.out, Below.refl _ _⟩
    have HG := Hid.intro GB
    clear GB
    generalize g M 0 = g0 at *
    go_wp2_with fail
    go_quiet (fail)
    have ST3 : Hid (StRel M K w2 (.int .i64 0) (.int .i64 0) (.int .i64 (g0 : Nat)) (.int .i64 0) (w2.drewN nq)) := by
      obtain ⟨i, c, r, q1, q2, q3, q4, q5, q6, q7, q8⟩ := ST.out
      exact ⟨i, c, r, q1, q2, q3, q4, q5, q6, q7, below_drewN q8 _⟩
    generalize w2.drewN nq = w3 at *
    clear ST c0
    go_wp2_with fail
    have h140 : decide ((140 : Int) < (n : Int)) = false := by simp; omega
    simp only [h140]
    clear h140
    have ES := Hid.intro es
    have ESt := Hid.intro eS
    clear es eS
    go_loopw [10, 11, 12, 13] (fun av cv lv iv wr => StRel M K w2 av cv lv iv wr) (fun _ _ _ iv _ => s - (intOf iv).toNat)
    case atStart => exact ST3.out
    case round =>
      clear ST3
      obtain ⟨i, c, r, hi, rfl, rfl, rfl, rfl, hr, d1, d2⟩ := hrel
      rw [ES.out] at hi
      by_cases hlt : i < s
      · have ST4 : Hid (StRel2 M i w2 (.int .i64 c) (.int .i64 r) wr) := ⟨c, r, rfl, rfl, hr, d1, d2⟩
        clear d1 d2
        go_wp2_with fail
        have hd : decide ((i : Int) < (s : Int)) = true := by simp; omega
        try simp only [hd]
        clear hd
        go_loopw [11, 12] (fun cv lv wr => StRel2 M i w2 cv lv wr) (fun cv _ _ => 65 - (intOf cv).toNat)
        case atStart => exact ST4.out
        case round =>
          clear ST4 hr
          obtain ⟨c, r, rfl, rfl, hr, d1, d2⟩ := hrel
          by_cases h0 : r = 0
          · subst h0
            obtain ⟨c65, d3⟩ := st_next HSP.out d1 (by rw [ES.out]; exact hlt)
            have GB := HG.out (c + 1)
            have cc := nis_at (own_later O1.out d2) (c + 1) c65
            obtain ⟨c1, hc1⟩ : ∃ c1 : Nat, (c : Int) + 1 = (c1 : Int) := ⟨c + 1, by omega⟩
            obtain rfl : c1 = c + 1 := by omega
            have cI : ((c + 1 : Nat) : Int) < 65 := by omega
            have c0 : (0 : Int) ≤ ((c + 1 : Nat) : Int) := by omega
            have D3 := Hid.intro d3
            have D2 := Hid.intro d2
            clear d1 d2 d3
            generalize hq : g M (c + 1) = y at *
            generalize hz : c + 1 = c2 at *
            clear hq
            go_wp2_with fail
            exact ⟨⟨c2, y, rfl, rfl, GB, D3.out, D2.out⟩, by simp [intOf]; omega⟩
          · obtain ⟨r1, rfl⟩ : ∃ r1, r = r1 + 1 := ⟨r - 1, by omega⟩
            obtain ⟨g1, d3⟩ := st_step d1
            have gs := spr_place HSP.out (show i < 2 ^ K by rw [ES.out]; exact hlt)
            rw [g1] at gs
            obtain ⟨p, hp⟩ : ∃ p, plc K i = p := ⟨_, rfl⟩
            obtain ⟨q, hq, eq, hqs⟩ := plc_step ES.out ESt.out hp (by omega)
            have hps : p < s := by rw [← hp, ← ES.out]; exact plc_lt K i
            rw [hp] at gs
            have cs := nis_at (own_later O2.out d2) p hps
            rw [gs] at cs
            have D3 := Hid.intro d3
            have D2 := Hid.intro d2
            have HQ := Hid.intro hq
            rw [hp]
            obtain ⟨r2, hr2⟩ : ∃ r2 : Nat, r1 + 1 = r2 := ⟨_, rfl⟩
            have hr3 : (r2 : Int) - 1 = (r1 : Int) := by omega
            have r0 : ((r2 : Int) == 0) = false := by simp; omega
            rw [hr2]
            have p0 : (0 : Int) ≤ (p : Int) := by omega
            have ps : (p : Int) < (s : Int) := by omega
            have s0 : ((s : Int) == 0) = false := by simp; omega
            have tc : ((c : Int) != (c : Int)) = false := by simp
            clear d1 d2 d3 g1 gs hp hq h0 hr2
            go_wp2_with fail
            go_roundw
            case rel => exact ⟨i + 1, c, r1, by rw [ES.out]; omega, by go_num, by rw [HQ.out], rfl, rfl, by omega, D3.out, D2.out⟩
            case measure => simp [intOf]; omega
      · obtain rfl : i = s := by omega
        have p0 : plc K i = 0 := by rw [← ES.out]; exact plc_end K
        rw [p0]
        have B3 : Hid (Below w.heap.size w wr) := B2.out.trans (d2.mono B2.out.size)
        clear d1 d2 hlt
        go_wp2_with fail
        with_reducible refine (AW.out _).mono ?_
        rintro e w4 ⟨rfl, b4⟩
        have B4 : Hid (Below w.heap.size w w4) := B3.out.trans (b4.mono B3.out.size)
        clear b4
        go_wp2_with fail
        go_ret
        exact ⟨rfl, B4.out⟩
end Go.Proofs.Yteceiinehcjdjaa
