/-
  The reference's MayLens: of whatever lengths.
-/
import Derived.Test.YthjokhfjfiaaiaaCa
namespace Go.Proofs.Ythjokhfjfiaaiaa
open Go.ChangeShapes Go.WideShapes Go.ChangeAt Go.RowKit
open Go.ChangeMaps (open_string shut_string)

def okB (c s : Nat) : Bool := decide (c = 0) || decide (s = 32768) || (decide (c = 1) && decide (s = 16384))
theorem okL_B (L : List Nat) : okL L = okB (mC L 65) (mS L 65) := rfl
theorem nat_get (f : List Int) (i : Nat) (h : i < f.length) : at0 (nat f) i = f[i].toNat := by
  rw [at0_of _ i (by rw [nat_len]; exact h)]
  simp [nat]
def MlRel (f : List Int) (C M : Nat → Nat) (w : World) (sv cv iv : Value) (wr : World) : Prop :=
  ∃ i : Nat, i ≤ 65 ∧ iv = .int .i64 i ∧ sv = .int .i64 (M i : Nat) ∧ cv = .int .i64 (C i : Nat) ∧ (∀ z ∈ f.take i, badl z = false) ∧ wr = w
set_option maxRecDepth 100000 in
set_option maxHeartbeats 2000000 in
theorem mayl_any (a : Option Addr) (n cap : Nat) (f : List Int) (w : World) (h : RI w a n f) (hn : n ≤ 100000) :
    Calls Try.prog 20 #[.slice a n cap] w fun e w' => e = .returned (.bool (mayL f)) ∧ w' = w := by
  by_cases h1 : n = 65
  · subst h1
    have hl := h.1
    have HX := Hid.intro h.2
    have HL := Hid.intro hl
    have GA := Hid.intro (nat_get f)
    have BD := Hid.intro (fun (i : Nat) (hi : i < f.length) (hb : badl f[i] = true) => (may_bad (List.any_eq_true.2 ⟨_, List.getElem_mem hi, hb⟩) : mayL f = false))
    have OK := Hid.intro (fun (hg : ∀ z ∈ f, badl z = false) => ((may_ok hl (List.any_eq_false.2 (fun z hz => by simp [hg z hz]))).trans (okL_B _) : mayL f = okB (mC (nat f) 65) (mS (nat f) 65)))
    obtain ⟨ans, hans⟩ : ∃ ans, mayL f = ans := ⟨_, rfl⟩
    rw [hans] at BD OK ⊢
    obtain ⟨L, hL⟩ : ∃ L, nat f = L := ⟨_, rfl⟩
    rw [hL] at GA OK
    have M0 : mS L 0 = 0 := rfl
    have C0 : mC L 0 = 0 := rfl
    have MS := mS_succ L
    have CS := mC_succ L
    have MB := mS_bd L
    have CB := mC_bd L
    clear h hl hn hans hL
    generalize mS L = M at *
    generalize mC L = C at *
    have M0 := Hid.intro M0
    have C0 := Hid.intro C0
    have MS := Hid.intro MS
    have CS := Hid.intro CS
    have MB := Hid.intro MB
    have CB := Hid.intro CB
    go_enter Try.func20, Try.ntmps20
    go_wp2_with fail
    go_loopw [3, 4, 5] (fun sv cv iv wr => MlRel f C M w sv cv iv wr) (fun _ _ iv _ => 65 - (intOf iv).toNat)
    case atStart => exact ⟨0, by omega, rfl, by rw [M0.out]; rfl, by rw [C0.out]; rfl, by simp, rfl⟩
    case round =>
      obtain ⟨i, hi, rfl, rfl, rfl, hg, rfl⟩ := hrel
      have sb := MB.out i
      have cb := CB.out i
      by_cases hlt : i < 65
      · have hlf : i < f.length := by rw [HL.out]; exact hlt
        obtain ⟨x, rfl, hx⟩ := HX.out (by omega)
        have cl := hx i hlf
        have ga := GA.out i hlf
        have bd := Hid.intro (BD.out i hlf)
        have ts := take_snoc f i hlf
        have TS := Hid.intro (fun (hb : badl f[i] = false) (z : Int) (hz : z ∈ f.take (i + 1)) => (by
          rw [ts] at hz
          rcases List.mem_append.1 hz with h | h
          · exact hg z h
          · rw [List.mem_singleton.1 h]; exact hb : badl z = false))
        have S1 := Hid.intro (MS.out i)
        have C1 := Hid.intro (CS.out i)
        rw [ga] at S1 C1
        generalize M i = s at *
        generalize C i = c at *
        generalize f[i] = z at *
        clear hx ts hg hlf ga
        by_cases hneg : z < 0
        · have e := Hid.intro (bd.out (by unfold badl; simp; omega))
          go_wp2_with fail
          go_ret
          exact ⟨ret_bool e.out.symm, rfl⟩
        · by_cases hbig : 15 < z
          · have e := Hid.intro (bd.out (by unfold badl; simp; omega))
            go_wp2_with fail
            go_ret
            exact ⟨ret_bool e.out.symm, rfl⟩
          · have T2 := Hid.intro (TS.out ((badl_no z).2 (by omega)))
            obtain ⟨l, rfl⟩ : ∃ l : Nat, z = (l : Int) := ⟨z.toNat, by omega⟩
            rw [Int.toNat_natCast] at S1 C1
            clear TS bd
            by_cases hl : 0 < l
            · rw [if_pos hl] at S1 C1
              obtain ⟨y, hy⟩ : ∃ y : Nat, (15 : Int) - (l : Int) = (y : Int) := ⟨15 - l, by omega⟩
              have hy' : 15 - l = y := by omega
              rw [hy'] at S1
              obtain ⟨z, hz⟩ : ∃ z : Nat, 2 ^ y = z := ⟨_, rfl⟩
              have hzi : (2 : Int) ^ y = (z : Int) := by rw [← hz]; simp
              have hzb : z ≤ 32768 := by rw [← hz]; exact Nat.le_trans (Nat.pow_le_pow_right (by omega) (by omega : y ≤ 15)) (by decide)
              rw [hz] at S1
              have hy64 : y < 16 := by omega
              clear hz hy'
              go_wp2_with fail
              go_roundw
              case rel => exact ⟨i + 1, by omega, by go_num, by rw [S1.out, Int.natCast_add], by rw [C1.out, Int.natCast_add]; rfl, T2.out, rfl⟩
              case measure => simp [intOf]; omega
            · rw [if_neg hl] at S1 C1
              go_wp2_with fail
              go_roundw
              case rel => exact ⟨i + 1, by omega, by go_num, by rw [S1.out, Nat.add_zero], by rw [C1.out, Nat.add_zero], T2.out, rfl⟩
              case measure => simp [intOf]; omega
      · obtain rfl : i = 65 := by omega
        have e := OK.out (fun z hz => hg z (by rw [List.take_of_length_le (by rw [HL.out]; exact Nat.le_refl _)]; exact hz))
        generalize M 65 = s at *
        generalize C 65 = c at *
        have E := Hid.intro e
        clear e
        by_cases h1 : c = 0
        · subst h1
          go_wp2_with fail
          go_ret
          exact ⟨ret_bool (by rw [E.out]; rfl), rfl⟩
        · have t1 : ((c : Int) == 0) = false := by simp; omega
          by_cases h2 : s = 32768
          · subst h2
            go_wp2_with fail
            go_ret
            exact ⟨ret_bool (by rw [E.out]; simp [okB]), rfl⟩
          · have t2 : ((s : Int) == 32768) = false := by simp; omega
            by_cases h3 : c = 1
            · subst h3
              have E2 : Hid (ans = decide (s = 16384)) := by show _ = _; rw [E.out]; simp [okB, h2]
              by_cases h4 : s = 16384
              · subst h4
                go_wp2_with fail
                go_ret
                exact ⟨ret_bool (by rw [E2.out]; rfl), rfl⟩
              · have t4 : ((s : Int) == 16384) = false := by simp; omega
                go_wp2_with fail
                go_ret
                exact ⟨ret_bool (by rw [E2.out]; simp [h4]), rfl⟩
            · have t3 : ((c : Int) == 1) = false := by simp; omega
              go_wp2_with fail
              go_ret
              exact ⟨ret_bool (by rw [E.out]; simp [okB, h1, h2, h3]), rfl⟩
  · have M := Hid.intro (may_no65 (f := f) (by rw [h.1]; exact h1))
    have t : ((n : Int) == 65) = false := by simp; omega
    have t2 : ((n : Int) != 65) = true := by simp; omega
    clear h
    go_enter Try.func20, Try.ntmps20
    go_wp2_with fail
    go_ret
    exact ⟨ret_bool M.out.symm, rfl⟩
end Go.Proofs.Ythjokhfjfiaaiaa
