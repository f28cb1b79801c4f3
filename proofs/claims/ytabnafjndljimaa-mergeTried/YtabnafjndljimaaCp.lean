/-
  Two lists held against one another; what is called of a queue of packages.
-/
import Derived.Test.YtabnafjndljimaaMq
import Derived.Test.YtabnafjndljimaaQm
namespace Go.Proofs.Ytabnafjndljimaa
open Go.ChangeShapes Go.WideShapes Go.ChangeAt Go.RowKit
open Go.ChangeMaps (open_string shut_string)

theorem nan_any (x : Int) (w : World) : Calls Try.prog 73 #[.int .i64 x] w fun e w' => e = .returned (.bool false) ∧ w' = w := by
  have t : (x != x) = false := by simp
  have t' : (x == x) = true := by simp
  go_enter Try.func73, Try.ntmps73
  go_wp2
  go_ret
  simp
def cmpI (x y : Int) : Int := if x < y then -1 else if y < x then 1 else 0
set_option maxRecDepth 100000 in
theorem cmp_any (x y : Int) (w : World) : Calls Try.prog 72 #[.int .i64 x, .int .i64 y] w fun e w' => e = .returned (.int .i64 (cmpI x y)) ∧ w' = w := by
  have N1 := nan_any x w
  have N2 := nan_any y w
  by_cases h : x < y
  · have C : Hid (cmpI x y = -1) := by show _ = _; unfold cmpI; rw [if_pos h]
    go_enter Try.func72, Try.ntmps72
    go_wp2_with fail
    with_reducible refine N1.mono ?_
    rintro e w1 ⟨rfl, rfl⟩
    go_wp2_with fail
    with_reducible refine N2.mono ?_
    rintro e w1 ⟨rfl, rfl⟩
    go_wp2_with fail
    go_ret
    exact ⟨ret_int C.out.symm, rfl⟩
  · by_cases h' : y < x
    · have C : Hid (cmpI x y = 1) := by show _ = _; unfold cmpI; rw [if_neg h, if_pos h']
      go_enter Try.func72, Try.ntmps72
      go_wp2_with fail
      with_reducible refine N1.mono ?_
      rintro e w1 ⟨rfl, rfl⟩
      go_wp2_with fail
      with_reducible refine N2.mono ?_
      rintro e w1 ⟨rfl, rfl⟩
      go_wp2_with fail
      go_ret
      exact ⟨ret_int C.out.symm, rfl⟩
    · have C : Hid (cmpI x y = 0) := by show _ = _; unfold cmpI; rw [if_neg h, if_neg h']
      go_enter Try.func72, Try.ntmps72
      go_wp2_with fail
      with_reducible refine N1.mono ?_
      rintro e w1 ⟨rfl, rfl⟩
      go_wp2_with fail
      with_reducible refine N2.mono ?_
      rintro e w1 ⟨rfl, rfl⟩
      go_wp2_with fail
      go_ret
      exact ⟨ret_int C.out.symm, rfl⟩
def CpRel (s t : List Nat) (w : World) (sv : Value) (wr : World) : Prop :=
  ∃ i : Nat, i ≤ s.length ∧ sv = .int .i64 i ∧ cmpL s t = cmpL (s.drop i) (t.drop i) ∧ wr = w
set_option maxRecDepth 100000 in
set_option maxHeartbeats 1000000 in
theorem compare_any (p q : Addr) (n cap cap' : Nat) (s t : List Nat) (w : World) (hs : s.length = n) (ht : t.length = n) (hn : n ≤ 100000)
    (hp : ∀ i (h : i < s.length), w.cell? (p.add i) = some (.int .i64 (s[i] : Int))) (hq : ∀ i (h : i < t.length), w.cell? (q.add i) = some (.int .i64 (t[i] : Int))) :
    Calls Try.prog 71 #[.slice (some p) n cap, .slice (some q) n cap'] w fun e w' => e = .returned (.int .i64 (cmpL s t)) ∧ w' = w := by
  have HS := Hid.intro hs
  have HT := Hid.intro ht
  have HP := Hid.intro hp
  have HQ := Hid.intro hq
  clear hs ht hp hq
  go_enter Try.func71, Try.ntmps71
  go_wp2_with fail
  go_loopw [11] (fun sv wr => CpRel s t w sv wr) (fun sv _ => n - (intOf sv).toNat)
  case atStart => exact ⟨0, by omega, rfl, by simp, rfl⟩
  case round =>
    obtain ⟨i, hi, rfl, d1, rfl⟩ := hrel
    have hi' : i ≤ n := by rw [← HS.out]; exact hi
    clear hi
    by_cases hlt : i < n
    · have ls : i < s.length := by rw [HS.out]; exact hlt
      have lt : i < t.length := by rw [HT.out]; exact hlt
      have cs := HP.out i ls
      have ct := HQ.out i lt
      have st := cmpL_drop s t i ls lt
      have CM := cmp_any (s[i] : Int) (t[i] : Int) wr
      rw [← d1] at st
      generalize s[i] = x at *
      generalize t[i] = y at *
      clear d1 ls lt
      by_cases e1 : x < y
      · rw [if_pos e1] at st
        have cc : cmpI (x : Int) (y : Int) = -1 := by unfold cmpI; rw [if_pos (by omega)]
        rw [cc] at CM
        have ST := Hid.intro st
        clear st e1 cc
        go_wp2_with fail
        with_reducible refine CM.mono ?_
        rintro e w1 ⟨rfl, rfl⟩
        go_wp2_with fail
        go_ret
        exact ⟨ret_int ST.out.symm, rfl⟩
      · by_cases e2 : y < x
        · rw [if_neg e1, if_pos e2] at st
          have cc : cmpI (x : Int) (y : Int) = 1 := by unfold cmpI; rw [if_neg (by omega), if_pos (by omega)]
          rw [cc] at CM
          have ST := Hid.intro st
          clear st e1 e2 cc
          go_wp2_with fail
          with_reducible refine CM.mono ?_
          rintro e w1 ⟨rfl, rfl⟩
          go_wp2_with fail
          go_ret
          exact ⟨ret_int ST.out.symm, rfl⟩
        · rw [if_neg e1, if_neg e2] at st
          have cc : cmpI (x : Int) (y : Int) = 0 := by unfold cmpI; rw [if_neg (by omega), if_neg (by omega)]
          rw [cc] at CM
          have ST := Hid.intro st
          clear st e1 e2 cc
          go_wp2_with fail
          with_reducible refine CM.mono ?_
          rintro e w1 ⟨rfl, rfl⟩
          clear CM
          go_wp2_with fail
          go_roundw
          case rel => exact ⟨i + 1, by rw [HS.out]; omega, by go_num, ST.out, rfl⟩
          case measure => simp [intOf]; omega
    · have e : Hid (cmpL s t = 0) := by
        show _ = _
        rw [d1, List.drop_eq_nil_of_le (by rw [HS.out]; omega)]; rfl
      clear d1
      go_wp2_with fail
      go_ret
      exact ⟨ret_int e.out.symm, rfl⟩
theorem infoP (W : World) : (typeInfo 74).run Try.prog W = .ok (Try.prog.info? 74).get! W := by kernel_rfl
theorem recvP (A : Nat) (v : Value) (nm : String) (W : World) (h : W.cell? ⟨A, 0, none⟩ = some v) :
    (receiverAt 74 (.val (.pointer (some ⟨A, 0, none⟩))) false (some nm)).run Try.prog W = .ok v W := by
  have ck : (Builtin.ssaWrapNilChk_ #[74] 74 #[.pointer (some ⟨A, 0, none⟩), strVal "", strVal nm]).run Try.prog W = .ok (.pointer (some ⟨A, 0, none⟩)) W := by kernel_rfl
  have st : Sem.run Try.prog (underlying 74) W = .ok (.pointer 89) W := by kernel_rfl
  unfold receiverAt
  simp only [Sem.run_bind, st, Result.andThen_ok]
  simp [Place.get, ck, loadVar, go_sem, h]
theorem methodP_less (A : Nat) (v : Value) (W : World) (h : W.cell? ⟨A, 0, none⟩ = some v) :
    (method 210 74 (.pointer (some ⟨A, 0, none⟩)) "Less").run Try.prog W = .ok (67, v) W := by
  have fi : (Try.prog.info? 74).get!.methods.find? (·.name == "Less") = some ⟨ "Less", 79, #[], some (67, false)⟩ := by kernel_rfl
  unfold method
  simp only [Sem.run_bind, infoP, Result.andThen_ok, fi]
  simp [follow, recvP A v _ W h, go_sem]
theorem methodP_len (A : Nat) (v : Value) (W : World) (h : W.cell? ⟨A, 0, none⟩ = some v) :
    (method 210 74 (.pointer (some ⟨A, 0, none⟩)) "Len").run Try.prog W = .ok (44, v) W := by
  have fi : (Try.prog.info? 74).get!.methods.find? (·.name == "Len") = some ⟨ "Len", 59, #[], some (44, false)⟩ := by kernel_rfl
  unfold method
  simp only [Sem.run_bind, infoP, Result.andThen_ok, fi]
  simp [follow, recvP A v _ W h, go_sem]
theorem methodP_swap (A : Nat) (v : Value) (W : World) (h : W.cell? ⟨A, 0, none⟩ = some v) :
    (method 210 74 (.pointer (some ⟨A, 0, none⟩)) "Swap").run Try.prog W = .ok (70, v) W := by
  have fi : (Try.prog.info? 74).get!.methods.find? (·.name == "Swap") = some ⟨ "Swap", 80, #[], some (70, false)⟩ := by kernel_rfl
  unfold method
  simp only [Sem.run_bind, infoP, Result.andThen_ok, fi]
  simp [follow, recvP A v _ W h, go_sem]
theorem lenP (a : Option Addr) (n cap : Nat) (W : World) : Calls Try.prog 44 #[.slice a n cap] W fun e W' => e = .returned (.int .i64 n) ∧ W' = W := by
  go_enter Try.func44, Try.ntmps44
  go_wp2
  go_ret
  exact ⟨rfl, rfl⟩
end Go.Proofs.Ytabnafjndljimaa
