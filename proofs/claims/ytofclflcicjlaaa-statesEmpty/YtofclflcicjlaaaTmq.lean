/-
  All steps of a writer by states, the last part first.
-/
import Derived.Test.YtofclflcicjlaaaGb
import Derived.WalkKit
import Derived.ProofKit
import Derived.OpenShut
import Derived.Deep.QuietTactic
import Derived.Deep.RegionWith
import Derived.Deep.RegionHeld3
import Derived.OwnWalk
import Derived.ChangeOld
import Derived.Below
import Derived.BigQuiet
namespace Go.Proofs.Ytofclflcicjlaaa
open Go.ChangeShapes Go.WideShapes Go.ChangeAt Go.RowKit
open Go.ChangeMaps (open_string shut_string)
set_option linter.unusedVariables false
theorem rp_below {W W' : World} {a : Option Addr} {n : Nat} {ps : List (Int × Int)} (h : RP W a n ps) (g : Below W.heap.size W W') : RP W' a n ps :=
  ⟨h.1, fun hn => by
    obtain ⟨x, e, hx⟩ := h.2 hn
    exact ⟨x, e, fun i hi => ⟨(g.cell (World.block_lt_of_cell? _ _ (hx i hi).1)).trans (hx i hi).1, (g.cell (World.block_lt_of_cell? _ _ (hx i hi).2)).trans (hx i hi).2⟩⟩⟩
/-- What was put when so many parts are left. -/
def stP (k : Nat) (L cs : List Nat) (ps : List (Int × Int)) (j : Nat) : Nat := sts k L cs (((ps.map toNP).drop j).map Prod.fst)
def vlP (k : Nat) (L cs : List Nat) (ps : List (Int × Int)) (j : Nat) : List (Nat × Nat) := vls k L cs (((ps.map toNP).drop j).map Prod.fst)
theorem drop_cons {ps : List (Int × Int)} {j : Nat} {p : Int × Int} (h : ps[j]? = some p) : ((ps.map toNP).drop j).map Prod.fst = p.1.toNat :: ((ps.map toNP).drop (j + 1)).map Prod.fst := by
  obtain ⟨hj, rfl⟩ := List.getElem?_eq_some_iff.1 h
  rw [List.drop_eq_getElem_cons (by rw [List.length_map]; exact hj), List.map_cons, List.getElem_map]; rfl
theorem ok_pos {L : List Nat} {ps : List (Int × Int)} (hf : ∀ p ∈ ps, 0 ≤ p.2 ∧ p.2 ≤ 18446744073709551615) {j : Nat} (h : ∀ p ∈ ps.drop j, okPS L p = true) : ∀ c ∈ ((ps.map toNP).drop j).map Prod.fst, 0 < g L c := by
  intro c hc
  rw [← List.map_drop, List.map_map] at hc
  obtain ⟨⟨c', r'⟩, hp, rfl⟩ := List.mem_map.1 hc
  obtain ⟨q, r, e1, -, -, h3, -⟩ := okPS_is (hf _ (List.mem_of_mem_drop hp)).1 (h _ hp)
  subst e1
  exact h3
def TmRel (W0 : World) (A : Nat) (al : Option Addr) (capl Bs k : Nat) (L cs : List Nat) (ps : List (Int × Int)) (iv : Value) (wr : World) : Prop :=
  ∃ i j : Nat, i + j = ps.length ∧ iv = .int .i64 i ∧ Ws W0 wr A al capl Bs j (stP k L cs ps j) (vlP k L cs ps j) ∧ ∀ p ∈ ps.drop j, okPS L p = true
def TmPost (W0 : World) (A : Nat) (al : Option Addr) (capl Bs k : Nat) (L cs : List Nat) (ps : List (Int × Int)) (e : Ending) (W' : World) : Prop :=
  (ps.all (okPS L) = false ∧ e = .returned (.int .i64 1) ∧ Below W0.heap.size W0 W') ∨
  (ps.all (okPS L) = true ∧ e = .returned (.int .i64 0) ∧ Ws W0 W' A al capl Bs 0 (stP k L cs ps 0) (vlP k L cs ps 0))
set_option maxRecDepth 100000 in
set_option maxHeartbeats 4000000 in
theorem timesPut_any (W0 W : World) (A : Nat) (al : Option Addr) (capl Bs k : Nat) (L cs : List Nat) (ps : List (Int × Int)) (hy : Sy W0 al Bs k L cs ps) (h : Ws W0 W A al capl Bs ps.length 0 []) (hcap : ps.length ≤ capl) :
    Calls Try.prog 24 #[.int .i64 (ps.length : Int), .func (.func 25) #[.pointer (some ⟨A, 0, none⟩)] #[]] W (TmPost W0 A al capl Bs k L cs ps) := by
  have ST : Hid (TmRel W0 A al capl Bs k L cs ps (.int .i64 0) W) := by
    refine ⟨0, ps.length, by omega, rfl, ?_, fun p hp => ?_⟩
    · unfold stP vlP
      rw [List.drop_of_length_le (by rw [List.length_map]; exact Nat.le_refl _)]
      exact h
    · rw [List.drop_of_length_le (Nat.le_refl _)] at hp; cases hp
  have GB := fun wr j p (hw : Ws W0 wr A al capl Bs (j + 1) (stP k L cs ps (j + 1)) (vlP k L cs ps (j + 1))) (hp : ps[j]? = some p) (hok : ∀ p ∈ ps.drop (j + 1), okPS L p = true) =>
    goBack_any W0 wr A al capl Bs k L cs ps j _ _ p hy hw hp (sts_lt hy.2.2.1 _ (ok_pos hy.2.2.2.1 hok)) (by unfold vlP; rw [vls_len, List.length_map, List.length_drop, List.length_map]; have := hy.2.2.2.2; omega) (by have := (List.getElem?_eq_some_iff.1 hp).1; omega)
  have HGB : Aside _ := GB
  have hn := hy.2.2.2.2
  clear h hy GB hcap
  obtain ⟨n, hnn⟩ : ∃ n, ps.length = n := ⟨_, rfl⟩
  have HNN := Hid.intro hnn
  rw [hnn] at hn ⊢
  clear hnn
  go_enter Try.func24, Try.ntmps24
  go_wp2_with fail
  go_loopw [7] (fun iv wr => TmRel W0 A al capl Bs k L cs ps iv wr) (fun iv _ => 1001 - (intOf iv).toNat)
  case atStart => exact ST.out
  case round =>
    clear ST
    obtain ⟨i, j, hij, rfl, d1, d2⟩ := hrel
    rw [HNN.out] at hij
    by_cases hlt : i < n
    · obtain ⟨j', rfl⟩ : ∃ j', j = j' + 1 := ⟨j - 1, by omega⟩
      obtain ⟨p, hp⟩ : ∃ p, ps[j']? = some p := ⟨_, List.getElem?_eq_getElem (by rw [HNN.out]; omega)⟩
      have CALL := HGB.out wr j' p d1 hp d2
      have DC := Hid.intro (drop_cons hp)
      have HP := Hid.intro hp
      have D2 := Hid.intro d2
      clear d1 d2 hp
      go_wp2_with fail
      with_reducible refine CALL.mono ?_
      intro e w1 hpost
      rcases hpost with ⟨q1, rfl, q3⟩ | ⟨q1, rfl, q3⟩
      · have AF : Hid (ps.all (okPS L) = false) := by
          show _ = _
          rw [List.all_eq_false]
          exact ⟨p, List.mem_of_getElem? HP.out, by rw [q1]; decide⟩
        have Q3 := Hid.intro q3
        clear CALL q1 q3
        go_wp2_with fail
        go_returns
        exact .inl ⟨AF.out, rfl, Q3.out⟩
      · have Q1 := Hid.intro q1
        have Q3 := Hid.intro q3
        clear CALL q1 q3
        go_wp2_with fail
        go_roundw
        case rel =>
          refine ⟨i + 1, j', by rw [HNN.out]; omega, by go_num, ?_, fun r hr => ?_⟩
          · unfold stP vlP
            rw [DC.out]
            exact Q3.out
          · rw [List.drop_eq_getElem_cons (by rw [HNN.out]; omega)] at hr
            rcases List.mem_cons.1 hr with e | e
            · have := HP.out
              rw [List.getElem?_eq_getElem (by rw [HNN.out]; omega)] at this
              rw [e, Option.some.inj this]; exact Q1.out
            · exact D2.out r e
        case measure => simp [intOf]; omega
    · obtain rfl : j = 0 := by omega
      have AL : Hid (ps.all (okPS L) = true) := by
        show _ = _
        rw [List.all_eq_true]
        intro p hp
        exact d2 p (by rw [List.drop_zero]; exact hp)
      have D1 := Hid.intro d1
      clear d1 d2
      go_wp2_with fail
      go_returns
      exact .inr ⟨AL.out, rfl, D1.out⟩
end Go.Proofs.Ytofclflcicjlaaa
