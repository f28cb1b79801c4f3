/-
  The rests of parts, as bytes.
-/
import Derived.Test.YtofclflcicjlaaaGreatPw
import Derived.Test.YtofclflcicjlaaaGreatRdb
import Derived.WalkKit
import Derived.ProofKit
import Derived.OpenShut
import Derived.Deep.QuietTactic
import Derived.Deep.RegionWith
import Derived.Deep.RegionHeld3
import Derived.OwnWalk
import Derived.ChangeOld
import Derived.Below
import Derived.BigQuiet
namespace Go.Proofs.YtofclflcicjlaaaGreat
set_option maxRecDepth 100000
open Go.ChangeShapes Go.WideShapes Go.ChangeAt Go.RowKit
open Go.ChangeMaps (open_string shut_string)
set_option linter.unusedVariables false
theorem further_any (c : Nat) (w : World) (hc : c ≤ 100) : Calls Tryz.prog 55 #[.int .i64 (c : Int)] w fun e w' => e = .returned (.int .i64 ((c - 1 : Nat) : Int)) ∧ w' = w := by
  have hm : max ((c : Int) - 1) 0 = ((c - 1 : Nat) : Int) := by omega
  have hm2 : max (0 : Int) ((c : Int) - 1) = ((c - 1 : Nat) : Int) := by omega
  go_enter Tryz.func55, Tryz.ntmps55
  go_wp2
  go_ret
  exact ⟨rfl, rfl⟩
def RwRel (ps : List (Int × Int)) (A : Nat) (w : World) (iv : Value) (wr : World) : Prop :=
  ∃ (i : Nat) (v : Value), i ≤ ps.length ∧ iv = .int .i64 i ∧ Wr wr A v (szs (vK (rstV (ps.map toNP))) i) (num (vX (rstV (ps.map toNP))) (vK (rstV (ps.map toNP))) i) ∧ Up w.heap.size A v ∧ Below w.heap.size w wr
set_option maxRecDepth 100000 in
set_option maxHeartbeats 4000000 in
theorem restsOf_any (al : Option Addr) (nl capl : Nat) (L : List Nat) (ps : List (Int × Int)) (w : World) (hp : RP w al nl ps) (hf : ∀ p ∈ ps, 0 ≤ p.2 ∧ p.2 ≤ 18446744073709551615) (hok : ps.all (okPS L) = true) (hn : nl ≤ 900) :
    Calls Tryz.prog 23 #[.slice al nl capl] w fun e w' => e = .returned (.string (bs (restB (ps.map toNP)))) ∧ Below w.heap.size w w' := by
  have NW := new_own (Below.refl w.heap.size w)
  have HX : Hid (0 < nl → ∃ x, al = some x ∧ ∀ i (h : i < ps.length), w.cell? (x.add (i * 2)) = some (.int .i64 ps[i].1) ∧ w.cell? (x.add (i * 2 + 1)) = some (.int .u64 ps[i].2)) := hp.2
  have HN : Hid (ps.length = nl) := hp.1
  have HF := Hid.intro hf
  have OK := Hid.intro hok
  clear hp hf hok
  go_enter Tryz.func23, Tryz.ntmps23
  go_wp2_with fail
  with_reducible refine NW.mono ?_
  rintro e w1 ⟨A, rfl, hA, k1, k2, k3, k4⟩
  have ST : Hid (RwRel ps A w (.int .i64 0) w1) := ⟨0, .slice none 0 0, Nat.zero_le _, rfl, k1, k2, k3⟩
  clear NW k1 k2 k3 k4 hA
  unfold ptr
  go_wp2_with fail
  go_loopw [9] (fun iv wr => RwRel ps A w iv wr) (fun iv _ => 1001 - (intOf iv).toNat)
  case atStart => exact ST.out
  case round =>
    clear ST
    obtain ⟨i, v, hi, rfl, d1, d2, d3⟩ := hrel
    rw [HN.out] at hi
    by_cases hlt : i < nl
    · obtain ⟨x, rfl, hx⟩ := HX.out (by omega)
      have hl : i < ps.length := by rw [HN.out]; exact hlt
      obtain ⟨x0, x1⟩ := hx i hl
      obtain ⟨x0, x1⟩ := rp_cells2 d3 x0 x1
      obtain ⟨c, r, e1, e2, hc, -, -⟩ := okPS_is (c := ps[i].1) (r := ps[i].2) (HF.out _ (List.getElem_mem hl)).1 (List.all_eq_true.1 OK.out _ (List.getElem_mem hl))
      have hr := (HF.out _ (List.getElem_mem hl)).2
      rw [e2] at hr
      rw [e1] at x0
      rw [e2] at x1
      have RA : vX (rstV (ps.map toNP)) i = r ∧ vK (rstV (ps.map toNP)) i = c - 1 := by
        obtain ⟨q1, q2⟩ := rst_at (ps.map toNP) i (by simpa using hl)
        rw [List.getD_eq_getElem?_getD, List.getElem?_map, List.getElem?_eq_getElem hl] at q1 q2
        simp only [Option.map_some, Option.getD_some, toNP, e1, e2] at q1 q2
        exact ⟨q1, q2⟩
      have SL : szs (vK (rstV (ps.map toNP))) i ≤ 64 * 900 := by
        have := rest_small (L := L) HF.out i (by omega) (by rw [List.all_eq_true]; exact fun p hp => List.all_eq_true.1 OK.out p (List.mem_of_mem_take hp))
        omega
      have FU := fun W => further_any c W (by omega)
      have D1 := Hid.intro d1
      have D2 := Hid.intro d2
      have D3 := Hid.intro d3
      clear hx d1 d2 d3 e1 e2
      go_wp2_with fail
      obtain ⟨P, hP⟩ : ∃ P, wr.heap.size = P := ⟨_, rfl⟩
      have n0 := blk_new wr #[.int .i64 (c : Int), .int .u64 (r : Int)] 74
      have b1 : Below wr.heap.size wr (wr.alloc (.cells #[.int .i64 (c : Int), .int .u64 (r : Int)] 74)) := (Below.refl _ _).alloc (Nat.le_refl _) _
      rw [hP] at n0 ⊢
      have hAP : ∀ q, foot A v q → q ≠ P := fun q hq e => by
        have : q < wr.heap.size := by
          rcases hq with rfl | hq
          · exact blk_lt D1.out.1
          · exact (D1.out.2.1.lt q hq).2
        omega
      have wk : Wr (wr.alloc (.cells #[.int .i64 (c : Int), .int .u64 (r : Int)] 74)) A v _ _ := ⟨blk_alloc D1.out.1 _, World.ownsRow.alloc D1.out.2.1 _, D1.out.2.2⟩
      have b2 := D3.out.trans (b1.mono D3.out.size)
      generalize wr.alloc (.cells #[.int .i64 (c : Int), .int .u64 (r : Int)] 74) = w2 at *
      have PW := put_own (w := w) (W := w2.drew) A v _ _ r ((c - 1 : Nat) : Int) wk D2.out b2.drew (by omega) (by omega) (by omega) (by omega) (szs (vK (rstV (ps.map toNP))) (i + 1)) (num (vX (rstV (ps.map toNP))) (vK (rstV (ps.map toNP))) (i + 1)) (by rw [szs, RA.2, cl_nat _ (by omega)]) (by rw [num, RA.1, RA.2, cl_nat _ (by omega)])
      unfold ptr at PW
      have k0 : w2.cell? ⟨P, 0, none⟩ = some (.int .i64 (c : Int)) := by rw [blk_cell n0]; rfl
      have k1 : w2.cell? ⟨P, 1, none⟩ = some (.int .u64 (r : Int)) := by rw [blk_cell n0]; rfl
      have k0d : w2.drew.cell? ⟨P, 0, none⟩ = some (.int .i64 (c : Int)) := k0
      have k1d : w2.drew.cell? ⟨P, 1, none⟩ = some (.int .u64 (r : Int)) := k1
      have N0 := Hid.intro n0
      have HAP := Hid.intro hAP
      clear n0 hAP wk b1 b2 RA x0 x1
      go_region_held3 (fun w' => w'.cell? ⟨P, 0, none⟩ = some (.int .i64 (c : Int)) ∧ w'.cell? ⟨P, 1, none⟩ = some (.int .u64 (r : Int))) (first | with_reducible exact ⟨k0d, k1d⟩ | with_reducible assumption)
        (first
          | (go_at_call 55; refine (FU _).mono ?_; rintro e w' ⟨rfl, rfl⟩)
          | (go_at_call 53; refine PW.mono ?_; rintro e w5 ⟨rfl, v', g1, g2, g3, g4, -⟩
             have kk : w5.cell? ⟨P, 0, none⟩ = some (.int .i64 (c : Int)) ∧ w5.cell? ⟨P, 1, none⟩ = some (.int .u64 (r : Int)) := (by
               have e5 := blk_kept (blk_drew N0.out) g4 (fun h => HAP.out P h rfl)
               exact ⟨by rw [blk_cell e5]; rfl, by rw [blk_cell e5]; rfl⟩)
             have G1 := Hid.intro g1
             have G2 := Hid.intro g2
             have G3 := Hid.intro g3
             clear g1 g2 g3 g4))
      go_wp2_with fail
      go_roundw
      case rel => exact ⟨i + 1, v', by rw [HN.out]; omega, by go_num, G1.out, G2.out, G3.out⟩
      case measure => simp [intOf]; omega
    · obtain rfl : i = nl := by omega
      have BY := bytes_any A v _ _ wr d1
      have e0 : restB (ps.map toNP) = byt (num (vX (rstV (ps.map toNP))) (vK (rstV (ps.map toNP))) i) (byc (szs (vK (rstV (ps.map toNP))) i)) := by
        unfold restB; rw [List.length_map, HN.out]
      rw [← e0] at BY
      unfold ptr at BY
      have D3 := Hid.intro d3
      clear d1 d2 d3 e0
      go_wp2_with fail
      with_reducible refine BY.mono ?_
      rintro e w5 ⟨rfl, rfl⟩
      clear BY
      go_wp2_with fail
      go_ret
      exact ⟨rfl, D3.out⟩
end Go.Proofs.YtofclflcicjlaaaGreat
