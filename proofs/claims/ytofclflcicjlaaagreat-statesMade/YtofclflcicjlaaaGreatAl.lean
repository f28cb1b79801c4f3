/-
  The walk of StatesAll.
-/
import Derived.Test.YtofclflcicjlaaaGreatGw
import Derived.Test.YtofclflcicjlaaaGreatLwq
import Derived.WalkKit
import Derived.ProofKit
import Derived.OpenShut
import Derived.Deep.QuietTactic
import Derived.Deep.RegionWith
import Derived.Deep.RegionHeld3
import Derived.OwnWalk
import Derived.ChangeOld
import Derived.Below
import Derived.BigQuiet
import Derived.BigRegion
namespace Go.Proofs.YtofclflcicjlaaaGreat
open Go.ChangeShapes Go.WideShapes Go.ChangeAt Go.RowKit
open Go.ChangeMaps (open_string shut_string)
set_option linter.unusedVariables false
theorem gS_len {K : Nat} {L cs : List Nat} {T R rs : Nat} : ∀ (n x a r : Nat) (acc acc' : List (Nat × Nat)) (x' a' r' : Nat), gS K L cs T R rs n x a r acc = some (acc', x', a', r') → acc'.length = acc.length + n := by
  intro n
  induction n with
  | zero => intro x a r acc acc' x' a' r' h; simp only [gS, Option.some.injEq, Prod.mk.injEq] at h; rw [← h.1]; rfl
  | succ n ih =>
    intro x a r acc acc' x' a' r' h
    simp only [gS] at h
    split at h
    · cases h
    · have := ih _ _ _ _ _ _ _ _ h
      rw [this, List.length_append, List.length_singleton]; omega
theorem getS_len (f : List Int) (z : Int) (l : List UInt8) (n : Int) : (getS f z l n).2.length ≤ 4096 := by
  unfold getS
  split
  · split
    · simp
    · rename_i hn
      unfold getB
      split
      · simp
      · unfold midB
        split
        · simp
        · cases hG : gS z.toNat (f.map Int.toNat) (spr z.toNat (f.map Int.toNat)) (le ((l.drop (numb l).2.1).take (numb l).1)) (le ((l.drop (numb l).2.1).drop (numb l).1)) (8 * ((l.drop (numb l).2.1).drop (numb l).1).length) n.toNat (got (le ((l.drop (numb l).2.1).take (numb l).1)) (Nat.log2 (le ((l.drop (numb l).2.1).take (numb l).1)) - z.toNat) z.toNat) (Nat.log2 (le ((l.drop (numb l).2.1).take (numb l).1)) - z.toNat) 0 [] with
          | none => simp [endB]
          | some t =>
            obtain ⟨acc, x, a, r⟩ := t
            have := gS_len _ _ _ _ _ _ _ _ _ hG
            unfold endB
            simp only
            split
            · simp only [this, List.length_nil]; omega
            · simp
  · simp
theorem held_tail {w8 a : World} {p : Prop} (h : p ∧ Below w8.heap.size w8 a) : Below w8.heap.size w8 a := h.2
theorem held_same {a b : World} (h : b = a) : Below a.heap.size a b := by rw [h]; exact Below.refl _ _
theorem held_keep4 {w8 a b : World} {B C : Nat} {u v x y : Value} (hB : B < w8.heap.size) (hC : C < w8.heap.size) (h : (a.cell? ⟨B, 0, none⟩ = some u ∧ a.cell? ⟨B, 1, none⟩ = some v ∧ a.cell? ⟨C, 0, none⟩ = some x ∧ a.cell? ⟨C, 1, none⟩ = some y) ∧ Below w8.heap.size w8 a) (k : Below a.heap.size a b) :
    (b.cell? ⟨B, 0, none⟩ = some u ∧ b.cell? ⟨B, 1, none⟩ = some v ∧ b.cell? ⟨C, 0, none⟩ = some x ∧ b.cell? ⟨C, 1, none⟩ = some y) ∧ Below w8.heap.size w8 b := by
  have hs : B < a.heap.size := Nat.lt_of_lt_of_le hB h.2.size
  have hs2 : C < a.heap.size := Nat.lt_of_lt_of_le hC h.2.size
  refine ⟨⟨?_, ?_, ?_, ?_⟩, h.2.trans (k.mono h.2.size)⟩
  · rw [(bcell k).1 B 0 hs]; exact h.1.1
  · rw [(bcell k).1 B 1 hs]; exact h.1.2.1
  · rw [(bcell k).1 C 0 hs2]; exact h.1.2.2.1
  · rw [(bcell k).1 C 1 hs2]; exact h.1.2.2.2
set_option maxRecDepth 100000 in
set_option maxHeartbeats 8000000 in
theorem all_walk (al : Option Addr) (nl capl : Nat) (ps : List (Int × Int)) (a : Option Addr) (n cap : Nat) (f : List Int) (z : Int) (s : ByteArray) (m : Int) (w : World) (hp : RP w al nl ps) (hf : ∀ p ∈ ps, 0 ≤ p.2 ∧ p.2 ≤ 18446744073709551615) (hnl : nl ≤ 9223372036854775807) (hcap : nl ≤ capl) (h : RI w a n f) (hn : n ≤ 9223372036854775807) (hs : s.size ≤ 9223372036854775807) :
    Calls Tryz.prog 3 #[.slice al nl capl, .slice a n cap, .int .i64 z, .string s, .int .i64 m] w fun e w' => e = .returned (.bool true) ∧ Below w.heap.size w w' := by
  by_cases hbig : 60 < nl ∨ 100 < n ∨ 300 < s.size
  · have AW := st_awake w
    clear h hp
    rcases (by omega : 60 < nl ∨ (¬ 60 < nl ∧ 100 < n) ∨ (¬ 60 < nl ∧ ¬ 100 < n ∧ 300 < s.size)) with h0 | ⟨h0, h1⟩ | ⟨h0, h1, h2⟩
    all_goals
      clear hbig
      go_enter Tryz.func3, Tryz.ntmps3
      go_wp2_with fail
      with_reducible refine AW.mono ?_
      rintro e w1 ⟨rfl, b1⟩
      clear AW
      go_wp2_with fail
      go_ret
      exact ⟨rfl, b1⟩
  · have h1 : ¬ 60 < nl := by omega
    have h2 : ¬ 100 < n := by omega
    have h3 : ¬ 300 < s.size := by omega
    have PU := sput_any al nl capl ps a n cap f z w hp hf (by omega) hcap h (by omega)
    have RU1 : Hid (∀ W, Below w.heap.size w W → Calls Tryz.prog 7 #[.slice al nl capl, .slice a n cap, .int .i64 z] W fun e W' => e = .returned (.agg #[.string (bs (putS f z ps).2), .int .i64 ((putS f z ps).1 : Nat)]) ∧ Below W.heap.size W W') := fun W hW => rputs_any al nl capl ps a n cap f z W (rp_below hp hW) hf (by omega) (ri_below h hW) (by omega)
    have GU : Hid (∀ W, Below w.heap.size w W → Calls Tryz.prog 8 #[.string s, .int .i64 m, .slice a n cap, .int .i64 z] W fun e W' => SgPost (getS f z s.data.toList m) W e W') := fun W hW => sget_any s m a n cap f z W (by omega) (ri_below h hW) (by omega)
    have RG : Hid (∀ W, Below w.heap.size w W → Calls Tryz.prog 9 #[.string s, .int .i64 m, .slice a n cap, .int .i64 z] W fun e W' => RgPost (getS f z s.data.toList m) W e W') := fun W hW => rgets_any s m a n cap f z W (by omega) (ri_below h hW) (by omega)
    obtain ⟨pe, hpe⟩ : ∃ pe, (putS f z ps).1 = pe := ⟨_, rfl⟩
    obtain ⟨P, hP⟩ : ∃ P, bs (putS f z ps).2 = P := ⟨_, rfl⟩
    rw [hpe, hP] at PU RU1
    have LL := getS_len f z s.data.toList m
    obtain ⟨g, hg⟩ : ∃ g, getS f z s.data.toList m = g := ⟨_, rfl⟩
    rw [hg] at GU RG LL
    obtain ⟨er, L⟩ := g
    simp only at LL
    clear h hp hf hbig hpe hP hg
    go_enter Tryz.func3, Tryz.ntmps3
    go_wp2_with fail
    with_reducible refine PU.mono ?_
    rintro e w1 ⟨rfl, b1⟩
    have B1 := Hid.intro b1
    have RU2 := RU1.out w1 b1
    clear PU b1 RU1
    go_wp2_with fail
    with_reducible refine RU2.mono ?_
    rintro e w2 ⟨rfl, b2⟩
    have hb2 := B1.out.trans (b2.mono B1.out.size)
    have hb3 := hb2.alloc hb2.size (.cells #[.string P, .int .i64 (pe : Int)] 29)
    have bk3 := blk_new w2 #[.string P, .int .i64 (pe : Int)] 29
    have GU2 := GU.out _ hb3
    have HB3 := Hid.intro hb3
    have BK3 := Hid.intro bk3
    clear RU2 b2 hb2 hb3 bk3 B1 GU
    go_wp2_with fail
    with_reducible refine GU2.mono ?_
    rintro e w4 ⟨v1, rfl, r1, b4⟩
    obtain ⟨a1, cap1, rfl, -, -, rp1⟩ := own_rp r1
    have hb4 := HB3.out.trans (b4.mono HB3.out.size)
    have RG2 := RG.out w4 hb4
    have BK4 := Hid.intro (blk_below BK3.out b4 (by simp))
    have HB4 := Hid.intro hb4
    have R1 := Hid.intro rp1
    clear GU2 b4 r1 rp1 hb4 RG BK3 HB3
    go_wp2_with fail
    with_reducible refine RG2.mono ?_
    rintro e w5 ⟨v2, rfl, r2, b5⟩
    obtain ⟨a2, cap2, rfl, -, -, rp2⟩ := own_rp r2
    simp only at rp2 ⊢
    obtain ⟨n1, hn1⟩ : ∃ n1, L.length = n1 := ⟨_, rfl⟩
    have hb5 := HB4.out.trans (b5.mono HB4.out.size)
    have bk5 := blk_below BK4.out b5 (blk_lt BK4.out)
    have R1' := Hid.intro (rp_below R1.out b5)
    have R2 := Hid.intro rp2
    simp only [hn1] at R1' R2 LL ⊢
    have b8 : Below w5.heap.size w5 (w5.alloc (.cells #[.slice a2 n1 cap2, .int .i64 (er : Int)] 34)) := (Below.refl _ _).alloc (Nat.le_refl _) _
    have bk8 := blk_new w5 #[.slice a2 n1 cap2, .int .i64 (er : Int)] 34
    have bk9 := blk_alloc bk5 (.cells #[.slice a2 n1 cap2, .int .i64 (er : Int)] 34)
    obtain ⟨w8, hw8⟩ : ∃ w8, w5.alloc (.cells #[.slice a2 n1 cap2, .int .i64 (er : Int)] 34) = w8 := ⟨_, rfl⟩
    rw [hw8] at b8 bk8 bk9
    have B8 : Below w.heap.size w w8 := hb5.trans (b8.mono hb5.size)
    have hS : (w8.drew.cell? ⟨w2.heap.size, 0, none⟩ = some (.string P) ∧ w8.drew.cell? ⟨w2.heap.size, 1, none⟩ = some (.int .i64 (pe : Int)) ∧ w8.drew.cell? ⟨w5.heap.size, 0, none⟩ = some (.slice a2 n1 cap2) ∧ w8.drew.cell? ⟨w5.heap.size, 1, none⟩ = some (.int .i64 (er : Int))) ∧ Below w8.heap.size w8 w8.drew :=
      ⟨⟨by show w8.cell? _ = _; rw [blk_cell bk9]; rfl, by show w8.cell? _ = _; rw [blk_cell bk9]; rfl, by show w8.cell? _ = _; rw [blk_cell bk8]; rfl, by show w8.cell? _ = _; rw [blk_cell bk8]; rfl⟩, (Below.refl _ _).drew⟩
    have bkl := blk_lt bk8
    have bkl2 := blk_lt bk9
    have SA : ∀ W, Below w8.heap.size w8 W → Calls Tryz.prog 11 #[.slice a1 n1 cap1, .slice a2 n1 cap2] W fun e W' => e = .returned (.bool true) ∧ Below W.heap.size W W' := fun W hW => by
      have c := sameP_any a1 a2 n1 n1 cap1 cap2 (L.map toIP) (L.map toIP) W (rp_below (rp_below R1'.out b8) hW) (rp_below (rp_below R2.out b8) hW) (by omega) (by omega)
      rw [decide_eq_true rfl] at c; exact c
    have ER := err_i
    have AW := st_awake
    have t0 : (P.toList == P.toList) = true := by simp
    have t1 : ((pe : Int) == (pe : Int)) = true := by simp
    have t2 : ((er : Int) == (er : Int)) = true := by simp
    have HB8 := Hid.intro B8
    have HW8 := Hid.intro hw8
    clear b8 bk8 bk9 bk5 B8 hw8 hb5 b5 r2 rp2 R1 R1' R2 RG2 HB4 BK4 hn1
    go_wp2_with fail
    rw [HW8.out]
    clear HW8
    go_region_held3 (fun W => (W.cell? ⟨w2.heap.size, 0, none⟩ = some (.string P) ∧ W.cell? ⟨w2.heap.size, 1, none⟩ = some (.int .i64 (pe : Int)) ∧ W.cell? ⟨w5.heap.size, 0, none⟩ = some (.slice a2 n1 cap2) ∧ W.cell? ⟨w5.heap.size, 1, none⟩ = some (.int .i64 (er : Int))) ∧ Below w8.heap.size w8 W) (first | exact hS | exact held_keep4 bkl2 bkl (by assumption) (by assumption) | assumption) (first
      | (go_at_call 11; refine (SA _ ?_).mono ?_; exact held_tail (by assumption); rintro e w9 ⟨rfl, hb9⟩)
      | (go_at_call 10; refine (ER _ _).mono ?_; rintro e w9 ⟨rfl, hb9⟩; have hb9 := held_same hb9)
      | (go_at_call 5; refine (AW _).mono ?_; rintro e w9 ⟨rfl, hb9⟩))
    all_goals
      have hT : ∃ p : Prop, p ∧ Below w8.heap.size w8 w9 := ⟨_, by assumption⟩
      obtain ⟨_, _, hT⟩ := hT
      have B9 := Hid.intro (HB8.out.trans (hT.mono HB8.out.size))
      clear hT
      go_wp2_with fail
      go_ret
      exact ⟨rfl, B9.out⟩
end Go.Proofs.YtofclflcicjlaaaGreat
