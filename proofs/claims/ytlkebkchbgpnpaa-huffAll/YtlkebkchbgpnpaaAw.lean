/-
  HuffAll: the walk.
-/
import Derived.Test.YtlkebkchbgpnpaaGh
import Derived.Test.YtlkebkchbgpnpaaPu
import Derived.Test.YtlkebkchbgpnpaaJa
import Derived.Test.YtlkebkchbgpnpaaRpy
import Derived.BigRegion
namespace Go.Proofs.Ytlkebkchbgpnpaa
open Go.ChangeShapes Go.WideShapes Go.ChangeAt Go.RowKit
open Go.ChangeMaps (open_string shut_string)

theorem held_keep4 {w8 a b : World} {B C : Nat} {u v x y : Value} (hB : B < w8.heap.size) (hC : C < w8.heap.size) (h : (a.cell? ⟨B, 0, none⟩ = some u ∧ a.cell? ⟨B, 1, none⟩ = some v ∧ a.cell? ⟨C, 0, none⟩ = some x ∧ a.cell? ⟨C, 1, none⟩ = some y) ∧ Below w8.heap.size w8 a) (k : Below a.heap.size a b) :
    (b.cell? ⟨B, 0, none⟩ = some u ∧ b.cell? ⟨B, 1, none⟩ = some v ∧ b.cell? ⟨C, 0, none⟩ = some x ∧ b.cell? ⟨C, 1, none⟩ = some y) ∧ Below w8.heap.size w8 b := by
  have hs : B < a.heap.size := Nat.lt_of_lt_of_le hB h.2.size
  have hs2 : C < a.heap.size := Nat.lt_of_lt_of_le hC h.2.size
  refine ⟨⟨?_, ?_, ?_, ?_⟩, h.2.trans (k.mono h.2.size)⟩
  · rw [(bcell k).1 B 0 hs]; exact h.1.1
  · rw [(bcell k).1 B 1 hs]; exact h.1.2.1
  · rw [(bcell k).1 C 0 hs2]; exact h.1.2.2.1
  · rw [(bcell k).1 C 1 hs2]; exact h.1.2.2.2
set_option maxRecDepth 100000 in
set_option maxHeartbeats 8000000 in
theorem all_walk (al : Option Addr) (nl capl : Nat) (ps : List (Int × Int)) (a : Option Addr) (n cap : Nat) (f : List Int) (s : ByteArray) (m : Int) (w : World) (hp : RP w al nl ps) (hf : ∀ p ∈ ps, 0 ≤ p.2 ∧ p.2 ≤ 18446744073709551615) (hnl : nl ≤ 9223372036854775807) (h : RI w a n f) (hn : n ≤ 9223372036854775807) (hs : s.size ≤ 9223372036854775807) :
    Calls Try.prog 3 #[.slice al nl capl, .slice a n cap, .string s, .int .i64 m] w fun e w' => e = .returned (.bool true) ∧ Below w.heap.size w w' := by
  by_cases hbig : 100 < nl ∨ 100 < n ∨ 300 < s.size
  · have AW := awake_any w
    clear h hp
    rcases (by omega : 100 < nl ∨ (¬ 100 < nl ∧ 100 < n) ∨ (¬ 100 < nl ∧ ¬ 100 < n ∧ 300 < s.size)) with h0 | ⟨h0, h1⟩ | ⟨h0, h1, h2⟩
    all_goals
      clear hbig
      go_enter Try.func3, Try.ntmps3
      go_wp2_with fail
      with_reducible refine AW.mono ?_
      rintro e w1 ⟨rfl, b1⟩
      clear AW
      go_wp2_with fail
      go_ret
      exact ⟨rfl, b1⟩
  · have h1 : ¬ 100 < nl := by omega
    have h2 : ¬ 100 < n := by omega
    have h3 : ¬ 300 < s.size := by omega
    have PU := hput_any al nl capl ps a n cap f w hp hf (by omega) h (by omega)
    have RU1 : Hid (∀ W, Below w.heap.size w W → Calls Try.prog 11 #[.slice al nl capl, .slice a n cap] W fun e W' => e = .returned (.agg #[.string (bs (putH f ps).2), .int .i64 ((putH f ps).1 : Nat)]) ∧ Below W.heap.size W W') := fun W hW => rputh_any al nl capl ps a n cap f W (rp_below hp hW) hf (by omega) (ri_below h hW) (by omega)
    have GU : Hid (∀ W, Below w.heap.size w W → Calls Try.prog 12 #[.string s, .int .i64 m, .slice a n cap] W fun e W' => HgPost (getH f s.data.toList m) W e W') := fun W hW => hget_any a n cap f s m W (ri_below h hW) (by omega) (by omega)
    have RG : Hid (∀ W, Below w.heap.size w W → Calls Try.prog 13 #[.string s, .int .i64 m, .slice a n cap] W fun e W' => RgPost (getH f s.data.toList m) W e W') := fun W hW => rgeth_any a n cap f s m W (ri_below h hW) (by omega) (by omega)
    obtain ⟨pe, hpe⟩ : ∃ pe, (putH f ps).1 = pe := ⟨_, rfl⟩
    obtain ⟨P, hP⟩ : ∃ P, bs (putH f ps).2 = P := ⟨_, rfl⟩
    rw [hpe, hP] at PU RU1
    obtain ⟨g, hg⟩ : ∃ g, getH f s.data.toList m = g := ⟨_, rfl⟩
    rw [hg] at GU RG
    obtain ⟨er, L⟩ := g
    clear h hp hf hbig hpe hP hg
    go_enter Try.func3, Try.ntmps3
    go_wp2_with fail
    with_reducible refine PU.mono ?_
    rintro e w1 ⟨rfl, b1⟩
    have B1 := Hid.intro b1
    have RU2 := RU1.out w1 b1
    clear PU b1 RU1
    go_wp2_with fail
    with_reducible refine RU2.mono ?_
    rintro e w2 ⟨rfl, b2⟩
    have hb2 := B1.out.trans (b2.mono B1.out.size)
    have hb3 := hb2.alloc hb2.size (.cells #[.string P, .int .i64 (pe : Int)] 29)
    have bk3 := blk_new w2 #[.string P, .int .i64 (pe : Int)] 29
    have GU2 := GU.out _ hb3
    have HB3 := Hid.intro hb3
    have BK3 := Hid.intro bk3
    clear RU2 b2 hb2 hb3 bk3 B1 GU
    go_wp2_with fail
    with_reducible refine GU2.mono ?_
    rintro e w4 ⟨a1, n1, cap1, rfl, r1, hn1, -, -, b4⟩
    have hb4 := HB3.out.trans (b4.mono HB3.out.size)
    have RG2 := RG.out w4 hb4
    have BK4 := Hid.intro (blk_below BK3.out b4 (by simp))
    have HB4 := Hid.intro hb4
    have R1 := Hid.intro r1
    clear GU2 b4 r1 hb4 RG BK3 HB3
    go_wp2_with fail
    with_reducible refine RG2.mono ?_
    rintro e w5 ⟨a2, n2, cap2, rfl, r2, hn2, -, -, b5⟩
    have hb5 := HB4.out.trans (b5.mono HB4.out.size)
    have bk5 := blk_below BK4.out b5 (blk_lt BK4.out)
    have R1' := Hid.intro (rp_below R1.out b5)
    have R2 := Hid.intro r2
    have b8 : Below w5.heap.size w5 (w5.alloc (.cells #[.slice a2 n2 cap2, .int .i64 (er : Int)] 34)) := (Below.refl _ _).alloc (Nat.le_refl _) _
    have bk8 := blk_new w5 #[.slice a2 n2 cap2, .int .i64 (er : Int)] 34
    have bk9 := blk_alloc bk5 (.cells #[.slice a2 n2 cap2, .int .i64 (er : Int)] 34)
    obtain ⟨w8, hw8⟩ : ∃ w8, w5.alloc (.cells #[.slice a2 n2 cap2, .int .i64 (er : Int)] 34) = w8 := ⟨_, rfl⟩
    rw [hw8] at b8 bk8 bk9
    have B8 : Below w.heap.size w w8 := hb5.trans (b8.mono hb5.size)
    have hS : (w8.drew.cell? ⟨w2.heap.size, 0, none⟩ = some (.string P) ∧ w8.drew.cell? ⟨w2.heap.size, 1, none⟩ = some (.int .i64 (pe : Int)) ∧ w8.drew.cell? ⟨w5.heap.size, 0, none⟩ = some (.slice a2 n2 cap2) ∧ w8.drew.cell? ⟨w5.heap.size, 1, none⟩ = some (.int .i64 (er : Int))) ∧ Below w8.heap.size w8 w8.drew :=
      ⟨⟨by show w8.cell? _ = _; rw [blk_cell bk9]; rfl, by show w8.cell? _ = _; rw [blk_cell bk9]; rfl, by show w8.cell? _ = _; rw [blk_cell bk8]; rfl, by show w8.cell? _ = _; rw [blk_cell bk8]; rfl⟩, (Below.refl _ _).drew⟩
    have bkl := blk_lt bk8
    have bkl2 := blk_lt bk9
    have SA : ∀ W, Below w8.heap.size w8 W → Calls Try.prog 15 #[.slice a1 n1 cap1, .slice a2 n2 cap2] W fun e W' => e = .returned (.bool true) ∧ Below W.heap.size W W' := fun W hW => by
      have c := sameP_any a1 a2 n1 n2 cap1 cap2 (L.map toI) (L.map toI) W (rp_below (rp_below R1'.out b8) hW) (rp_below (rp_below R2.out b8) hW) (by omega) (by omega)
      rw [decide_eq_true rfl] at c; exact c
    have ER := err_any
    have AW := awake_any
    have t0 : (P.toList == P.toList) = true := by simp
    have t1 : ((pe : Int) == (pe : Int)) = true := by simp
    have t2 : ((er : Int) == (er : Int)) = true := by simp
    have HB8 := Hid.intro B8
    have HW8 := Hid.intro hw8
    clear b8 bk8 bk9 bk5 B8 hw8 hb5 b5 r2 R1 R1' R2 RG2 HB4 BK4
    go_wp2_with fail
    rw [HW8.out]
    clear HW8
    go_region_held3 (fun W => (W.cell? ⟨w2.heap.size, 0, none⟩ = some (.string P) ∧ W.cell? ⟨w2.heap.size, 1, none⟩ = some (.int .i64 (pe : Int)) ∧ W.cell? ⟨w5.heap.size, 0, none⟩ = some (.slice a2 n2 cap2) ∧ W.cell? ⟨w5.heap.size, 1, none⟩ = some (.int .i64 (er : Int))) ∧ Below w8.heap.size w8 W) (first | exact hS | exact held_keep4 bkl2 bkl (by assumption) (by assumption) | assumption) (first
      | (go_at_call 15; refine (SA _ ?_).mono ?_; exact held_tail (by assumption); rintro e w9 ⟨rfl, hb9⟩)
      | (go_at_call 14; refine (ER _ _).mono ?_; rintro e w9 ⟨rfl, hb9⟩; have hb9 := held_same hb9)
      | (go_at_call 9; refine (AW _).mono ?_; rintro e w9 ⟨rfl, hb9⟩))
    all_goals
      have hT : ∃ p : Prop, p ∧ Below w8.heap.size w8 w9 := ⟨_, by assumption⟩
      obtain ⟨_, _, hT⟩ := hT
      have B9 := Hid.intro (HB8.out.trans (hT.mono HB8.out.size))
      clear hT
      go_wp2_with fail
      go_ret
      exact ⟨rfl, B9.out⟩
end Go.Proofs.Ytlkebkchbgpnpaa
