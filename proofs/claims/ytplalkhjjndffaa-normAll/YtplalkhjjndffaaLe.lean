/-
  What is too much is taken one by one from the greatest number; each condition stands at its theorem.
-/
import Derived.Test.YtplalkhjjndffaaNl
import Derived.Test.YtplalkhjjndffaaQo
import Derived.Test.YtplalkhjjndffaaOx
namespace Go.Proofs.Ytplalkhjjndffaa
open Go.ChangeShapes Go.WideShapes Go.ChangeAt Go.RowKit
open Go.ChangeMaps (open_string shut_string)

theorem mx_le_sum (l : List Nat) : mxOf l ≤ l.sum := by
  induction l with
  | nil => simp [mxOf]
  | cons x l ih => simp only [mxOf, List.sum_cons]; omega
def LeRel (L : List Nat) (base g0 c m A : Nat) (W : World) (iv : Value) (wr : World) : Prop :=
  ∃ (i : Nat) (v : Value) (l' : List Nat), i ≤ m ∧ iv = .int .i64 i ∧ Qun wr A v ((decN i L).map Int.ofNat) l' ∧ l'.Perm (List.range 65) ∧ HeapFrom (ltf ((decN i L).map Int.ofNat)) l' l'.length 0 ∧
    wr.ownsRow base 3 1 (.slice (some ⟨g0, 0, none⟩) 65 c) 65 (nis (decN i L)) ∧ From W.heap.size v ∧ Chg (· = g0) W wr
set_option maxRecDepth 100000 in
set_option maxHeartbeats 2000000 in
/-- What is too much is taken one by one from the greatest number. -/
theorem lessen_any (base g0 c m : Nat) (L : List Nat) (w : World) (h : w.ownsRow base 3 1 (.slice (some ⟨g0, 0, none⟩) 65 c) 65 (nis L)) (hL : L.length = 65) (hf : FI (L.map Int.ofNat)) (hm : 65 + m ≤ L.sum) (hmx : m ≤ 1000000) (hsm : L.sum ≤ 1000000) :
    Calls Try.prog 25 #[.slice (some ⟨g0, 0, none⟩) 65 c, .int .i64 (m : Int)] w fun e w' => e = .returned (.tuple #[]) ∧ w'.ownsRow base 3 1 (.slice (some ⟨g0, 0, none⟩) 65 c) 65 (nis (decN m L)) ∧ Chg (· = g0) w w' := by
  have hg0 := (h.lt g0 rfl).2
  obtain ⟨a', c', hv, -, -, hri⟩ := own_ri (zs := L.map Int.ofNat) h
  injection hv with e1 _ e3
  subst e1 e3
  have QO := queueOf_any (some ⟨g0, 0, none⟩) 65 c (L.map Int.ofNat) w hri hf (by omega) (by omega)
  have HS := Hid.intro (decN_sum m L (by omega))
  have HL := Hid.intro hL
  have HM := Hid.intro hm
  have HO := Hid.intro h
  obtain ⟨S, hS⟩ : ∃ S, w.heap.size = S := ⟨_, rfl⟩
  have HSz := Hid.intro hS
  rw [hS] at QO hg0
  clear h hf hri hm hL hS
  go_enter Try.func25, Try.ntmps25
  go_wp2_with fail
  with_reducible refine QO.mono ?_
  rintro e w1 ⟨rfl, l1, q1, q2, q3, q4⟩
  clear QO
  have ST : Hid (LeRel L base g0 c m (S + 1) w (.int .i64 0) w1) :=
    ⟨0, _, l1, Nat.zero_le _, rfl, q1, q2, q3, own_later HO.out (by rw [HSz.out]; exact q4), fun k hk => by simp [Value.ownBlock] at hk; rw [HSz.out]; omega, chg_of (by rw [HSz.out]; exact q4)⟩
  clear q1 q2 q3 q4
  go_wp2_with fail
  go_loopw [9] (fun iv wr => LeRel L base g0 c m (S + 1) w iv wr) (fun iv _ => m - (intOf iv).toNat)
  case atStart => exact ST.out
  case round =>
    clear ST
    obtain ⟨i, v, l', hi, rfl, d1, d2, d3, d4, d5, d6⟩ := hrel
    by_cases hlt : i < m
    · have hlen : l'.length = 65 := by rw [d2.length_eq, List.length_range]
      have ML := Hid.intro (show (decN i L).length = 65 by rw [decN_length]; exact HL.out)
      have MS := Hid.intro (show (decN i L).length < (decN i L).sum by have a := decN_sum i L (by have := HM.out; have := HL.out; omega); have := ML.out; have := HM.out; omega)
      have DS := Hid.intro (decN_succ i L)
      obtain ⟨b, cap, rfl⟩ := own_slice d1.2.1 (by omega)
      rw [hlen] at d1
      generalize hM : decN i L = M at *
      have TP := heap_top d3 (by rw [ML.out]; exact d2) (by rw [ML.out]; omega)
      have NX := next_anyn (S + 1) b cap 64 (M.map Int.ofNat) (List.range M.length) [] l' wr (by simpa using d1) (by omega) (by omega) ⟨by rw [ML.out]; simpa using d2, List.Pairwise.nil, fun a ha => by simp at ha, d3⟩
      have FX : Hid (fr (M.map Int.ofNat) (topOf M) - 1 = fr ((dec M).map Int.ofNat) (topOf M)) := (fr_dec_top MS.out).symm
      have p65 : topOf M < 65 := by have := topOf_lt M (ne_of_sum MS.out); rw [ML.out] at this; exact this
      have xb : 0 ≤ fr (M.map Int.ofNat) (topOf M) ∧ fr (M.map Int.ofNat) (topOf M) ≤ 1000000 := by
        rw [fr_map, topOf_get]
        have a := mx_le_sum M
        have b : M.sum ≤ L.sum := by rw [← hM]; have := decN_sum i L (by have := HM.out; have := HL.out; omega); omega
        omega
      have DN := Hid.intro (dec_nis MS.out)
      rw [TP] at NX
      have x0 := xb.1
      have x1 := xb.2
      have HI := Hid.intro hM
      clear TP xb hM d1 d2 d3
      generalize hx : fr (M.map Int.ofNat) (topOf M) = x at *
      generalize hp : topOf M = p at *
      go_wp2_with fail
      with_reducible refine NX.mono ?_
      rintro e w2 ⟨rfl, l2, k1, k2, k3, k4⟩
      clear NX
      have db : S ≤ b := by have := d5 b rfl; rw [HSz.out] at this; exact this
      have ft : ∀ n' k, foot (S + 1) (.slice (some ⟨b, 0, none⟩) n' cap) k → S ≤ k := fun n' k hk => hk.elim (fun e => by omega) (fun e => by simp [Value.ownBlock] at e; omega)
      have zz := blk_lt k1.1
      have hgz : g0 < w2.heap.size := by omega
      obtain ⟨n1, n2, n3⟩ := pop_rest k3
      have r2 := own_kept d4 k4 (fun k hk hf => by simp [Value.ownBlock] at hk; have := ft _ k hf; omega)
      have r3 := own_set r2 p (.int .i64 (x - 1))
      have r4 := World.ownsRow.alloc r3 (.cells #[.int .i64 (p : Int), .int .i64 (x - 1)] 73)
      rw [DN.out] at r4
      obtain ⟨-, s6, f6⟩ := own_there r2 p (by omega)
      obtain ⟨y6, c6⟩ := Option.isSome_iff_exists.1 s6
      have C4 := chg_alloc (chg_in (chg_refl (· = g0) w2) p (.int .i64 (x - 1))) (.cells #[.int .i64 (p : Int), .int .i64 (x - 1)] 73)
      have q4 := qu_keptn k1 C4 (fun k hf e => by have := ft _ k hf; omega)
      have nb := n1
      rw [← hp] at n1
      have q5 : Qun ((w2.setCell ⟨g0, p, none⟩ (.int .i64 (x - 1))).alloc (.cells #[.int .i64 (p : Int), .int .i64 (x - 1)] 73)) (S + 1) (.slice (some ⟨b, 0, none⟩) 64 cap) ((dec M).map Int.ofNat) l2 := by
        unfold Qun at q4 ⊢
        rw [evs_dec MS.out n1]
        exact q4
      have PU := hpush_anyn (S + 1) (.slice (some ⟨b, 0, none⟩) 64 cap) ((dec M).map Int.ofNat) l2 p (x - 1) _ q5 (heap_dec MS.out n1 n3) FX.out (by omega)
      have c24 := chg_trans (chg_trans d6 k4 (fun k hk t => by have := ft _ k t; have := HSz.out; omega)) C4 (fun _ _ e => e)
      have z4 := chg_size c24
      have R4 := Hid.intro r4
      have C24 := Hid.intro c24
      have N2 := Hid.intro n2
      have D5 := Hid.intro d5
      have FT := Hid.intro ft
      have Z4 := Hid.intro z4
      clear r2 r3 r4 s6 C4 q4 q5 n1 n2 n3 nb c24 z4 k1 k2 k3 k4 d4 d5 d6 ft FX DN hp hx
      go_wp2_with fail
      with_reducible refine PU.mono ?_
      rintro e w5 ⟨rfl, v5, l5, j1, j2, j3, j4, j5⟩
      clear PU c6 f6
      have r5 := own_kept R4.out j4 (fun k hk hf => by simp [Value.ownBlock] at hk; have := FT.out _ k hf; omega)
      have c5 := chg_trans C24.out j4 (fun k hk t => by have := FT.out _ k t; have := HSz.out; omega)
      have f5 := from_moved D5.out j5 Z4.out
      have P5 := j2.trans N2.out
      rw [ML.out] at P5
      clear j2 j4 j5
      go_wp2_with fail
      go_roundw
      case rel => exact ⟨i + 1, v5, l5, by omega, by go_num, by rw [DS.out]; exact j1, P5, by rw [DS.out]; exact j3, by rw [DS.out]; exact r5, f5, c5⟩
      case measure => simp [intOf]; omega
    · obtain rfl : i = m := by omega
      clear d1 d2 d3
      go_wp2_with fail
      go_returns
      exact ⟨rfl, d4, d6⟩
end Go.Proofs.Ytplalkhjjndffaa
