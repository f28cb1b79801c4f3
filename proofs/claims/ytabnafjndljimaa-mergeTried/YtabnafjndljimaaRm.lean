/-
  The lengths of order's classes, where there are two or more.
-/
import Derived.Test.YtabnafjndljimaaRk
namespace Go.Proofs.Ytabnafjndljimaa
open Go.ChangeShapes Go.WideShapes Go.ChangeAt Go.RowKit
open Go.ChangeMaps (open_string shut_string)

set_option maxRecDepth 100000 in
set_option maxHeartbeats 2000000 in
theorem ranked_many (af : Option Addr) (cf : Nat) (f : List Int) (b N cap limit : Nat) (o : List Nat) (W : World) (hf : RI W af f.length f) (hfb : ∀ z ∈ f, 0 ≤ z ∧ z ≤ 16777216) (ho : Ordered f f.length o) (hN : o.length = N) (h2 : 2 ≤ N) (h65 : N ≤ 65) (hfl : f.length ≤ 1000)
    (hr : W.ownsRow 0 3 1 (.slice (some ⟨b, 0, none⟩) N cap) N (nis o)) (h7 : 7 ≤ limit) (h15 : limit ≤ 15) :
    Calls Try.prog 20 #[.slice af f.length cf, .slice (some ⟨b, 0, none⟩) N cap, .int .i64 (limit : Int)] W fun e W' => ∃ (pk : Pk) (r : List Nat), e = .returned (pcv N pk) ∧ pk.ts = r ∧ Ranks f limit o r ∧ Tm W' N pk ∧ W.heap.size ≤ pk.b ∧ Below W.heap.size W W' := by
  have mk := make_packs N (by omega) W
  have om := own_made_packs W N (by omega)
  have b0 : Below W.heap.size W (W.alloc (.cells (madeCells #[.int .i64 0, .slice none 0 0] (N * 2)) 63)) := (Below.refl _ _).alloc (Nat.le_refl _) _
  have ST : Hid (RkRel f o N W.heap.size W (.int .i64 0) (W.alloc (.cells (madeCells #[.int .i64 0, .slice none 0 0] (N * 2)) 63))) := ⟨0, [], by omega, rfl, rfl, own_low om (Nat.zero_le _), fun p hp => by simp at hp, rfl, b0⟩
  have HF := Hid.intro hf
  have HFB := Hid.intro hfb
  have HO := Hid.intro ho
  have HR := Hid.intro hr
  have HN := Hid.intro hN
  clear om b0 hf hfb ho hr hN
  go_enter Try.func20, Try.ntmps20
  go_wp2_with fail
  obtain ⟨S, hS⟩ : ∃ S, W.heap.size = S := ⟨_, rfl⟩
  simp only [hS] at ST ⊢
  generalize W.alloc (.cells (madeCells #[.int .i64 0, .slice none 0 0] (N * 2)) 63) = w1 at *
  have HS := Hid.intro hS
  clear hS mk
  go_loopw [23] (fun sv wr => RkRel f o N S W sv wr) (fun sv _ => N - (intOf sv).toNat)
  case atStart => exact ST.out
  case round =>
    clear ST
    obtain ⟨i, ps, hi, rfl, d1, d2, d3, d4, d5⟩ := hrel
    by_cases hlt : i < N
    · have hio : i < o.length := by rw [HN.out]; exact hlt
      have om := (ordered_mem HO.out (g o i)).1 (g_mem o i hio)
      have hr' := own_later HR.out (d5)
      have co : wr.cell? ⟨b, i, none⟩ = some (.int .i64 (g o i : Int)) := by
        have := (own_there hr' i (by omega)).1
        rw [this]; rw [g_eq o i hio]; simp [nis, ivs, iv, hio]
      obtain ⟨x, hx, hxc⟩ := (HF.out).2 (by omega)
      have cx := hxc (g o i) om.1
      have cx' : wr.cell? (x.add (g o i)) = some (.int .i64 f[g o i]) := by rw [d5.cell (World.block_lt_of_cell? _ _ cx)]; exact cx
      have bd := HFB.out _ (List.getElem_mem om.1)
      have fa := fr_at f (g o i) om.1
      obtain ⟨z, hz⟩ : ∃ z : Nat, f[g o i] = (z : Int) := ⟨(f[g o i]).toNat, by omega⟩
      have hz0 : z = at0 (cs f o) i := by rw [cs_at f o i hio, fa, hz]; rfl
      rw [hz] at cx' bd
      have mk := make_ints 22 3 Try.underlying22 info3 N (by omega) wr
      have cx2 : ((wr.alloc (.cells (madeCells #[.int .i64 0] N) 3)).setCell ⟨wr.heap.size, i, none⟩ (.int .i64 1)).cell? (x.add (g o i)) = some (.int .i64 (z : Int)) := by
        have bl : Below wr.heap.size wr ((wr.alloc (.cells (madeCells #[.int .i64 0] N) 3)).setCell ⟨wr.heap.size, i, none⟩ (.int .i64 1)) := chg_below (S := fun _ => False) (chg_set (chg_alloc (chg_refl _ _) _) _ _ (fun h => by simp at h)) (Nat.le_refl _) (fun _ h => h.elim)
        rw [bl.cell (World.block_lt_of_cell? _ _ cx')]; exact cx'
      have R := (rk_step hlt (by omega) HN.out hz0 (by omega) (Nat.le_of_eq HS.out) d1 d2 d3 d4 d5)
      rw [World.setCell_alloc_new] at cx2 R
      have olt := om.1
      have lS := (d2.lt S rfl).2
      rw [World.setCell_alloc_past _ _ _ _ lS, World.setCell_alloc_past _ _ _ _ (by rw [Go.Deep.nblk_setCell]; exact lS)] at R
      have R := Hid.intro R
      obtain ⟨q1, q2, q3, q4, q5, q6⟩ : ∃ u v, wr.cell? ⟨S, i * 2, none⟩ = some u ∧ wr.cell? ⟨S, i * 2 + 1, none⟩ = some v ∧ wr.frozen? ⟨S, i * 2, none⟩ = false ∧ wr.frozen? ⟨S, i * 2 + 1, none⟩ = false := own_two d2 i hlt
      have omi := own_made_ints wr 3 N (by omega)
      obtain ⟨t1, t2, t3⟩ := own_one omi i hlt
      subst hx
      clear omi d1 d2 d3 d4 d5 hr' cx hxc om bd fa hz hz0 hio
      generalize g o i = y at *
      go_wp2_with fail
      go_roundw
      case rel => exact R.out
      case measure => simp [intOf]; omega
    · obtain rfl : i = N := by omega
      have rk : RK wr (some ⟨S, 0, none⟩) i i i ps := by
        refine ⟨d1, fun h => (by cases h), fun x hx j u hu => ?_⟩
        injection hx with hx
        subst hx
        refine d2.cells (g := S) rfl j u ?_
        rw [Nat.sub_self, rep, List.append_nil]; exact hu
      have e : ps.map key = ks (cs f o) := by rw [d4, List.take_of_length_le (by rw [ks_len, cs_len, HN.out]; exact Nat.le_refl _)]
      have lo := cs_len f o
      rw [HN.out] at lo
      have CH := cheapest_any (some ⟨S, 0, none⟩) i i limit ps (ks (cs f o)).reverse wr rk (fun p hp => ⟨(d3 p hp).1, (d3 p hp).2.1, fun h => h⟩) h2 h65 (by omega) h15 (by rw [e]; exact (List.reverse_perm _).symm) (ks_rising _ (cs_falls HO.out)) (by rw [TL_tl, List.length_reverse, ks_len, lo]; exact tl_room _ h65 limit h15 h7)
      have HB := Hid.intro d5
      have HL := Hid.intro lo
      clear d1 d2 d3 d4 d5 rk e lo
      go_wp2_with fail
      with_reducible refine CH.mono ?_
      rintro e w2 ⟨pk, rfl, k1, k2, k3, k5, k4⟩
      have R : Hid (Ranks f limit o pk.ts) := by
        have hk := HL.out
        rw [← hk] at k1 k3 h65 h2
        obtain ⟨ls, c1, c2⟩ := times_are (cs f o) limit (cs_falls HO.out) (cs_pos HO.out) h2 h65 h7 h15 pk k1 k3
        rw [cs_len] at c1 c2
        refine ⟨by rw [c2, vec_len], fun h => ?_, fun _ => ⟨ls, c1, c2⟩⟩
        have := HN.out; omega
      have B2 := Hid.intro (HB.out.trans (k4.mono HB.out.size))
      have K5 : Hid (W.heap.size ≤ pk.b) := Nat.le_trans HB.out.size k5
      clear CH k1 k3 k4 k5
      unfold pcv
      go_wp2_with fail
      go_ret
      exact ⟨pk, pk.ts, rfl, rfl, R.out, k2, K5.out, B2.out⟩
end Go.Proofs.Ytabnafjndljimaa
