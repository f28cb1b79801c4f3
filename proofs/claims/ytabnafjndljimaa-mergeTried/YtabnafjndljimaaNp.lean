/-
  Pop of a heap of packages: what comes out, and what is left.
-/
import Derived.Test.YtabnafjndljimaaDp
import Derived.Test.YtabnafjndljimaaPop
namespace Go.Proofs.Ytabnafjndljimaa
open Go.ChangeShapes Go.WideShapes Go.ChangeAt Go.RowKit
open Go.ChangeMaps (open_string shut_string)

theorem qp_popped {W : World} {A b cap n N D : Nat} {tbl : List Pk} {l : List Nat} (h : Qp W A (.slice (some ⟨b, 0, none⟩) (n + 1) cap) N D tbl l) (hn : l.length = n + 1) (o : Obj) :
    Qp ((W.setCell ⟨A, 0, none⟩ (.slice (some ⟨b, 0, none⟩) n cap)).alloc o) A (.slice (some ⟨b, 0, none⟩) n cap) N D tbl (l.take n) := by
  obtain ⟨h1, o1, h3, h4, h5⟩ := h
  rw [hn] at o1
  have o2 := own_take o1 (Nat.le_succ n)
  have e : (kvs N tbl l).take (n * 2) = kvs N tbl (l.take n) := tvs_take _ _ l n
  rw [e] at o2
  have hlt : (l.take n).length = n := by rw [List.length_take]; omega
  have c : Chg (· = A) W ((W.setCell ⟨A, 0, none⟩ (.slice (some ⟨b, 0, none⟩) n cap)).alloc o) := chg_alloc (chg_in (chg_refl _ _) _ _) _
  refine ⟨blk_alloc (by simpa using blk_set h1 0 (.slice (some ⟨b, 0, none⟩) n cap)) _, ?_, h3, tbl_kept h4 c (fun k e => .inl e), fun i hi => h5 i (List.mem_of_mem_take hi)⟩
  rw [hlt]
  exact own_kept o2 c (fun k hk e => h3 (by rw [← e]; exact hk))
set_option maxRecDepth 100000 in
set_option maxHeartbeats 1000000 in
theorem qpopP_any (A b cap n N D : Nat) (tbl : List Pk) (l : List Nat) (W : World) (h : Qp W A (.slice (some ⟨b, 0, none⟩) (n + 1) cap) N D tbl l) (hn : l.length = n + 1) (hl : n ≤ 1000) :
    Calls Try.prog 68 #[.pointer (some ⟨A, 0, none⟩)] W fun e W' => e = .returned (.iface 63 (pav N (T tbl (g l n)))) ∧
      Qp W' A (.slice (some ⟨b, 0, none⟩) n cap) N D tbl (l.take n) ∧ Chg (foot A (.slice (some ⟨b, 0, none⟩) (n + 1) cap)) W W' := by
  obtain ⟨c0, f0⟩ := qp_cell h
  have o1 := h.2.1
  rw [hn] at o1
  have c1 : W.cell? ⟨b, n * 2, none⟩ = some (.int .i64 ((T tbl (g l n)).c : Int)) := (own_there o1 (n * 2) (by omega)).1.trans (tvs_fst _ _ l n (by omega))
  have c2 : W.cell? ⟨b, n * 2 + 1, none⟩ = some (pcv N (T tbl (g l n))) := (own_there o1 (n * 2 + 1) (by omega)).1.trans (tvs_snd _ _ l n (by omega))
  have hA := blk_lt h.1
  have hcap : n + 1 ≤ cap := by
    rcases o1.2 with ⟨h0, _⟩ | ⟨g', cap', cur, hv, _, _, hc, _⟩
    · cases h0
    · injection hv with _ _ e3; omega
  clear o1
  have HN := Hid.intro hn
  clear hn
  unfold pav
  unfold pcv at c2 ⊢
  generalize (T tbl (g l n)).c = x at *
  generalize (T tbl (g l n)).b = y at *
  generalize (T tbl (g l n)).cap = z at *
  go_enter Try.func68, Try.ntmps68
  go_wp2_with fail
  go_returns
  exact ⟨rfl, qp_popped h HN.out _, chg_alloc (chg_set (chg_refl _ _) _ _ (fun _ => .inl rfl)) _⟩
set_option maxRecDepth 100000 in
set_option maxHeartbeats 1000000 in
theorem hpopP_any (A b cap n N D : Nat) (tbl : List Pk) (all out l : List Nat) (W : World) (h : Qp W A (.slice (some ⟨b, 0, none⟩) (n + 1) cap) N D tbl l) (hn : l.length = n + 1) (hl : n ≤ 500) (hN : N ≤ 100000) (hD : D < 16777216) (hp : PopInv (klt tbl) all out l) :
    Calls Try.prog 33 #[.iface 74 (.pointer (some ⟨A, 0, none⟩))] W fun e W' => e = .returned (.iface 63 (pav N (T tbl (g l 0)))) ∧
      ∃ l', Qp W' A (.slice (some ⟨b, 0, none⟩) n cap) N D tbl l' ∧ l'.length = n ∧ PopInv (klt tbl) all (out ++ [g l 0]) l' ∧ Chg (foot A (.slice (some ⟨b, 0, none⟩) (n + 1) cap)) W W' := by
  obtain ⟨c0, f0⟩ := qp_cell h
  have ml := methodP_len A _ W c0
  have ms := methodP_swap A _ W c0
  have LN := lenP (some ⟨b, 0, none⟩) (n + 1) cap W
  have SW := swapP_any (i := 0) (j := n) h hn (by omega) (by omega) (by omega)
  have hq := hp.2.2.2
  rw [hn] at hq
  have ps := pop_start hn hq
  have HN := Hid.intro hn
  have HP := Hid.intro hp
  clear hn hp hq
  go_enter Try.func33, Try.ntmps33
  go_wp2_with fail
  with_reducible refine LN.mono ?_
  rintro e w1 ⟨rfl, rfl⟩
  go_wp2_with fail
  refine SW.mono ?_
  rintro e w2 ⟨rfl, k1, k2⟩
  have hs : (sw l 0 n).length = n + 1 := by rw [sw_len]; exact HN.out
  have DN := downP_any A _ N D tbl (sw l 0 n) 0 n w2 k1 ps (by omega) (by omega) (by omega) (by omega) hN hD
  rw [show ((0 : Nat) : Int) = 0 from rfl] at DN
  clear LN SW ml ms c0 f0 hs
  go_wp2_with fail
  with_reducible refine DN.mono ?_
  rintro e w3 ⟨r, rfl, l3, m1, m2, m3, m4, m5⟩
  have hl3 : l3.length = n + 1 := by rw [m2.length_eq, sw_len]; exact HN.out
  have PO := qpopP_any A b cap n N D tbl l3 w3 m1 hl3 (by omega)
  obtain ⟨z1, z2⟩ := pop_next (klt_ord tbl) HP.out HN.out m2 (m3 n (Nat.le_refl _)) m4
  rw [z1] at PO
  have hlt : Hid ((l3.take n).length = n) := by show _ = _; rw [List.length_take]; omega
  clear DN hl3 z1
  go_wp2_with fail
  with_reducible refine PO.mono ?_
  rintro e w4 ⟨rfl, y1, y2⟩
  clear PO
  go_wp2_with fail
  go_returns
  exact ⟨rfl, l3.take n, y1, hlt.out, z2, chg_same (chg_same k2 m5) y2⟩
theorem assert_pack (x : Int) (a : Option Addr) (n c : Nat) (W : World) : (Instr.typeAssert (.iface 63 (.agg #[.int .i64 x, .slice a n c])) 20 63 false).run Try.prog W = .ok (.agg #[.int .i64 x, .slice a n c]) W := by kernel_rfl
end Go.Proofs.Ytabnafjndljimaa
