/-
  Push and Pop of the heap, and the queue's next: what comes out, and what is left.
-/
import Derived.Test.YtplalkhjjndffaaDn
namespace Go.Proofs.Ytplalkhjjndffaa
open Go.ChangeShapes Go.WideShapes Go.ChangeAt Go.RowKit
open Go.ChangeMaps (open_string shut_string)

theorem foot_moved {A : Nat} {v v' : Value} {W w1 w2 : World} (h1 : Chg (foot A v) W w1) (hm : Moved W v v') (h2 : Chg (foot A v') w1 w2) : Chg (foot A v) W w2 :=
  chg_trans h1 h2 (fun k hk hf => hf.elim (fun e => .inl e) (fun e => (hm k e).elim (fun e => .inr e) (fun e => by omega)))
set_option maxRecDepth 100000 in
set_option maxHeartbeats 1000000 in
theorem hpush_any (A : Nat) (v : Value) (f : List Int) (l : List Nat) (p : Nat) (x : Int) (W : World) (h : Qu W A v f l) (hh : HeapFrom (ltf f) l l.length 0) (hx : x = fr f p) (hl : l.length ≤ 1000) :
    Calls Try.prog 41 #[.iface 76 (.pointer (some ⟨A, 0, none⟩)), .iface 80 (.agg #[.int .i64 (p : Int), .int .i64 x])] W fun e W' => e = .returned (.tuple #[]) ∧
      ∃ v' l', Qu W' A v' f l' ∧ l'.Perm (l ++ [p]) ∧ HeapFrom (ltf f) l' l'.length 0 ∧ Chg (foot A v) W W' ∧ Moved W v v' := by
  have Q1 := qpush_any A v f l p x W h hx hl
  clear hx
  go_enter Try.func41, Try.ntmps41
  go_wp2_with fail
  with_reducible refine Q1.mono ?_
  rintro e w1 ⟨rfl, v1, k1, k2, k3⟩
  obtain ⟨c1, _⟩ := qu_cell k1
  have ml := method_len A _ w1 c1
  have hlen : (l ++ [p]).length = l.length + 1 := by simp
  obtain ⟨b, cap, rfl⟩ := own_slice k1.2.1 (by omega)
  have LN := len_q (some ⟨b, 0, none⟩) (l ++ [p]).length cap w1
  have U := up_any A _ f (l ++ [p]) l.length w1 k1 (up_start hh p) (by omega)
  rw [hlen] at ml LN U c1
  clear Q1 c1
  go_wp2_with fail
  with_reducible refine LN.mono ?_
  rintro e w2 ⟨rfl, rfl⟩
  go_wp2_with fail
  with_reducible refine U.mono ?_
  rintro e w3 ⟨rfl, l', m1, m2, m3, m4⟩
  clear U LN ml
  go_wp2_with fail
  go_returns
  refine ⟨rfl, _, l', m1, m2, m3, ?_, ?_⟩
  · rw [hlen] at k3; exact foot_moved k2 k3 m4
  · rw [hlen] at k3; exact k3
theorem own_take {W : World} {base e size g n m cap : Nat} {xs : List Value} (h : W.ownsRow base e size (.slice (some ⟨g, 0, none⟩) m cap) m xs) (hn : n ≤ m) : W.ownsRow base e size (.slice (some ⟨g, 0, none⟩) n cap) n (xs.take (n * size)) := by
  have hms : n * size ≤ m * size := Nat.mul_le_mul_right _ hn
  refine ⟨by rw [List.length_take, h.1]; omega, ?_⟩
  rcases h.2 with ⟨h0, _⟩ | ⟨g', cap', cur, hv, hb, hg, hc, hm, hs, ht⟩
  · cases h0
  · injection hv with e1 e2 e3
    injection e1 with e1
    injection e1 with e1
    subst e1 e3
    exact .inr ⟨g, cap, cur, rfl, hb, hg, by omega, hm, hs, by rw [← ht, List.take_take, Nat.min_eq_left hms]⟩
theorem qu_popped {W : World} {A b cap n : Nat} {f : List Int} {l : List Nat} (h : Qu W A (.slice (some ⟨b, 0, none⟩) (n + 1) cap) f l) (hn : l.length = n + 1) (o : Obj) :
    Qu ((W.setCell ⟨A, 0, none⟩ (.slice (some ⟨b, 0, none⟩) n cap)).alloc o) A (.slice (some ⟨b, 0, none⟩) n cap) f (l.take n) := by
  have o1 := h.2.1
  rw [hn] at o1
  have o2 := own_take o1 (Nat.le_succ n)
  rw [evs_take] at o2
  have hlt : (l.take n).length = n := by rw [List.length_take]; omega
  refine ⟨blk_alloc (by simpa using blk_set h.1 0 (.slice (some ⟨b, 0, none⟩) n cap)) _, ?_, h.2.2⟩
  rw [hlt]
  exact own_kept (S := (· = A)) o2 (chg_alloc (chg_in (chg_refl _ _) _ _) _) (fun k hk e => h.2.2 (by rw [← e]; exact hk))
set_option maxRecDepth 100000 in
set_option maxHeartbeats 1000000 in
theorem qpop_any (A b cap n : Nat) (f : List Int) (l : List Nat) (W : World) (h : Qu W A (.slice (some ⟨b, 0, none⟩) (n + 1) cap) f l) (hn : l.length = n + 1) (hl : n ≤ 1000) :
    Calls Try.prog 80 #[.pointer (some ⟨A, 0, none⟩)] W fun e W' => e = .returned (.iface 80 (.agg #[.int .i64 (g l n : Int), .int .i64 (fr f (g l n))])) ∧
      Qu W' A (.slice (some ⟨b, 0, none⟩) n cap) f (l.take n) ∧ Chg (foot A (.slice (some ⟨b, 0, none⟩) (n + 1) cap)) W W' := by
  obtain ⟨c0, f0⟩ := qu_cell h
  have o1 := h.2.1
  rw [hn] at o1
  have c1 : W.cell? ⟨b, n * 2, none⟩ = some (.int .i64 (g l n : Int)) := (own_there o1 (n * 2) (by omega)).1.trans (evs_fst f l n (by omega))
  have c2 : W.cell? ⟨b, n * 2 + 1, none⟩ = some (.int .i64 (fr f (g l n))) := (own_there o1 (n * 2 + 1) (by omega)).1.trans (evs_snd f l n (by omega))
  have hA := blk_lt h.1
  have hcap : n + 1 ≤ cap := by
    rcases o1.2 with ⟨h0, _⟩ | ⟨g', cap', cur, hv, _, _, hc, _⟩
    · cases h0
    · injection hv with _ _ e3; omega
  clear o1
  have HN := Hid.intro hn
  clear hn
  go_enter Try.func80, Try.ntmps80
  go_wp2_with fail
  go_returns
  exact ⟨rfl, qu_popped h HN.out _, chg_alloc (chg_set (chg_refl _ _) _ _ (fun _ => .inl rfl)) _⟩

set_option maxRecDepth 100000 in
set_option maxHeartbeats 1000000 in
theorem hpop_any (A b cap n : Nat) (f : List Int) (all out l : List Nat) (W : World) (h : Qu W A (.slice (some ⟨b, 0, none⟩) (n + 1) cap) f l) (hn : l.length = n + 1) (hl : n ≤ 1000) (hp : PopInv (ltf f) all out l) :
    Calls Try.prog 48 #[.iface 76 (.pointer (some ⟨A, 0, none⟩))] W fun e W' => e = .returned (.iface 80 (.agg #[.int .i64 (g l 0 : Int), .int .i64 (fr f (g l 0))])) ∧
      ∃ l', Qu W' A (.slice (some ⟨b, 0, none⟩) n cap) f l' ∧ l'.length = n ∧ PopInv (ltf f) all (out ++ [g l 0]) l' ∧ Chg (foot A (.slice (some ⟨b, 0, none⟩) (n + 1) cap)) W W' := by
  obtain ⟨c0, f0⟩ := qu_cell h
  have ml := method_len A _ W c0
  have ms := method_swap A _ W c0
  have LN := len_q (some ⟨b, 0, none⟩) (n + 1) cap W
  have SW := swap_n (i := 0) (j := n) h hn (by omega) (by omega) (by omega)
  have hq := hp.2.2.2
  rw [hn] at hq
  have ps := pop_start hn hq
  have HN := Hid.intro hn
  have HP := Hid.intro hp
  clear hn hp hq
  go_enter Try.func48, Try.ntmps48
  go_wp2_with fail
  with_reducible refine LN.mono ?_
  rintro e w1 ⟨rfl, rfl⟩
  go_wp2_with fail
  refine SW.mono ?_
  rintro e w2 ⟨rfl, k1, k2⟩
  have hs : (sw l 0 n).length = n + 1 := by rw [sw_len]; exact HN.out
  have DN := down_any A _ f (sw l 0 n) n w2 k1 ps hs hl
  clear LN SW ml ms c0 f0 hs
  go_wp2_with fail
  with_reducible refine DN.mono ?_
  rintro e w3 ⟨r, rfl, l3, m1, m2, m3, m4, m5⟩
  have hl3 : l3.length = n + 1 := by rw [m2.length_eq, sw_len]; exact HN.out
  have PO := qpop_any A b cap n f l3 w3 m1 hl3 hl
  obtain ⟨z1, z2⟩ := pop_next (ltf_ord f) HP.out HN.out m2 m3 m4
  rw [z1] at PO
  have hlt : Hid ((l3.take n).length = n) := by show _ = _; rw [List.length_take]; omega
  clear DN hl3 z1
  go_wp2_with fail
  with_reducible refine PO.mono ?_
  rintro e w4 ⟨rfl, y1, y2⟩
  clear PO
  go_wp2_with fail
  go_returns
  exact ⟨rfl, l3.take n, y1, hlt.out, z2, chg_same (chg_same k2 m5) y2⟩
theorem fld_entry (p q : Int) (W : World) : (Instr.field 80 (.agg #[.int .i64 p, .int .i64 q]) 0).run Try.prog W = .ok (.int .i64 p) W := by kernel_rfl
set_option maxRecDepth 100000 in
set_option maxHeartbeats 1000000 in
theorem next_any (A b cap n : Nat) (f : List Int) (all out l : List Nat) (W : World) (h : Qu W A (.slice (some ⟨b, 0, none⟩) (n + 1) cap) f l) (hn : l.length = n + 1) (hl : n ≤ 1000) (hp : PopInv (ltf f) all out l) :
    Calls Try.prog 43 #[.pointer (some ⟨A, 0, none⟩)] W fun e W' => e = .returned (.int .i64 (g l 0 : Int)) ∧
      ∃ l', Qu W' A (.slice (some ⟨b, 0, none⟩) n cap) f l' ∧ l'.length = n ∧ PopInv (ltf f) all (out ++ [g l 0]) l' ∧ Chg (foot A (.slice (some ⟨b, 0, none⟩) (n + 1) cap)) W W' := by
  have PO := hpop_any A b cap n f all out l W h hn hl hp
  have ae := assert_entry
  have fe := fld_entry
  clear hp hn
  go_enter Try.func43, Try.ntmps43
  go_wp2_with fail
  with_reducible refine PO.mono ?_
  rintro e w1 ⟨rfl, l', k1, k2, k3, k4⟩
  clear PO
  have K2 := Hid.intro k2
  clear k2
  go_wp2_with fail
  go_returns
  exact ⟨rfl, l', k1, K2.out, k3, k4⟩
end Go.Proofs.Ytplalkhjjndffaa
