/-
  The queue's own methods: what is called through the interface, Len, Less, Swap, Push.
-/
import Derived.Test.YtplalkhjjndffaaHeap
import Derived.Test.YtplalkhjjndffaaPush
import Derived.Handy
import Derived.Deep.QuietTactic
import Derived.Deep.RegionWith
import Derived.OwnWalk
import Derived.BigQuiet
namespace Go.Proofs.Ytplalkhjjndffaa
open Go.ChangeShapes Go.WideShapes Go.ChangeAt Go.RowKit
open Go.ChangeMaps (open_string shut_string)

theorem assert_entry (p q : Int) (W : World) : (Instr.typeAssert (.iface 80 (.agg #[.int .i64 p, .int .i64 q])) 20 80 false).run Try.prog W = .ok (.agg #[.int .i64 p, .int .i64 q]) W := by kernel_rfl
theorem info76 (W : World) : (typeInfo 76).run Try.prog W = .ok (Try.prog.info? 76).get! W := by kernel_rfl
theorem recv51 (A : Nat) (v : Value) (nm : String) (W : World) (h : W.cell? ⟨A, 0, none⟩ = some v) :
    (receiverAt 76 (.val (.pointer (some ⟨A, 0, none⟩))) false (some nm)).run Try.prog W = .ok v W := by
  have ck : (Builtin.ssaWrapNilChk_ #[76] 76 #[.pointer (some ⟨A, 0, none⟩), strVal "", strVal nm]).run Try.prog W = .ok (.pointer (some ⟨A, 0, none⟩)) W := by kernel_rfl
  have st : Sem.run Try.prog (underlying 76) W = .ok (.pointer 78) W := by kernel_rfl
  unfold receiverAt
  simp only [Sem.run_bind, st, Result.andThen_ok]
  simp [Place.get, ck, loadVar, go_sem, h]
theorem method_less (A : Nat) (v : Value) (W : World) (h : W.cell? ⟨A, 0, none⟩ = some v) :
    (method 220 76 (.pointer (some ⟨A, 0, none⟩)) "Less").run Try.prog W = .ok (79, v) W := by
  have fi : (Try.prog.info? 76).get!.methods.find? (·.name == "Less") = some ⟨ "Less", 101, #[], some (79, false)⟩ := by kernel_rfl
  unfold method
  simp only [Sem.run_bind, info76, Result.andThen_ok, fi]
  simp [follow, recv51 A v _ W h, go_sem]
theorem method_len (A : Nat) (v : Value) (W : World) (h : W.cell? ⟨A, 0, none⟩ = some v) :
    (method 220 76 (.pointer (some ⟨A, 0, none⟩)) "Len").run Try.prog W = .ok (42, v) W := by
  have fi : (Try.prog.info? 76).get!.methods.find? (·.name == "Len") = some ⟨ "Len", 81, #[], some (42, false)⟩ := by kernel_rfl
  unfold method
  simp only [Sem.run_bind, info76, Result.andThen_ok, fi]
  simp [follow, recv51 A v _ W h, go_sem]
theorem method_swap (A : Nat) (v : Value) (W : World) (h : W.cell? ⟨A, 0, none⟩ = some v) :
    (method 220 76 (.pointer (some ⟨A, 0, none⟩)) "Swap").run Try.prog W = .ok (82, v) W := by
  have fi : (Try.prog.info? 76).get!.methods.find? (·.name == "Swap") = some ⟨ "Swap", 99, #[], some (82, false)⟩ := by kernel_rfl
  unfold method
  simp only [Sem.run_bind, info76, Result.andThen_ok, fi]
  simp [follow, recv51 A v _ W h, go_sem]
theorem len_q (a : Option Addr) (n cap : Nat) (W : World) : Calls Try.prog 42 #[.slice a n cap] W fun e W' => e = .returned (.int .i64 n) ∧ W' = W := by
  go_enter Try.func42, Try.ntmps42
  go_wp2
  go_ret
  exact ⟨rfl, rfl⟩

theorem drewN_chg (W : World) (k : Nat) : Chg (fun _ => False) W (W.drewN k) := chg_drewN (chg_refl _ _) k
theorem drew_chg (W : World) : Chg (fun _ => False) W W.drew := chg_drew (chg_refl _ _)
set_option maxRecDepth 100000 in
set_option maxHeartbeats 1000000 in
theorem less_any (b n cap i j p q : Nat) (x y : Int) (W : World) (hi : i < n) (hj : j < n) (_hn : n ≤ 100000)
    (ci : W.cell? ⟨b, i * 2, none⟩ = some (.int .i64 (p : Int))) (ci1 : W.cell? ⟨b, i * 2 + 1, none⟩ = some (.int .i64 x))
    (cj : W.cell? ⟨b, j * 2, none⟩ = some (.int .i64 (q : Int))) (cj1 : W.cell? ⟨b, j * 2 + 1, none⟩ = some (.int .i64 y)) :
    Calls Try.prog 79 #[.slice (some ⟨b, 0, none⟩) n cap, .int .i64 i, .int .i64 j] W fun e W' => e = .returned (.bool (decide (y < x ∨ (x = y ∧ p < q)))) ∧ Chg (fun _ => False) W W' := by
  by_cases h : x = y
  · have t : (x == y) = true := by simp [h]
    have D : Hid (decide (y < x ∨ (x = y ∧ p < q)) = decide (p < q)) := by show _ = _; simp [h]
    clear h
    go_enter Try.func79, Try.ntmps79
    go_wp2_with fail
    go_quiet (fail)
    go_wp2_with fail
    go_quiet (fail)
    go_wp2_with fail
    go_ret
    rw [D.out]
    exact ⟨rfl, drewN_chg _ _⟩
  · have t : (x == y) = false := by simp [h]
    have D : Hid (decide (y < x ∨ (x = y ∧ p < q)) = decide (y < x)) := by show _ = _; simp [h]
    clear h
    go_enter Try.func79, Try.ntmps79
    go_wp2_with fail
    go_quiet (fail)
    go_wp2_with fail
    go_quiet (fail)
    go_wp2_with fail
    go_ret
    rw [D.out]
    exact ⟨rfl, drewN_chg _ _⟩

theorem evs_sw (f : List Int) (l : List Nat) (i j : Nat) : ((((evs f l).set (i * 2) (.int .i64 (g l j : Int))).set (i * 2 + 1) (.int .i64 (fr f (g l j)))).set (j * 2) (.int .i64 (g l i : Int))).set (j * 2 + 1) (.int .i64 (fr f (g l i))) = evs f (sw l i j) := by
  rw [evs_set, evs_set]; rfl

def ltb (f : List Int) (p q : Nat) : Bool := decide (fr f q < fr f p ∨ (fr f p = fr f q ∧ p < q))
theorem ltb_iff (f : List Int) (p q : Nat) : ltb f p q = true ↔ ltf f p q := by unfold ltb ltf; simp
theorem ltb_not (f : List Int) (p q : Nat) : ltb f p q = false ↔ ¬ ltf f p q := by rw [← ltb_iff]; simp
theorem own_drew {W : World} {base e size : Nat} {v : Value} {n : Nat} {xs : List Value} (h : W.ownsRow base e size v n xs) : W.drew.ownsRow base e size v n xs :=
  own_kept (S := fun _ => False) h (drew_chg W) (fun _ _ h => h)
theorem chg_in {a W : World} {b : Nat} (h : Chg (· = b) a W) (j : Nat) (u : Value) : Chg (· = b) a (W.setCell ⟨b, j, none⟩ u) := chg_set h _ _ (fun _ => rfl)
theorem own_slice {W : World} {base e size : Nat} {v : Value} {n : Nat} {xs : List Value} (h : W.ownsRow base e size v n xs) (hn : 0 < n) : ∃ b cap, v = .slice (some ⟨b, 0, none⟩) n cap := by
  rcases h.2 with ⟨_, h0⟩ | ⟨b, cap, cur, hv, _⟩
  · omega
  · exact ⟨b, cap, hv⟩
set_option maxRecDepth 100000 in
set_option maxHeartbeats 400000 in
theorem swap_walk (b n cap i j : Nat) (p q x y : Int) (W : World) (hi : i < n) (hj : j < n) (_hn : n ≤ 100000)
    (ci : W.cell? ⟨b, i * 2, none⟩ = some (.int .i64 p)) (ci1 : W.cell? ⟨b, i * 2 + 1, none⟩ = some (.int .i64 x))
    (cj : W.cell? ⟨b, j * 2, none⟩ = some (.int .i64 q)) (cj1 : W.cell? ⟨b, j * 2 + 1, none⟩ = some (.int .i64 y))
    (fi : W.frozen? ⟨b, i * 2, none⟩ = false) (fi1 : W.frozen? ⟨b, i * 2 + 1, none⟩ = false) (fj : W.frozen? ⟨b, j * 2, none⟩ = false) (fj1 : W.frozen? ⟨b, j * 2 + 1, none⟩ = false) :
    Calls Try.prog 82 #[.slice (some ⟨b, 0, none⟩) n cap, .int .i64 i, .int .i64 j] W fun e W' => e = .returned (.tuple #[]) ∧
      W' = (((W.drew.setCell ⟨b, i * 2, none⟩ (.int .i64 q)).setCell ⟨b, i * 2 + 1, none⟩ (.int .i64 y)).setCell ⟨b, j * 2, none⟩ (.int .i64 p)).setCell ⟨b, j * 2 + 1, none⟩ (.int .i64 x) := by
  have zi : (0 : Int) ≤ (i : Int) := by omega
  have zj : (0 : Int) ≤ (j : Int) := by omega
  have li : (i : Int) < (n : Int) := by omega
  have lj : (j : Int) < (n : Int) := by omega
  by_cases hne : i = j
  · subst hne
    obtain rfl : p = q := by rw [ci] at cj; injection cj with cj; injection cj
    obtain rfl : x = y := by rw [ci1] at cj1; injection cj1 with cj1; injection cj1
    clear cj cj1 fj fj1 zj lj hj
    go_enter Try.func82, Try.ntmps82
    go_wp2_with fail
    go_region
    all_goals
      go_wp2_with fail
      go_returns
      exact ⟨rfl, rfl⟩
  · go_enter Try.func82, Try.ntmps82
    go_wp2_with fail
    go_region
    all_goals
      go_wp2_with fail
      go_returns
      exact ⟨rfl, rfl⟩

theorem swap_any (b cap i j : Nat) (f : List Int) (l : List Nat) (W : World) (hi : i < l.length) (hj : j < l.length) (hn : l.length ≤ 100000)
    (h : W.ownsRow 0 80 2 (.slice (some ⟨b, 0, none⟩) l.length cap) l.length (evs f l)) :
    Calls Try.prog 82 #[.slice (some ⟨b, 0, none⟩) l.length cap, .int .i64 i, .int .i64 j] W fun e W' => e = .returned (.tuple #[]) ∧ W'.ownsRow 0 80 2 (.slice (some ⟨b, 0, none⟩) l.length cap) l.length (evs f (sw l i j)) ∧ Chg (· = b) W W' := by
  obtain ⟨ci, _, fi⟩ := own_there h (i * 2) (by omega)
  obtain ⟨ci1, _, fi1⟩ := own_there h (i * 2 + 1) (by omega)
  obtain ⟨cj, _, fj⟩ := own_there h (j * 2) (by omega)
  obtain ⟨cj1, _, fj1⟩ := own_there h (j * 2 + 1) (by omega)
  refine (swap_walk b l.length cap i j _ _ _ _ W hi hj hn (ci.trans (evs_fst f l i hi)) (ci1.trans (evs_snd f l i hi)) (cj.trans (evs_fst f l j hj)) (cj1.trans (evs_snd f l j hj)) fi fi1 fj fj1).mono ?_
  rintro e W' ⟨rfl, rfl⟩
  refine ⟨rfl, ?_, chg_in (chg_in (chg_in (chg_in (chg_drew (chg_refl _ W)) _ _) _ _) _ _) _ _⟩
  have h' := own_drew h
  have k := own_set (own_set (own_set (own_set h' (i * 2) (.int .i64 (g l j : Int))) (i * 2 + 1) (.int .i64 (fr f (g l j)))) (j * 2) (.int .i64 (g l i : Int))) (j * 2 + 1) (.int .i64 (fr f (g l i)))
  rw [evs_sw] at k
  exact k
theorem less_at (b cap i j : Nat) (f : List Int) (l : List Nat) (W : World) (hi : i < l.length) (hj : j < l.length) (hn : l.length ≤ 100000)
    (h : W.ownsRow 0 80 2 (.slice (some ⟨b, 0, none⟩) l.length cap) l.length (evs f l)) :
    Calls Try.prog 79 #[.slice (some ⟨b, 0, none⟩) l.length cap, .int .i64 i, .int .i64 j] W fun e W' => e = .returned (.bool (ltb f (g l i) (g l j))) ∧ Chg (fun _ => False) W W' := by
  exact less_any b l.length cap i j (g l i) (g l j) (fr f (g l i)) (fr f (g l j)) W hi hj hn ((own_there h (i * 2) (by omega)).1.trans (evs_fst f l i hi)) ((own_there h (i * 2 + 1) (by omega)).1.trans (evs_snd f l i hi)) ((own_there h (j * 2) (by omega)).1.trans (evs_fst f l j hj)) ((own_there h (j * 2 + 1) (by omega)).1.trans (evs_snd f l j hj))

theorem push_facts {w1 w2 : World} {A : Nat} {v1 : Value} (hb1 : Blk w1 A #[v1] 78) (d3 : v1.ownBlock ≠ some A) (g2 : w1.grownBy w2 v1.ownBlock) :
    w2.cell? ⟨A, 0, none⟩ = some v1 ∧ w2.frozen? ⟨A, 0, none⟩ = false ∧ Hid (Blk w2 A #[v1] 78) := by
  have hb : Blk w2 A #[v1] 78 := (g2.block A (blk_lt hb1) (fun e => d3 e.symm)).trans hb1
  exact ⟨by rw [blk_cell hb]; rfl, blk_free hb 0, hb⟩
theorem qu_step {W w1 w2 : World} {A n : Nat} {v1 v2 : Value} {xs : List Value} (d1 : Blk W A #[v1] 78) (d3 : v1.ownBlock ≠ some A)
    (h1 : Chg (fun _ => False) W w1) (g7 : Blk w2 A #[v1] 78) (G1 : w2.ownsRow 0 80 2 v2 n xs) (G2 : w1.grownBy w2 v1.ownBlock) (G3 : Moved w1 v1 v2) :
    Blk (w2.setCell ⟨A, 0, none⟩ v2) A #[v2] 78 ∧ (w2.setCell ⟨A, 0, none⟩ v2).ownsRow 0 80 2 v2 n xs ∧ v2.ownBlock ≠ some A ∧ Chg (foot A v1) W (w2.setCell ⟨A, 0, none⟩ v2) ∧ Moved W v1 v2 := by
  have hA : A < w1.heap.size := Nat.lt_of_lt_of_le (blk_lt d1) (chg_size h1)
  have hne : v2.ownBlock ≠ some A := fun e => by
    rcases G3 A e with h | h
    · exact d3 h
    · omega
  have c1 : Chg (foot A v1) W w1 := chg_mono h1 (fun _ _ h => h.elim)
  have c2 : Chg (foot A v1) W w2 := chg_grown c1 G2 (fun k hk _ => .inr hk)
  refine ⟨by simpa using blk_set g7 0 v2, own_kept (S := (· = A)) G1 (chg_set (chg_refl _ _) _ _ (fun _ => rfl)) (fun k hk e => hne (by rw [hk, e])), hne, chg_set c2 _ _ (fun _ => .inl rfl), fun k hk => ?_⟩
  rcases G3 k hk with h | h
  · exact .inl h
  · exact .inr (Nat.le_trans (chg_size c1) h)
theorem two_new (w : World) (x y : Value) (t : TypeId) : ∀ j u, [x, y][j]? = some u → (w.alloc (.cells #[x, y] t)).cell? ((⟨w.heap.size, 0, none⟩ : Addr).add j) = some u := by
  intro j u hj
  rw [Addr.add_lit, blk_cell (blk_new w #[x, y] t), ← hj]
  simp
set_option maxRecDepth 100000 in
set_option maxHeartbeats 1000000 in
theorem qpush_any (A : Nat) (v : Value) (f : List Int) (l : List Nat) (p : Nat) (x : Int) (W : World) (h : Qu W A v f l) (hx : x = fr f p) (hl : l.length ≤ 1000) :
    Calls Try.prog 81 #[.pointer (some ⟨A, 0, none⟩), .iface 80 (.agg #[.int .i64 (p : Int), .int .i64 x])] W fun e W' => e = .returned (.tuple #[]) ∧ ∃ v', Qu W' A v' f (l ++ [p]) ∧ Chg (foot A v) W W' ∧ Moved W v v' := by
  obtain ⟨c0, f0⟩ := qu_cell h
  obtain ⟨i0, hi, hz, hs, hb⟩ := info_all info80
  have ae := assert_entry
  obtain ⟨d1, d2, d3⟩ := h
  have hlt := blk_lt d1
  have HX : Hid (evs f (l ++ [p]) = evs f l ++ [.int .i64 (p : Int), .int .i64 x]) := by show _ = _; rw [hx, evs_append]; rfl
  clear hx
  have HL : Hid ((l ++ [p]).length = l.length + 1) := by show _ = _; simp
  go_enter Try.func81, Try.ntmps81
  go_wp2_with fail
  go_region_law (refine step_push rfl (.tmp 7) (.tmp 10) 78 rfl 80 i0 (.agg #[.int .i64 0, .int .i64 0]) 2 16 Try.underlying78 hi hz hs hb rfl (by decide) (by decide) v l.length (evs f l) rfl (World.ownsRow.alloc (own_drew d2) _) ⟨W.heap.size, 0, none⟩ 1 1 [.int .i64 (p : Int), .int .i64 x] rfl rfl (two_new _ _ _ _) (by intro u hu; simp at hu; rcases hu with rfl | rfl <;> rfl) (by omega) ?_; intro v2 w2 g1 g2 g3; obtain ⟨g5, g6, g7⟩ := push_facts (blk_alloc (blk_drew d1) _) d3 g2; have G1 := Hid.intro g1; have G2 := Hid.intro g2; have G3 := Hid.intro g3; obtain ⟨b, cap, rfl⟩ := own_slice g1 (Nat.succ_pos _); clear g1 g2 g3)
  all_goals
    obtain ⟨k1, k2, k3, k4, k5⟩ := qu_step d1 d3 (chg_alloc (chg_drew (chg_refl _ W)) _) g7.out G1.out G2.out G3.out
    go_wp2_with fail
    go_returns
    exact ⟨rfl, _, ⟨k1, by rw [HX.out, HL.out]; exact k2, k3⟩, k4, k5⟩
end Go.Proofs.Ytplalkhjjndffaa
