/-
  The reference's Order: places set in one after the other.
-/
import Derived.Test.YtofclflcicjlaaaGreatBd
import Derived.Deep.QuietTactic
import Derived.BigQuiet
import Derived.OwnWalk
import Derived.Laws.OwnMore
import Derived.Deep.RegionLaw
import Derived.Deep.Draws
namespace Go.Proofs.YtofclflcicjlaaaGreat
open Go.ChangeShapes Go.WideShapes Go.ChangeAt Go.RowKit
open Go.ChangeMaps (open_string shut_string)

/-- Elements behind a slice whose room is used up, as one step of a region that draws: a new row. -/
theorem step_grow {P : Program} {ops : Array Oper} {o : Oper} {a : Act} {w : World} {K : Act → World → Prop} {Q : Exit → Act → World → Prop} {E : Prop}
    (hg : o.guard = none) (s x : Operand) (t : TypeId) (hop : o.op = Op.call { callee := Callee.builtin Builtin.append, args := #[s, x], argTypes := #[t, t] })
    (e : TypeId) (i : TypeInfo) (z : Value) (size bytes : Nat) (ht : P.underlying t = some (.slice e)) (hi : P.info? e = some i) (hz : i.zero = some z)
    (hsize : i.size = size) (hby : i.bytes = bytes) (hzs : z.cells.size = size) (hsz : 0 < size) (h16 : bytes ≤ 16)
    (b : Addr) (n : Nat) (xs : List Value) (hs : a.eval s = .slice (some b) n n) (hlo : xs.length = n * size) (holds : ∀ j u, xs[j]? = some u → w.cell? (b.add j) = some u)
    (ad : Addr) (m c : Nat) (news : List Value) (hx : a.eval x = .slice (some ad) m c) (hl : news.length = m * size) (hnews : ∀ j u, news[j]? = some u → w.cell? (ad.add j) = some u) (hm : 0 < m) (hn : n + m ≤ 100000)
    (hK : ∀ v' w', w'.ownsRow w.heap.size e size v' (n + m) (xs ++ news) → w.grownBy w' none → K (a.put o.dst v') w') :
    if Region.wanted o (yielded ops a.tmps) = true then Oper.wp P o a w K Q else E := by
  have hw : Region.wanted o (yielded ops a.tmps) = true := by simp [Region.wanted, hg]
  rw [if_pos hw]
  have hb : (n + m) * bytes ≤ 140737488355328 := by
    have : (n + m) * bytes ≤ 100000 * 16 := Nat.mul_le_mul hn h16
    omega
  obtain ⟨v', w', hrun, r1, r2⟩ := run_append_arg_grows (P := P) w t o.type e i z size bytes ht hi hz hsize hby hzs hsz b n n xs hlo holds ad m c news hl hnews (by omega) (by simp only [maxLen]; omega) hb
  unfold Oper.wp
  simp [execOp, hop, resolve, invoke, builtin, hs, hx, hrun, Result.andThen]
  exact hK v' w' r1 r2
theorem nis_append (a b : List Nat) : nis (a ++ b) = nis a ++ nis b := by simp [nis, ivs]
theorem nis_cons (p : Nat) (b : List Nat) : nis (p :: b) = .int .i64 (p : Int) :: nis b := rfl
theorem nis_one (l : List Nat) : ∀ u ∈ nis l, u.oneCell' = true := ivs_one _
theorem nis_take_cells {W : World} {base g n cap : Nat} {l : List Nat} (h : W.ownsRow base 3 1 (.slice (some ⟨g, 0, none⟩) n cap) n (nis l)) (k : Nat) :
    ∀ j u, (nis (l.take k))[j]? = some u → W.cell? ((⟨g, 0, none⟩ : Addr).add j) = some u := by
  intro j u hu
  have e : nis l = nis (l.take k) ++ nis (l.drop k) := by rw [← nis_append, List.take_append_drop]
  refine h.cells (g := g) rfl j u ?_
  rw [e, List.getElem?_append_left (List.getElem?_eq_some_iff.1 hu).1]; exact hu
theorem nis_drop_cells {W : World} {base g n cap : Nat} {l : List Nat} (h : W.ownsRow base 3 1 (.slice (some ⟨g, 0, none⟩) n cap) n (nis l)) (k : Nat) (hk : k ≤ l.length) (x : Addr) (hx : some (⟨g, k, none⟩ : Addr) = some x) :
    ∀ j u, (nis (l.drop k))[j]? = some u → W.cell? (x.add j) = some u := by
  intro j u hu
  injection hx with hx
  subst hx
  have e : nis l = nis (l.take k) ++ nis (l.drop k) := by rw [← nis_append, List.take_append_drop]
  have hl : (nis (l.take k)).length = k := by rw [nis_len, List.length_take, Nat.min_eq_left hk]
  have := h.cells (g := g) rfl (k + j) u (by rw [e, List.getElem?_append_right (by omega), hl, Nat.add_sub_cancel_left]; exact hu)
  rw [Addr.add_lit] at this ⊢
  rw [Nat.zero_add] at this
  exact this
theorem nis_cell {W : World} {base b n cap : Nat} {l : List Nat} (h : W.ownsRow base 3 1 (.slice (some ⟨b, 0, none⟩) n cap) n (nis l)) (j : Nat) (hj : j < l.length) : W.cell? ⟨b, j, none⟩ = some (.int .i64 (g l j : Int)) := by
  have := h.cells (g := b) rfl j (.int .i64 (g l j : Int)) (by rw [g_eq l j hj]; simp [nis, ivs, iv, hj])
  rw [Addr.add_lit, Nat.zero_add] at this
  exact this
def Ro1 (f : List Int) (w : World) (ov sv : Value) (wr : World) : Prop :=
  ∃ (i : Nat) (l : List Nat), i ≤ f.length ∧ sv = .int .i64 (i : Nat) ∧ Ordered f i l ∧ wr.ownsRow w.heap.size 3 1 ov l.length (nis l) ∧ (ov = .slice none 0 0 ∨ 0 < l.length) ∧ Below w.heap.size w wr
def Ro2 (f : List Int) (z : Int) (l : List Nat) (wo : World) (sv : Value) (wr : World) : Prop :=
  ∃ k : Nat, k ≤ l.length ∧ sv = .int .i64 k ∧ (∀ b ∈ l.drop k, fr f b < z) ∧ ∃ m, wr = wo.drewN m
set_option maxRecDepth 100000 in
set_option maxHeartbeats 4000000 in
theorem rorder_any (a : Option Addr) (n cap : Nat) (f : List Int) (w : World) (h : RI w a n f) (hf : FI f) (hn : n ≤ 1000) :
    Calls Tryz.prog 42 #[.slice a n cap] w fun e w' => ∃ v o, e = .returned v ∧ Ordered f n o ∧ w'.ownsRow w.heap.size 3 1 v o.length (nis o) ∧ Below w.heap.size w w' := by
  obtain ⟨h1, h2⟩ := h
  subst h1
  obtain ⟨i0, hi0, hz0, hs0, hb0⟩ := info_all info3
  have HX : Hid (0 < f.length → ∃ x, a = some x ∧ ∀ i (h : i < f.length), w.cell? (x.add i) = some (.int .i64 f[i])) := h2
  have HF : Hid (FI f) := hf
  clear h2 hf
  go_enter Tryz.func42, Tryz.ntmps42
  go_wp2_with fail
  go_loopw [3, 4] (fun ov sv wr => Ro1 f w ov sv wr) (fun _ sv _ => f.length - (intOf sv).toNat)
  case atStart => exact ⟨0, [], by omega, rfl, ordered_zero f, World.ownsRow_nil _ _ _ _, .inl rfl, Below.refl _ _⟩
  case round =>
    obtain ⟨i, l, hi, rfl, d0, d1, d3, d2⟩ := hrel
    by_cases hlt : i < f.length
    · obtain ⟨x, rfl, hx⟩ := HX.out (by omega)
      have cf : ∀ p, p < f.length → wr.cell? (x.add p) = some (.int .i64 (fr f p)) := fun p hp => by
        have := hx p hp
        rw [d2.cell (World.block_lt_of_cell? _ _ this), this, fr_at f p hp]
      have ci := cf i hlt
      have SK := Hid.intro (ordered_skip d0)
      have HO := Hid.intro d0
      have hll : l.length ≤ 1000 := by rw [d0.1.length_eq]; exact Nat.le_trans (places_le f i) (by omega)
      clear d0 hx
      by_cases hp : 0 < fr f i
      · have hp' : Hid (0 < fr f i) := hp
        rcases d3 with rfl | hL
        · obtain rfl : l = [] := by
            rcases d1.2 with ⟨_, h0⟩ | ⟨g', cap', cur, hv, _⟩
            · exact List.eq_nil_of_length_eq_zero h0
            · cases hv
          have INS : Hid (Ordered f (i + 1) [i]) := ordered_ins (k := 0) HO.out hp (Nat.zero_le _) (fun b hb => by simp at hb) (.inl rfl)
          generalize fr f i = z at *
          simp only [List.length_nil] at d1 ⊢
          clear cf
          go_wp2_with fail
          go_loopw [5] (fun sv wq => Ro2 f z [] wr sv wq) (fun sv _ => (intOf sv).toNat)
          case atStart => exact ⟨0, Nat.le_refl _, rfl, fun b hb => by simp at hb, 0, rfl⟩
          case round =>
            obtain ⟨k, hk, rfl, hd, m, rfl⟩ := hrel
            obtain rfl : k = 0 := by simpa using hk
            clear hd hk
            go_wp2_with fail
            go_quiet (fail)
            have d2q := below_drewN d2 (m + nq)
            go_wp2_with fail
            simp only [World.drewN_drewN]
            generalize wr.drewN (m + nq) = wq at *
            have dA : Hid (Below w.heap.size w (wq.drew.alloc (.cells #[.int .i64 (i : Int)] 3))) := d2q.drew.alloc (by have := d2q.size; exact this) _
            have oE : Hid ((wq.drew.alloc (.cells #[.int .i64 (i : Int)] 3)).ownsRow 0 3 1 (.slice (some ⟨wq.heap.size, 0, none⟩) 1 1) 1 [.int .i64 (i : Int)]) := World.ownsRow_lit wq.drew #[.int .i64 (i : Int)] 1 (Nat.zero_le _) (by decide) rfl
            go_region_law (first
              | (refine step_pushS rfl (.tmp 43) (.tmp 46) 23 rfl 3 i0 (.int .i64 0) 1 8 Tryz.underlying23 hi0 hz0 hs0 hb0 rfl (by decide) (by decide) (.slice (some ⟨wq.heap.size, 0, none⟩) 1 1) 1 [.int .i64 (i : Int)] rfl oE.out none 0 0 [] rfl rfl (fun _ => ⟨rfl, rfl⟩) (fun x hx => by cases hx) (fun u hu => absurd hu (by simp)) (by omega) ?_
                 intro v47 w47 o47 g47 m47
                 have D47 := Hid.intro (below_grown dA.out g47 dA.out.size (fun k hk => by simp [Value.ownBlock] at hk; have := d2q.size; omega))
                 have O47 := Hid.intro o47
                 obtain ⟨b47, cap47, rfl⟩ := own_slice o47 (by omega)
                 clear o47 g47 m47)
              | (refine step_pushS rfl (.tmp 41) (.tmp 47) 23 rfl 3 i0 (.int .i64 0) 1 8 Tryz.underlying23 hi0 hz0 hs0 hb0 rfl (by decide) (by decide) (.slice none 0 0) 0 [] rfl (World.ownsRow_nil _ _ _ _) (some ⟨b47, 0, none⟩) (1 + 0) cap47 ([.int .i64 (i : Int)] ++ []) rfl O47.out.1 (fun h => none_none h) (fun x hx j u hu => by injection hx with hx; subst hx; exact O47.out.cells (g := b47) rfl j u hu) (by intro u hu; simp at hu; subst hu; rfl) (by omega) ?_
                 intro v48 w48 o48 g48 m48
                 have D48 := Hid.intro (below_grown D47.out g48 D47.out.size (fun k hk => by cases hk))
                 have O48 := Hid.intro o48
                 have F48 : Hid (From w.heap.size v48) := from_moved (fun k hk => by cases hk) m48 D47.out.size
                 clear o48 g48 m48))
            all_goals
              have o48 := own_up O48.out F48.out
              have JJ : Hid (Ro1 f w v48 (.int .i64 ((i + 1 : Nat) : Int)) w48) := ⟨i + 1, [i], hlt, rfl, INS.out, o48, .inr (by simp), D48.out⟩
              obtain ⟨b48, cap48, rfl⟩ := own_slice O48.out (by omega)
              simp only [Nat.zero_add, Nat.add_zero] at JJ ⊢
              clear o48 O48 D48 F48
              go_wp2_with fail
              go_roundw
              case rel => exact JJ.out
              case measure => simp [intOf]; omega
        · obtain ⟨b, C, rfl⟩ := own_slice d1 hL
          generalize hz : fr f i = z at *
          have HZ := Hid.intro hz
          have hpf : Hid (0 < fr f i) := by show _ < _; rw [HZ.out]; exact hp'.out
          clear hz
          have CF := Hid.intro cf
          clear cf
          go_wp2_with fail
          go_loopw [5] (fun sv wq => Ro2 f z l wr sv wq) (fun sv _ => (intOf sv).toNat)
          case atStart => exact ⟨l.length, Nat.le_refl _, rfl, fun b hb => by simp at hb, 0, rfl⟩
          case round =>
            obtain ⟨k, hk, rfl, hd, m, rfl⟩ := hrel
            have hCL : l.length ≤ C := by
              rcases d1.2 with ⟨h0, _⟩ | ⟨g', cap', cur, hv, _, _, hc, _⟩
              · cases h0
              · injection hv with _ _ e3; omega
            by_cases hk0 : k = 0
            · subst hk0
              have hd : Hid (∀ b ∈ l.drop 0, fr f b < fr f i) := by show _; rw [HZ.out]; exact hd
              have INS := Hid.intro (ordered_ins HO.out hpf.out (Nat.zero_le _) hd.out (.inl rfl))
              have hC0 : ¬ C = 0 := by omega
              clear hd
              go_wp2_with fail
              go_quiet (fail)
              have d1q := own_kept (S := fun _ => False) d1 (drewN_chg wr (m + nq)) (fun _ _ h => h)
              have d2q := below_drewN d2 (m + nq)
              go_wp2_with fail
              simp only [World.drewN_drewN]
              generalize wr.drewN (m + nq) = wq at *
              have hbq := (d1q.lt b rfl).2
              have dA : Hid (Below w.heap.size w (wq.drew.alloc (.cells #[.int .i64 (i : Int)] 3))) := d2q.drew.alloc (by have := d2q.size; exact this) _
              have oA : Hid ((wq.drew.alloc (.cells #[.int .i64 (i : Int)] 3)).ownsRow w.heap.size 3 1 (.slice (some ⟨b, 0, none⟩) l.length C) l.length (nis l)) := World.ownsRow.alloc (own_drew d1q) _
              have oE : Hid ((wq.drew.alloc (.cells #[.int .i64 (i : Int)] 3)).ownsRow 0 3 1 (.slice (some ⟨wq.heap.size, 0, none⟩) 1 1) 1 [.int .i64 (i : Int)]) := World.ownsRow_lit wq.drew #[.int .i64 (i : Int)] 1 (Nat.zero_le _) (by decide) rfl
              have LD : (nis l).length = (l.length) * 1 := by rw [nis_len]; omega
              have LT : (nis (l.take 0)).length = 0 * 1 := by rw [nis_len, List.length_take]; omega
              go_region_law (first
                | (refine step_pushS rfl (.tmp 43) (.tmp 46) 23 rfl 3 i0 (.int .i64 0) 1 8 Tryz.underlying23 hi0 hz0 hs0 hb0 rfl (by decide) (by decide) (.slice (some ⟨wq.heap.size, 0, none⟩) 1 1) 1 [.int .i64 (i : Int)] rfl oE.out (some ⟨b, 0, none⟩) (l.length) (C) (nis l) rfl LD (fun h => none_none h) (fun x hx j u hu => by injection hx with hx; subst hx; exact oA.out.cells (g := b) rfl j u hu) (nis_one _) (by omega) ?_
                   intro v47 w47 o47 g47 m47
                   have D47 := Hid.intro (below_grown dA.out g47 dA.out.size (fun k hk => by simp [Value.ownBlock] at hk; have := d2q.size; omega))
                   have R47 := Hid.intro (oA.out.kept g47 (.inr (by simp [Value.ownBlock]; omega)))
                   have O47 := Hid.intro o47
                   obtain ⟨b47, cap47, rfl⟩ := own_slice o47 (by omega)
                   clear o47 g47 m47)
                | (refine step_grow rfl (.tmp 41) (.tmp 47) 23 rfl 3 i0 (.int .i64 0) 1 8 Tryz.underlying23 hi0 hz0 hs0 hb0 rfl (by decide) (by decide) ⟨b, 0, none⟩ 0 (nis (l.take 0)) rfl LT (nis_take_cells R47.out 0) ⟨b47, 0, none⟩ (1 + (l.length)) cap47 ([.int .i64 (i : Int)] ++ nis l) rfl O47.out.1 (O47.out.cells rfl) (by omega) (by omega) ?_
                   intro v48 w48 o48 g48
                   have D48 := Hid.intro (below_grown D47.out g48 D47.out.size (fun k hk => by cases hk))
                   have O48 := Hid.intro o48
                   have S48 := Hid.intro D47.out.size
                   clear o48 g48))
              all_goals
                have o48 := own_low O48.out S48.out
                rw [show nis (l.take 0) ++ ([.int .i64 (i : Int)] ++ nis l) = nis (l.take 0 ++ i :: l.drop 0) from rfl, show 0 + (1 + (l.length)) = (l.take 0 ++ i :: l.drop 0).length from by rw [List.length_append, List.length_cons, List.length_take, List.length_drop]; omega] at o48
                have hl2 : 0 < (l.take 0 ++ i :: l.drop 0).length := by rw [List.length_append, List.length_cons]; omega
                have INS' := INS.out
                generalize l.take 0 ++ i :: l.drop 0 = l2 at *
                have JJ : Hid (Ro1 f w v48 (.int .i64 ((i + 1 : Nat) : Int)) w48) := ⟨i + 1, l2, hlt, rfl, INS', o48, .inr hl2, D48.out⟩
                obtain ⟨b48, cap48, rfl⟩ := own_slice o48 hl2
                clear o48 O48 D48 S48
                go_wp2_with fail
                go_roundw
                case rel => exact JJ.out
                case measure => simp [intOf]; omega
            · obtain ⟨j, hj⟩ : ∃ j, j + 1 = k := ⟨k - 1, by omega⟩
              have hkj : (k : Int) - 1 = (j : Int) := by omega
              have hk1 : 0 < k := by omega
              have hwj : IntKind.i64.wrap (j : Int) = (j : Int) := by rw [IntKind.wrap_i64]; omega
              have hjl : j < l.length := by omega
              have hkC : k ≤ C := by omega
              have hpm := (ordered_mem HO.out (g l j)).1 (g_mem l j hjl)
              have cj : wr.cell? ⟨b, j, none⟩ = some (.int .i64 (g l j : Int)) := nis_cell d1 j hjl
              have cp : wr.cell? (x.add (g l j)) = some (.int .i64 (fr f (g l j))) := CF.out (g l j) (by omega)
              have hpf' : g l j < f.length := by omega
              have DS : Hid (fr f (g l j) < z → ∀ b ∈ l.drop j, fr f b < z) := fun hy b hb => by
                rw [List.drop_eq_getElem_cons hjl] at hb
                rcases List.mem_cons.1 hb with h | h
                · rw [h, ← g_eq l j hjl]; exact hy
                · rw [hj] at h; exact hd b h
              have EE : Hid (¬ fr f (g l j) < z → k = 0 ∨ fr f i ≤ fr f (g l (k - 1))) := fun hy => .inr (by rw [show k - 1 = j by omega, HZ.out]; omega)
              generalize g l j = p at *
              generalize fr f p = y at *
              have t0 : decide ((0 : Int) < (k : Int)) = true := by simp; omega
              have t0' : decide (0 < k) = true := by simp; omega
              by_cases hy : y < z
              · have t1 : decide (y < z) = true := by simp [hy]
                have DD := Hid.intro (DS.out hy)
                have hjk : Hid (j < k ∧ j ≤ l.length) := ⟨by omega, by omega⟩
                clear DS EE hy hj hk0 hd
                go_wp2_with fail
                go_quiet (fail)
                clear t1 t0 t0'
                go_wp2_with fail
                go_roundw
                case rel => exact ⟨j, hjk.out.2, rfl, DD.out, m + nq, rfl⟩
                case measure => have := hjk.out.1; simp [intOf]; omega
              · have t1 : decide (y < z) = false := by simp; omega
                have hd : Hid (∀ b ∈ l.drop k, fr f b < fr f i) := by show _; rw [HZ.out]; exact hd
                have INS := Hid.intro (ordered_ins HO.out hpf.out hk hd.out (EE.out hy))
                clear DS EE hy hj hk0 hd
                by_cases hC : C = k
                · have LDN : Hid (l.drop k = []) := List.drop_eq_nil_of_le (by omega)
                  subst hC
                  go_wp2_with fail
                  go_quiet (fail)
                  clear t1 t0 t0'
                  have d1q := own_kept (S := fun _ => False) d1 (drewN_chg wr (m + nq)) (fun _ _ h => h)
                  have d2q := below_drewN d2 (m + nq)
                  go_wp2_with fail
                  simp only [World.drewN_drewN]
                  generalize wr.drewN (m + nq) = wq at *
                  have hbq := (d1q.lt b rfl).2
                  have dA : Hid (Below w.heap.size w (wq.drew.alloc (.cells #[.int .i64 (i : Int)] 3))) := d2q.drew.alloc (by have := d2q.size; exact this) _
                  have oA : Hid ((wq.drew.alloc (.cells #[.int .i64 (i : Int)] 3)).ownsRow w.heap.size 3 1 (.slice (some ⟨b, 0, none⟩) l.length C) l.length (nis l)) := World.ownsRow.alloc (own_drew d1q) _
                  have oE : Hid ((wq.drew.alloc (.cells #[.int .i64 (i : Int)] 3)).ownsRow 0 3 1 (.slice (some ⟨wq.heap.size, 0, none⟩) 1 1) 1 [.int .i64 (i : Int)]) := World.ownsRow_lit wq.drew #[.int .i64 (i : Int)] 1 (Nat.zero_le _) (by decide) rfl
                  have LD : (nis []).length = (0) * 1 := rfl
                  have LT : (nis (l.take C)).length = C * 1 := by rw [nis_len, List.length_take]; omega
                  go_region_law (first
                    | (refine step_pushS rfl (.tmp 43) (.tmp 46) 23 rfl 3 i0 (.int .i64 0) 1 8 Tryz.underlying23 hi0 hz0 hs0 hb0 rfl (by decide) (by decide) (.slice (some ⟨wq.heap.size, 0, none⟩) 1 1) 1 [.int .i64 (i : Int)] rfl oE.out (some ⟨b, 0, none⟩) (0) (0) (nis []) rfl LD (fun h => none_none h) (fun _ _ j u hu => absurd hu (by simp [nis, ivs])) (nis_one _) (by omega) ?_
                       intro v47 w47 o47 g47 m47
                       have D47 := Hid.intro (below_grown dA.out g47 dA.out.size (fun k hk => by simp [Value.ownBlock] at hk; have := d2q.size; omega))
                       have R47 := Hid.intro (oA.out.kept g47 (.inr (by simp [Value.ownBlock]; omega)))
                       have O47 := Hid.intro o47
                       obtain ⟨b47, cap47, rfl⟩ := own_slice o47 (by omega)
                       clear o47 g47 m47)
                    | (refine step_grow rfl (.tmp 41) (.tmp 47) 23 rfl 3 i0 (.int .i64 0) 1 8 Tryz.underlying23 hi0 hz0 hs0 hb0 rfl (by decide) (by decide) ⟨b, 0, none⟩ C (nis (l.take C)) rfl LT (nis_take_cells R47.out C) ⟨b47, 0, none⟩ (1 + (0)) cap47 ([.int .i64 (i : Int)] ++ nis []) rfl O47.out.1 (O47.out.cells rfl) (by omega) (by omega) ?_
                       intro v48 w48 o48 g48
                       have D48 := Hid.intro (below_grown D47.out g48 D47.out.size (fun k hk => by cases hk))
                       have O48 := Hid.intro o48
                       have S48 := Hid.intro D47.out.size
                       clear o48 g48))
                  all_goals
                    have o48 := own_low O48.out S48.out
                    rw [show nis (l.take C) ++ ([.int .i64 (i : Int)] ++ nis []) = nis (l.take C ++ i :: l.drop C) from by rw [nis_append, nis_cons, LDN.out]; rfl, show C + (1 + (0)) = (l.take C ++ i :: l.drop C).length from by rw [List.length_append, List.length_cons, List.length_take, List.length_drop]; omega] at o48
                    have hl2 : 0 < (l.take C ++ i :: l.drop C).length := by rw [List.length_append, List.length_cons]; omega
                    have INS' := INS.out
                    generalize l.take C ++ i :: l.drop C = l2 at *
                    have JJ : Hid (Ro1 f w v48 (.int .i64 ((i + 1 : Nat) : Int)) w48) := ⟨i + 1, l2, hlt, rfl, INS', o48, .inr hl2, D48.out⟩
                    obtain ⟨b48, cap48, rfl⟩ := own_slice o48 hl2
                    clear o48 O48 D48 S48
                    go_wp2_with fail
                    go_roundw
                    case rel => exact JJ.out
                    case measure => simp [intOf]; omega
                · go_wp2_with fail
                  go_quiet (fail)
                  clear t1 t0 t0'
                  have d1q := own_kept (S := fun _ => False) d1 (drewN_chg wr (m + nq)) (fun _ _ h => h)
                  have d2q := below_drewN d2 (m + nq)
                  go_wp2_with fail
                  simp only [World.drewN_drewN]
                  generalize wr.drewN (m + nq) = wq at *
                  have hbq := (d1q.lt b rfl).2
                  have dA : Hid (Below w.heap.size w (wq.drew.alloc (.cells #[.int .i64 (i : Int)] 3))) := d2q.drew.alloc (by have := d2q.size; exact this) _
                  have oA : Hid ((wq.drew.alloc (.cells #[.int .i64 (i : Int)] 3)).ownsRow w.heap.size 3 1 (.slice (some ⟨b, 0, none⟩) l.length C) l.length (nis l)) := World.ownsRow.alloc (own_drew d1q) _
                  have oE : Hid ((wq.drew.alloc (.cells #[.int .i64 (i : Int)] 3)).ownsRow 0 3 1 (.slice (some ⟨wq.heap.size, 0, none⟩) 1 1) 1 [.int .i64 (i : Int)]) := World.ownsRow_lit wq.drew #[.int .i64 (i : Int)] 1 (Nat.zero_le _) (by decide) rfl
                  have LD : (nis (l.drop k)).length = (l.length - k) * 1 := by rw [nis_len, List.length_drop]; omega
                  have LT : (nis (l.take k)).length = k * 1 := by rw [nis_len, List.length_take]; omega
                  go_region_law (first
                    | (refine step_pushS rfl (.tmp 43) (.tmp 46) 23 rfl 3 i0 (.int .i64 0) 1 8 Tryz.underlying23 hi0 hz0 hs0 hb0 rfl (by decide) (by decide) (.slice (some ⟨wq.heap.size, 0, none⟩) 1 1) 1 [.int .i64 (i : Int)] rfl oE.out (some ⟨b, k, none⟩) (l.length - k) (C - k) (nis (l.drop k)) rfl LD (fun h => none_none h) (nis_drop_cells oA.out k hk) (nis_one _) (by omega) ?_
                       intro v47 w47 o47 g47 m47
                       have D47 := Hid.intro (below_grown dA.out g47 dA.out.size (fun k hk => by simp [Value.ownBlock] at hk; have := d2q.size; omega))
                       have R47 := Hid.intro (oA.out.kept g47 (.inr (by simp [Value.ownBlock]; omega)))
                       have O47 := Hid.intro o47
                       obtain ⟨b47, cap47, rfl⟩ := own_slice o47 (by omega)
                       clear o47 g47 m47)
                    | (refine step_grow rfl (.tmp 41) (.tmp 47) 23 rfl 3 i0 (.int .i64 0) 1 8 Tryz.underlying23 hi0 hz0 hs0 hb0 rfl (by decide) (by decide) ⟨b, 0, none⟩ k (nis (l.take k)) rfl LT (nis_take_cells R47.out k) ⟨b47, 0, none⟩ (1 + (l.length - k)) cap47 ([.int .i64 (i : Int)] ++ nis (l.drop k)) rfl O47.out.1 (O47.out.cells rfl) (by omega) (by omega) ?_
                       intro v48 w48 o48 g48
                       have D48 := Hid.intro (below_grown D47.out g48 D47.out.size (fun k hk => by cases hk))
                       have O48 := Hid.intro o48
                       have S48 := Hid.intro D47.out.size
                       clear o48 g48))
                  all_goals
                    have o48 := own_low O48.out S48.out
                    rw [show nis (l.take k) ++ ([.int .i64 (i : Int)] ++ nis (l.drop k)) = nis (l.take k ++ i :: l.drop k) from by rw [nis_append, nis_cons]; rfl, show k + (1 + (l.length - k)) = (l.take k ++ i :: l.drop k).length from by rw [List.length_append, List.length_cons, List.length_take, List.length_drop]; omega] at o48
                    have hl2 : 0 < (l.take k ++ i :: l.drop k).length := by rw [List.length_append, List.length_cons]; omega
                    have INS' := INS.out
                    generalize l.take k ++ i :: l.drop k = l2 at *
                    have JJ : Hid (Ro1 f w v48 (.int .i64 ((i + 1 : Nat) : Int)) w48) := ⟨i + 1, l2, hlt, rfl, INS', o48, .inr hl2, D48.out⟩
                    obtain ⟨b48, cap48, rfl⟩ := own_slice o48 hl2
                    clear o48 O48 D48 S48
                    go_wp2_with fail
                    go_roundw
                    case rel => exact JJ.out
                    case measure => simp [intOf]; omega
      · go_wp2_with fail
        go_roundw
        case rel => exact ⟨i + 1, l, by omega, by go_num, SK.out hp, d1, d3, d2⟩
        case measure => simp [intOf]; omega
    · obtain rfl : i = f.length := by omega
      go_wp2_with fail
      go_ret
      exact ⟨_, l, rfl, d0, d1, d2⟩
end Go.Proofs.YtofclflcicjlaaaGreat
