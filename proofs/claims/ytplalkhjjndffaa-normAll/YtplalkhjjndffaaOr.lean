/-
  Order comes out of the heap: the places whose number is above nought, the greatest first, for every list of a thousand at the most.
-/
import Derived.Test.YtplalkhjjndffaaPop
namespace Go.Proofs.Ytplalkhjjndffaa
open Go.ChangeShapes Go.WideShapes Go.ChangeAt Go.RowKit
open Go.ChangeMaps (open_string shut_string)

def nis (l : List Nat) : List Value := ivs (l.map Int.ofNat)
theorem nis_len (l : List Nat) : (nis l).length = l.length := by simp [nis, ivs]
theorem nis_snoc (l : List Nat) (p : Nat) : nis (l ++ [p]) = nis l ++ [.int .i64 (p : Int)] := by simp [nis, ivs, iv]
theorem own_up {W : World} {base B e size : Nat} {v : Value} {n : Nat} {xs : List Value} (h : W.ownsRow base e size v n xs) (hB : ∀ k, v.ownBlock = some k → B ≤ k) : W.ownsRow B e size v n xs := by
  refine ⟨h.1, ?_⟩
  rcases h.2 with hn | ⟨g, cap, cur, hv, hg, rest⟩
  · exact .inl hn
  · exact .inr ⟨g, cap, cur, hv, hB g (by rw [hv]; rfl), rest⟩
theorem make_room (c : Nat) (hc : c ≤ 100000) (W : World) :
    (Instr.makeSlice 22 (.int .i64 0) (.int .i64 (c : Int))).run Try.prog W = .ok (.slice (some ⟨W.heap.size, 0, none⟩) 0 c) (W.alloc (.cells (madeCells #[.int .i64 0] c) 3)) := by
  obtain ⟨i, hi, hz, hs, hb⟩ := info_all info3
  have hr := run_make (P := Try.prog) W 22 3 i _ Try.underlying22 hi hz .i64 .i64 0 c (by omega) (by omega) (by rw [hb]; omega) (by omega)
  simp only [Int.toNat_natCast, hs, Nat.mul_one] at hr
  exact hr
theorem own_room (W : World) (c : Nat) (hc : c ≤ 100000) : (W.alloc (.cells (madeCells #[.int .i64 0] c) 3)).ownsRow W.heap.size 3 1 (.slice (some ⟨W.heap.size, 0, none⟩) 0 c) 0 [] :=
  ⟨rfl, .inr ⟨_, c, _, rfl, Nat.le_refl _, blk_new _ _ _, Nat.zero_le _, by simp only [maxLen]; omega, by simp [madeCells], by simp⟩⟩
def slen : Value → Nat
  | .slice _ n _ => n
  | _ => 0
def From (B : Nat) (v : Value) : Prop := ∀ k, v.ownBlock = some k → B ≤ k
theorem from_moved {B : Nat} {W : World} {v v' : Value} (h : From B v) (m : Moved W v v') (hB : B ≤ W.heap.size) : From B v' := fun k hk => (m k hk).elim (h k) (fun e => Nat.le_trans hB e)
theorem foot_below {w W W' : World} {A : Nat} {v : Value} (hb : Below w.heap.size w W) (c : Chg (foot A v) W W') (hA : w.heap.size ≤ A) (hv : From w.heap.size v) : Below w.heap.size w W' :=
  hb.trans (chg_below c hb.size (fun k hf => hf.elim (fun e => by omega) (fun e => hv k e)))
def Or1 (f : List Int) (w : World) (sv : Value) (wr : World) : Prop :=
  ∃ (i : Nat) (v : Value) (l : List Nat), i ≤ f.length ∧ sv = .int .i64 i ∧ Qu wr (w.heap.size + 1) v f l ∧ l.Perm (places f i) ∧ HeapFrom (ltf f) l l.length 0 ∧ From w.heap.size v ∧ Below w.heap.size w wr
def Or2 (f : List Int) (w : World) (pv : Value) (wr : World) : Prop :=
  ∃ (v : Value) (out l : List Nat), Qu wr (w.heap.size + 1) v f l ∧ PopInv (ltf f) (places f f.length) out l ∧ wr.ownsRow 0 3 1 pv out.length (nis out) ∧ (∀ k, pv.ownBlock = some k → ¬ foot (w.heap.size + 1) v k) ∧ From w.heap.size pv ∧ From w.heap.size v ∧ Below w.heap.size w wr
theorem places_le (f : List Int) (i : Nat) : (places f i).length ≤ i := by
  unfold places
  have := List.length_filter_le (fun p => decide (0 < fr f p)) (List.range i)
  simpa using this
theorem fr_at (f : List Int) (i : Nat) (h : i < f.length) : fr f i = f[i] := by unfold fr; rw [List.getD_eq_getElem?_getD, List.getElem?_eq_getElem h]; rfl
theorem qu_new (w : World) (f : List Int) : Qu ((w.alloc (.cells #[] 80)).alloc (.cells #[.slice (some ⟨w.heap.size, 0, none⟩) 0 0] 78)) (w.heap.size + 1) (.slice (some ⟨w.heap.size, 0, none⟩) 0 0) f [] := by
  refine ⟨?_, ?_, ?_⟩
  · have := blk_new (w.alloc (.cells #[] 80)) #[.slice (some ⟨w.heap.size, 0, none⟩) 0 0] 78
    simpa using this
  · exact ⟨rfl, .inr ⟨w.heap.size, 0, #[], rfl, Nat.zero_le _, blk_alloc (blk_new w #[] 80) _, Nat.le_refl _, by decide, rfl, rfl⟩⟩
  · intro e; simp [Value.ownBlock] at e
set_option maxRecDepth 100000 in
set_option maxHeartbeats 2000000 in
theorem order_any (a : Option Addr) (n cap : Nat) (f : List Int) (w : World) (h : RI w a n f) (hf : FI f) (hn : n ≤ 1000) :
    Calls Try.prog 26 #[.slice a n cap] w fun e w' => ∃ v o, e = .returned v ∧ Ordered f n o ∧ w'.ownsRow w.heap.size 3 1 v o.length (nis o) ∧ Below w.heap.size w w' := by
  obtain ⟨h1, h2⟩ := h
  subst h1
  have HX : Hid (0 < f.length → ∃ x, a = some x ∧ ∀ i (h : i < f.length), w.cell? (x.add i) = some (.int .i64 f[i])) := h2
  have HF : Hid (FI f) := hf
  clear h2 hf
  have q0 := qu_new w f
  have b0 : Below w.heap.size w ((w.alloc (.cells #[] 80)).alloc (.cells #[.slice (some ⟨w.heap.size, 0, none⟩) 0 0] 78)) := ((Below.refl _ _).alloc (Nat.le_refl _) _).alloc (by simp) _
  obtain ⟨i0, hi0, hz0, hs0, hb0⟩ := info_all info3
  go_enter Try.func26, Try.ntmps26
  go_wp2_with fail
  generalize (w.alloc (.cells #[] 80)).alloc (.cells #[.slice (some ⟨w.heap.size, 0, none⟩) 0 0] 78) = w1 at *
  go_loopw [11] (fun sv wr => Or1 f w sv wr) (fun sv _ => f.length - (intOf sv).toNat)
  case atStart => exact ⟨0, _, [], by omega, rfl, q0, List.Perm.refl _, fun k _ hk => by simp at hk, fun k hk => by simp [Value.ownBlock] at hk; omega, b0⟩
  case round =>
    clear q0 b0
    obtain ⟨i, v, l, hi, rfl, d1, d2, d3, d4, d5⟩ := hrel
    have hpl := places_le f i
    have hll : l.length ≤ 1000 := by rw [d2.length_eq]; omega
    by_cases hlt : i < f.length
    · obtain ⟨x, rfl, hx⟩ := HX.out (by omega)
      have cx := hx i hlt
      have cx' : wr.cell? (x.add i) = some (.int .i64 f[i]) := by rw [d5.cell (World.block_lt_of_cell? _ _ cx)]; exact cx
      have bd := HF.out f[i] (List.getElem_mem hlt)
      have ps := places_succ f i
      have fa := fr_at f i hlt
      generalize hz : f[i] = z at *
      clear cx hx hz
      by_cases hp : 0 < z
      · rw [fa, if_pos hp] at ps
        have PS := Hid.intro ps
        have HP := hpush_any (w.heap.size + 1) v f l i z wr d1 d3 fa.symm hll
        clear ps fa
        go_wp2_with fail
        with_reducible refine HP.mono ?_
        rintro e w2 ⟨rfl, v', l', k1, k2, k3, k4, k5⟩
        clear HP cx'
        go_wp2_with fail
        go_roundw
        case rel => exact ⟨i + 1, v', l', by omega, by go_num, k1, by rw [PS.out]; exact k2.trans (d2.append_right _), k3, from_moved d4 k5 d5.size, foot_below d5 k4 (by omega) d4⟩
        case measure => simp [intOf]; omega
      · rw [fa, if_neg hp] at ps
        have PS := Hid.intro ps
        clear ps fa
        go_wp2_with fail
        go_roundw
        case rel => exact ⟨i + 1, v, l, by omega, by go_num, d1, by rw [PS.out]; exact d2, d3, d4, d5⟩
        case measure => simp [intOf]; omega
    · obtain rfl : i = f.length := by omega
      obtain ⟨c0, f0⟩ := qu_cell d1
      obtain ⟨av, capv, rfl, hcv, _⟩ := qu_val d1
      have LN := len_q av l.length capv wr
      have mk := make_room l.length (by omega) wr
      have ow := own_room wr l.length (by omega)
      have d1' : Qu (wr.alloc (.cells (madeCells #[.int .i64 0] l.length) 3)) (w.heap.size + 1) (.slice av l.length capv) f l := qu_no d1 (chg_alloc (chg_refl _ _) _)
      have b1 : Below w.heap.size w (wr.alloc (.cells (madeCells #[.int .i64 0] l.length) 3)) := d5.alloc d5.size _
      have hlt1 := blk_lt d1.1
      have hlt2 := fun k hk => (d1.2.1.lt k hk).2
      have sz := d5.size
      clear HX HF
      have start : Or2 f w (.slice (some ⟨wr.heap.size, 0, none⟩) 0 l.length) (wr.alloc (.cells (madeCells #[.int .i64 0] l.length) 3)) := by
        refine ⟨_, [], l, d1', ⟨by simpa using d2, List.Pairwise.nil, fun a ha => by simp at ha, d3⟩, own_low ow (Nat.zero_le _), fun k hk hf => ?_, fun k hk => ?_, d4, b1⟩
        · simp [Value.ownBlock] at hk
          rcases hf with e | e
          · omega
          · have := hlt2 k e; omega
        · simp [Value.ownBlock] at hk; omega
      have HS := Hid.intro start
      clear start d1' b1 ow hlt1 hlt2 hcv d4 d3 d2 hi hpl d1
      go_wp2_with fail
      with_reducible refine LN.mono ?_
      rintro e w2 ⟨rfl, rfl⟩
      clear LN
      go_wp2_with fail
      go_loopw [6] (fun pv wr => Or2 f w pv wr) (fun pv _ => (places f f.length).length - slen pv)
      case atStart => exact HS.out
      case round =>
        clear HS mk c0 f0 sz
        obtain ⟨v, out, l2, e1, e2, e3, e4, e5, e6, e7⟩ := hrel
        obtain ⟨c0, f0⟩ := qu_cell e1
        obtain ⟨av2, capv2, rfl, hcv, hav⟩ := qu_val e1
        have hperm := e2.1.length_eq
        rw [List.length_append] at hperm
        have hpl := places_le f f.length
        have LN := len_q av2 l2.length capv2 wr
        by_cases hz : l2.length = 0
        · obtain rfl : l2 = [] := List.eq_nil_of_length_eq_zero hz
          simp only [List.length_nil] at LN c0
          have OR := Hid.intro (ordered_of_pop e2)
          have OW := Hid.intro (own_up e3 e5)
          clear e2 e3 hperm hpl
          go_wp2_with fail
          with_reducible refine LN.mono ?_
          rintro e w3 ⟨rfl, rfl⟩
          clear LN
          go_wp2_with fail
          go_ret
          exact ⟨_, out, rfl, OR.out, OW.out, e7⟩
        · obtain ⟨m, hm⟩ : ∃ m, l2.length = m + 1 := ⟨l2.length - 1, by omega⟩
          obtain ⟨bb, rfl⟩ := hav (by omega)
          rw [hm] at e1 c0 LN hcv e4 e6 hperm
          have NX := next_any (w.heap.size + 1) bb capv2 m f _ out l2 wr e1 hm (by omega) e2
          have hA := blk_lt e1.1
          have hB := (e1.2.1.lt bb rfl).2
          clear hm hz hav
          go_wp2_with fail
          with_reducible refine LN.mono ?_
          rintro e w3 ⟨rfl, rfl⟩
          clear LN
          go_wp2_with fail
          with_reducible refine NX.mono ?_
          rintro e w4 ⟨rfl, l3, k1, k2, k3, k4⟩
          have o4 := own_kept e3 k4 e4
          have b4 := foot_below e7 k4 (by omega) e6
          have e4' : ∀ k, u6.ownBlock = some k → ¬ foot (w.heap.size + 1) (.slice (some ⟨bb, 0, none⟩) m capv2) k := e4
          have e6' : From w.heap.size (.slice (some ⟨bb, 0, none⟩) m capv2) := e6
          have hA4 := blk_lt k1.1
          have hB4 : bb < w4.heap.size := Nat.lt_of_lt_of_le hB (chg_size k4)
          have NS := Hid.intro (nis_snoc out (g l2 0))
          have K2 := Hid.intro k2
          clear NX c0 f0 e1 e2 e3 e7 k4 k2 e4 e6
          generalize g l2 0 = y at *
          go_wp2_with (at_builtin; refine wpList_push _ rfl (.tmp 36) (.tmp 39) 22 rfl 3 i0 (.int .i64 0) 1 8 Try.underlying22 hi0 hz0 hs0 hb0 rfl (by decide) (by decide) u6 out.length (nis out) rfl (World.ownsRow.alloc o4 _) ⟨w4.heap.size, 0, none⟩ 1 1 [.int .i64 (y : Int)] rfl rfl (cell_one_new _ _ _) (by intro u hu; simp at hu; subst hu; rfl) (by omega) ?_)
          intro v5 w5 g1 g2 g3
          have c5 : Chg (fun k => u6.ownBlock = some k) w4 w5 := chg_grown (chg_alloc (chg_refl _ _) _) g2 (fun k hk _ => hk)
          have q5 := qu_kept k1 c5 (fun k hf hu => e4' k hu hf)
          have sz4 : (w4.alloc (.cells #[.int .i64 (y : Int)] 3)).heap.size = w4.heap.size + 1 := by simp
          have m5 : ∀ k, v5.ownBlock = some k → ¬ foot (w.heap.size + 1) (.slice (some ⟨bb, 0, none⟩) m capv2) k := fun k hk hf => (g3 k hk).elim (fun e => e4' k e hf) (fun e => by
            rcases hf with e9 | e9
            · omega
            · simp [Value.ownBlock] at e9; omega)
          have fr5 : From w.heap.size v5 := from_moved e5 g3 (by have := b4.size; omega)
          have b5 : Below w.heap.size w w5 := b4.trans (chg_below c5 b4.size (fun k hk => e5 k hk))
          rw [← NS.out, ← (show (out ++ [y]).length = out.length + 1 by simp)] at g1
          have OR : Hid (Or2 f w v5 w5) := ⟨_, out ++ [y], l3, q5, k3, g1, m5, fr5, e6', b5⟩
          obtain ⟨b9, cap9, rfl⟩ := own_slice g1 (by simp)
          have sl : slen u6 = out.length := by
            rcases o4.2 with ⟨hv, h0⟩ | ⟨g9, cap8, cur, hv, _⟩
            · rw [hv, h0]; rfl
            · rw [hv]; rfl
          clear g1 g2 g3 q5 k1 o4 m5 fr5 b5 c5 e4' e6' k3 b4
          go_wp2_with fail
          go_roundw
          case rel => exact OR.out
          case measure => rw [sl]; show _ - (out ++ [y]).length < _; rw [List.length_append, List.length_singleton]; omega
end Go.Proofs.Ytplalkhjjndffaa
