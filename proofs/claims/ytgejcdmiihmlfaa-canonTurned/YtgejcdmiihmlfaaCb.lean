/-
  The queue's next; a queue of all classes that have a length; rows of codes.
-/
import Derived.Test.YtgejcdmiihmlfaaCa
import Derived.Test.YtgejcdmiihmlfaaOr
namespace Go.Proofs.Ytgejcdmiihmlfaa
open Go.ChangeShapes Go.WideShapes Go.ChangeAt Go.RowKit
open Go.ChangeMaps (open_string shut_string)

/-! ### the queue's next, and a queue of all classes that have a length -/
theorem qu_lt {W : World} {A : Nat} {v : Value} {f : List Int} {l : List Nat} (h : Qu W A v f l) : ∀ k, foot A v k → k < W.heap.size :=
  fun k hk => hk.elim (fun e => by rw [e]; exact blk_lt h.1) (fun e => (h.2.1.lt k e).2)
set_option maxRecDepth 100000 in
set_option maxHeartbeats 1000000 in
theorem next_any (A b cap n : Nat) (f : List Int) (all out l : List Nat) (W : World) (h : Qu W A (.slice (some ⟨b, 0, none⟩) (n + 1) cap) f l) (hn : l.length = n + 1) (hl : n ≤ 1000) (hp : PopInv (ltl f) all out l) :
    Calls Try.prog 19 #[.pointer (some ⟨A, 0, none⟩)] W fun e W' => e = .returned (.agg #[.int .i64 (g l 0 : Int), .int .i64 (fr f (g l 0))]) ∧
      ∃ l', Qu W' A (.slice (some ⟨b, 0, none⟩) n cap) f l' ∧ l'.length = n ∧ PopInv (ltl f) all (out ++ [g l 0]) l' ∧ Chg (foot A (.slice (some ⟨b, 0, none⟩) (n + 1) cap)) W W' := by
  have al : Chg (fun _ => False) W (W.alloc (.cells #[.int .i64 0, .int .i64 0] 50)) := chg_alloc (chg_refl _ _) _
  have bn := blk_new W #[.int .i64 0, .int .i64 0] 50
  have PO := hpop_any A b cap n f all out l _ (qu_no h al) hn hl hp
  have ae := assert_entry
  have HA := Hid.intro (qu_lt h)
  generalize fr f (g l 0) = y at *
  generalize hx : g l 0 = x at *
  clear hp hn hx
  go_enter Try.func19, Try.ntmps19
  go_wp2_with fail
  with_reducible refine PO.mono ?_
  rintro e w1 ⟨rfl, l', k1, k2, k3, k4⟩
  clear PO
  have K2 := Hid.intro k2
  have bk := blk_kept bn k4 (fun hf => by have := HA.out _ hf; omega)
  have r0 : w1.cell? ⟨W.heap.size, 0, none⟩ = some (.int .i64 0) := by rw [blk_cell bk]; rfl
  have r1 : w1.cell? ⟨W.heap.size, 1, none⟩ = some (.int .i64 0) := by rw [blk_cell bk]; rfl
  have f0 := blk_free bk 0
  have f1 := blk_free bk 1
  have q0 : (w1.setCell ⟨W.heap.size, 0, none⟩ (.int .i64 (x : Int))).cell? ⟨W.heap.size, 0, none⟩ = some (.int .i64 (x : Int)) := by rw [blk_cell (blk_set bk 0 _)]; rfl
  have q1 : ((w1.setCell ⟨W.heap.size, 0, none⟩ (.int .i64 (x : Int))).setCell ⟨W.heap.size, 1, none⟩ (.int .i64 y)).cell? ⟨W.heap.size, 1, none⟩ = some (.int .i64 y) := by rw [blk_cell (blk_set (blk_set bk 0 _) 1 _)]; rfl
  clear k2 bk bn
  go_wp2_with fail
  have c2 : Chg (· = W.heap.size) w1 ((w1.setCell ⟨W.heap.size, 0, none⟩ (.int .i64 (x : Int))).setCell ⟨W.heap.size, 1, none⟩ (.int .i64 y)) := chg_in (chg_in (chg_refl _ _) _ _) _ _
  refine bodyPost_ret (v := .agg #[.int .i64 (x : Int), .int .i64 y]) (by simp [results, Try.results19, go_sem, q0, q1]) rfl ⟨rfl, l', qu_kept k1 c2 (fun k hk e => ?_), K2.out, k3, ?_⟩
  · have hk' : foot A (.slice (some ⟨b, 0, none⟩) (n + 1) cap) k := hk
    have := HA.out k hk'
    omega
  · refine chg_trans (chg_trans (chg_mono al (fun _ _ h => h.elim)) k4 (fun _ _ h => h)) c2 (fun k hk e => by omega)
def Qo1 (f : List Int) (w : World) (sv : Value) (wr : World) : Prop :=
  ∃ (i : Nat) (v : Value) (l : List Nat), i ≤ f.length ∧ sv = .int .i64 i ∧ Qu wr (w.heap.size + 1) v f l ∧ l.Perm (places f i) ∧ HeapFrom (ltl f) l l.length 0 ∧ From w.heap.size v ∧ Below w.heap.size w wr
set_option maxRecDepth 100000 in
set_option maxHeartbeats 2000000 in
theorem queueOf_any (a : Option Addr) (n cap : Nat) (f : List Int) (w : World) (h : RI w a n f) (hf : FI f) (hn : n ≤ 1000) :
    Calls Try.prog 17 #[.slice a n cap] w fun e w' => e = .returned (.pointer (some ⟨w.heap.size + 1, 0, none⟩)) ∧ ∃ v l, Qu w' (w.heap.size + 1) v f l ∧ l.Perm (places f n) ∧ HeapFrom (ltl f) l l.length 0 ∧ From w.heap.size v ∧ Below w.heap.size w w' := by
  obtain ⟨h1, h2⟩ := h
  subst h1
  have HX : Hid (0 < f.length → ∃ x, a = some x ∧ ∀ i (h : i < f.length), w.cell? (x.add i) = some (.int .i64 f[i])) := h2
  have HF : Hid (FI f) := hf
  clear h2 hf
  have q0 := qu_new w f
  have b0 : Below w.heap.size w ((w.alloc (.cells #[] 50)).alloc (.cells #[.slice (some ⟨w.heap.size, 0, none⟩) 0 0] 63)) := ((Below.refl _ _).alloc (Nat.le_refl _) _).alloc (by simp) _
  go_enter Try.func17, Try.ntmps17
  go_wp2_with fail
  generalize (w.alloc (.cells #[] 50)).alloc (.cells #[.slice (some ⟨w.heap.size, 0, none⟩) 0 0] 63) = w1 at *
  go_loopw [10] (fun sv wr => Qo1 f w sv wr) (fun sv _ => f.length - (intOf sv).toNat)
  case atStart => exact ⟨0, _, [], by omega, rfl, q0, List.Perm.refl _, fun k _ hk => by simp at hk, fun k hk => by simp [Value.ownBlock] at hk; omega, b0⟩
  case round =>
    clear q0 b0
    obtain ⟨i, v, l, hi, rfl, d1, d2, d3, d4, d5⟩ := hrel
    have hpl := places_le f i
    have hll : l.length ≤ 1000 := by rw [d2.length_eq]; omega
    by_cases hlt : i < f.length
    · obtain ⟨x, rfl, hx⟩ := HX.out (by omega)
      have cx := hx i hlt
      have cx' : wr.cell? (x.add i) = some (.int .i64 f[i]) := by rw [d5.cell (World.block_lt_of_cell? _ _ cx)]; exact cx
      have bd := HF.out f[i] (List.getElem_mem hlt)
      have ps := places_succ f i
      have fa := fr_at f i hlt
      generalize hz : f[i] = z at *
      clear cx hx hz
      by_cases hp : 0 < z
      · rw [fa, if_pos hp] at ps
        have PS := Hid.intro ps
        have HP := hpush_any (w.heap.size + 1) v f l i z wr d1 d3 fa.symm hll
        clear ps fa
        go_wp2_with fail
        with_reducible refine HP.mono ?_
        rintro e w2 ⟨rfl, v', l', k1, k2, k3, k4, k5⟩
        clear HP cx'
        go_wp2_with fail
        go_roundw
        case rel => exact ⟨i + 1, v', l', by omega, by go_num, k1, by rw [PS.out]; exact k2.trans (d2.append_right _), k3, from_moved d4 k5 d5.size, foot_below d5 k4 (by omega) d4⟩
        case measure => simp [intOf]; omega
      · rw [fa, if_neg hp] at ps
        have PS := Hid.intro ps
        clear ps fa
        go_wp2_with fail
        go_roundw
        case rel => exact ⟨i + 1, v, l, by omega, by go_num, d1, by rw [PS.out]; exact d2, d3, d4, d5⟩
        case measure => simp [intOf]; omega
    · obtain rfl : i = f.length := by omega
      clear HX HF
      go_wp2_with fail
      go_ret
      exact ⟨rfl, v, l, d1, d2, d3, d4, d5⟩

/-! ### rows of codes -/
def cv (p : Nat × Nat) : List Value := [.int .i64 (p.1 : Int), .int .i64 (p.2 : Int)]
def cvs (l : List (Nat × Nat)) : List Value := l.flatMap cv
theorem cvs_len (l : List (Nat × Nat)) : (cvs l).length = l.length * 2 := by
  induction l with
  | nil => rfl
  | cons p l ih => rw [cvs, List.flatMap_cons, List.length_append, ← cvs, ih]; simp [cv]; omega
theorem cvs_fst (l : List (Nat × Nat)) (i : Nat) (h : i < l.length) : (cvs l)[i * 2]? = some (.int .i64 ((cat l i).1 : Int)) := by
  induction l generalizing i with
  | nil => simp at h
  | cons p l ih =>
    cases i with
    | zero => rfl
    | succ i =>
      rw [cvs, List.flatMap_cons, ← cvs, List.getElem?_append_right (by simp [cv]; omega)]
      have : (i + 1) * 2 - (cv p).length = i * 2 := by simp [cv]; omega
      rw [this, ih i (by simpa using h)]; rfl
theorem cvs_snd (l : List (Nat × Nat)) (i : Nat) (h : i < l.length) : (cvs l)[i * 2 + 1]? = some (.int .i64 ((cat l i).2 : Int)) := by
  induction l generalizing i with
  | nil => simp at h
  | cons p l ih =>
    cases i with
    | zero => rfl
    | succ i =>
      rw [cvs, List.flatMap_cons, ← cvs, List.getElem?_append_right (by simp [cv]; omega)]
      have : (i + 1) * 2 + 1 - (cv p).length = i * 2 + 1 := by simp [cv]; omega
      rw [this, ih i (by simpa using h)]; rfl
theorem cvs_set (l : List (Nat × Nat)) (i x y : Nat) : ((cvs l).set (i * 2) (.int .i64 (x : Int))).set (i * 2 + 1) (.int .i64 (y : Int)) = cvs (l.set i (x, y)) := by
  induction l generalizing i with
  | nil => rfl
  | cons p l ih =>
    cases i with
    | zero => rfl
    | succ i =>
      have e : cvs (p :: l) = .int .i64 (p.1 : Int) :: .int .i64 (p.2 : Int) :: cvs l := rfl
      rw [e, show (i + 1) * 2 = i * 2 + 1 + 1 from by omega, List.set_cons_succ, List.set_cons_succ, List.set_cons_succ, List.set_cons_succ, ih]; rfl
theorem info40 : (Try.prog.info? 40).map (fun i => (i.zero, i.size, i.bytes)) = some (some (.agg #[.int .i64 0, .int .i64 0]), 2, 16) := by kernel_rfl
theorem make_codes (W : World) :
    (Instr.makeSlice 24 (.int .i64 65) (.int .i64 65)).run Try.prog W = .ok (.slice (some ⟨W.heap.size, 0, none⟩) 65 65) (W.alloc (.cells (madeCells #[.int .i64 0, .int .i64 0] 130) 40)) := by
  obtain ⟨i, hi, hz, hs, hb⟩ := info_all info40
  have hr := run_make (P := Try.prog) W 24 40 i _ Try.underlying24 hi hz .i64 .i64 65 65 (by omega) (Int.le_refl _) (by rw [hb]; omega) (by omega)
  simp only [hs] at hr
  exact hr
theorem made_codes : (madeCells #[Value.int .i64 0, .int .i64 0] 130).toList = cvs (List.replicate 65 (0, 0)) := by kernel_rfl
theorem own_made_codes (W : World) : (W.alloc (.cells (madeCells #[.int .i64 0, .int .i64 0] 130) 40)).ownsRow W.heap.size 40 2 (.slice (some ⟨W.heap.size, 0, none⟩) 65 65) 65 (cvs (List.replicate 65 (0, 0))) :=
  ⟨by rw [cvs_len]; simp, .inr ⟨_, 65, _, rfl, Nat.le_refl _, blk_new _ _ _, Nat.le_refl _, by simp only [maxLen]; omega, by simp [madeCells], by rw [made_codes, List.take_of_length_le (by rw [cvs_len]; simp)]⟩⟩
theorem cv_cells {W : World} {base b n cap : Nat} {l : List (Nat × Nat)} (h : W.ownsRow base 40 2 (.slice (some ⟨b, 0, none⟩) n cap) n (cvs l)) (i : Nat) (hi : i < n) :
    W.cell? ⟨b, i * 2, none⟩ = some (.int .i64 ((cat l i).1 : Int)) ∧ W.cell? ⟨b, i * 2 + 1, none⟩ = some (.int .i64 ((cat l i).2 : Int)) ∧ W.frozen? ⟨b, i * 2, none⟩ = false ∧ W.frozen? ⟨b, i * 2 + 1, none⟩ = false := by
  have hl : l.length = n := by have := h.1; rw [cvs_len] at this; omega
  obtain ⟨e1, _, f1⟩ := own_there h (i * 2) (by omega)
  obtain ⟨e2, _, f2⟩ := own_there h (i * 2 + 1) (by omega)
  exact ⟨e1.trans (cvs_fst l i (by omega)), e2.trans (cvs_snd l i (by omega)), f1, f2⟩
end Go.Proofs.Ytgejcdmiihmlfaa
