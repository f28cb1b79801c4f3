/-
  What lengths cost, and what the reference says of it.
-/
import Derived.Test.YtabnafjndljimaaLe
namespace Go.Proofs.Ytabnafjndljimaa
open Go.ChangeShapes Go.WideShapes Go.ChangeAt Go.RowKit
open Go.ChangeMaps (open_string shut_string)

def dot (f l : List Int) : Int := ((f.zip l).map (fun p => p.1 * p.2)).sum
theorem dot_succ (f l : List Int) (i : Nat) (hf : i < f.length) (hl : i < l.length) : dot (f.take (i + 1)) (l.take (i + 1)) = dot (f.take i) (l.take i) + f[i] * l[i] := by
  unfold dot
  rw [List.take_succ_eq_append_getElem hf, List.take_succ_eq_append_getElem hl, List.zip_append (by simp; omega), List.map_append, List.sum_append]
  simp
theorem dot_all (f l : List Int) (m : Nat) (h : f.length ≤ m ∨ l.length ≤ m) : dot (f.take m) (l.take m) = dot f l := by
  unfold dot
  have e : (f.take m).zip (l.take m) = (f.zip l).take m := by rw [List.zip_eq_zipWith, List.zip_eq_zipWith, List.take_zipWith]
  rw [e, List.take_of_length_le (by rw [List.length_zip]; omega)]
def DotB (f l : List Int) : Prop := ∀ i (h : i < f.length) (h' : i < l.length), -140737488355328 ≤ f[i] * l[i] ∧ f[i] * l[i] ≤ 140737488355328
theorem dot_bd (f l : List Int) (hb : DotB f l) : ∀ i, i ≤ f.length → i ≤ l.length → -(140737488355328 * (i : Int)) ≤ dot (f.take i) (l.take i) ∧ dot (f.take i) (l.take i) ≤ 140737488355328 * (i : Int)
  | 0, _, _ => by simp [dot]
  | i + 1, h1, h2 => by
    obtain ⟨a, b⟩ := dot_bd f l hb i (by omega) (by omega)
    have := hb i (by omega) (by omega)
    rw [dot_succ f l i (by omega) (by omega)]
    omega
def CoRel (f l : List Int) (w : World) (sv iv : Value) (wr : World) : Prop :=
  ∃ i : Nat, i ≤ f.length ∧ i ≤ l.length ∧ iv = .int .i64 i ∧ sv = .int .i64 (dot (f.take i) (l.take i)) ∧ Below w.heap.size w wr
set_option maxRecDepth 100000 in
set_option maxHeartbeats 1000000 in
theorem cost_any (a b : Option Addr) (n m cap cap' : Nat) (f l : List Int) (w : World) (h : RI w a n f) (h' : RI w b m l) (hn : n ≤ 1000) (hm : m ≤ 1000) (hb : DotB f l) :
    Calls Try.prog 14 #[.slice a n cap, .slice b m cap'] w fun e w' => e = .returned (.int .i64 (dot f l)) ∧ Below w.heap.size w w' := by
  obtain ⟨h1, h2⟩ := h
  obtain ⟨h1', h2'⟩ := h'
  subst h1 h1'
  have HX := Hid.intro h2
  have HY := Hid.intro h2'
  have HB := Hid.intro hb
  clear h2 h2' hb
  by_cases hle : f.length ≤ l.length
  · go_enter Try.func14, Try.ntmps14
    go_wp2_with fail
    go_loopw [5, 12] (fun sv iv wr => CoRel f l w sv iv wr) (fun _ iv _ => f.length - (intOf iv).toNat)
    case atStart => exact ⟨0, by omega, by omega, rfl, rfl, Below.refl _ _⟩
    case round =>
      obtain ⟨i, hi, hi', rfl, rfl, bw⟩ := hrel
      by_cases hlt : i < f.length
      · have lf : i < f.length := by omega
        have ll : i < l.length := by omega
        obtain ⟨x, rfl, hx⟩ := HX.out (by omega)
        obtain ⟨y, rfl, hy⟩ := HY.out (by omega)
        have cx : wr.cell? (x.add i) = some (.int .i64 f[i]) := by rw [bw.cell (World.block_lt_of_cell? _ _ (hx i lf))]; exact hx i lf
        have cy : wr.cell? (y.add i) = some (.int .i64 l[i]) := by rw [bw.cell (World.block_lt_of_cell? _ _ (hy i ll))]; exact hy i ll
        have pb := HB.out i lf ll
        have sb := dot_bd f l HB.out i hi hi'
        have DS := Hid.intro (dot_succ f l i lf ll)
        generalize dot (f.take i) (l.take i) = s at *
        obtain ⟨p, hp⟩ : ∃ p, f[i] * l[i] = p := ⟨_, rfl⟩
        rw [hp] at pb
        have w1 : IntKind.i64.wrap p = p := by rw [IntKind.wrap_i64]; omega
        have w2 : IntKind.i64.wrap (s + p) = s + p := by rw [IntKind.wrap_i64]; omega
        rw [hp] at DS
        generalize f[i] = u at *
        generalize l[i] = v at *
        clear hx hy pb sb
        go_wp2_with fail
        go_quiet (fail)
        go_wp2_with fail
        go_roundw
        case rel => exact ⟨i + 1, lf, ll, by go_num, by rw [DS.out], below_drewN bw nq⟩
        case measure => simp [intOf]; omega
      · have D : Hid (dot (f.take i) (l.take i) = dot f l) := dot_all f l i (by omega)
        have B := Hid.intro bw
        generalize dot (f.take i) (l.take i) = s at *
        go_wp2_with fail
        go_ret
        exact ⟨ret_int D.out, B.out⟩
  · go_enter Try.func14, Try.ntmps14
    go_wp2_with fail
    go_loopw [5, 12] (fun sv iv wr => CoRel f l w sv iv wr) (fun _ iv _ => l.length - (intOf iv).toNat)
    case atStart => exact ⟨0, by omega, by omega, rfl, rfl, Below.refl _ _⟩
    case round =>
      obtain ⟨i, hi, hi', rfl, rfl, bw⟩ := hrel
      by_cases hlt : i < l.length
      · have lf : i < f.length := by omega
        have ll : i < l.length := by omega
        obtain ⟨x, rfl, hx⟩ := HX.out (by omega)
        obtain ⟨y, rfl, hy⟩ := HY.out (by omega)
        have cx : wr.cell? (x.add i) = some (.int .i64 f[i]) := by rw [bw.cell (World.block_lt_of_cell? _ _ (hx i lf))]; exact hx i lf
        have cy : wr.cell? (y.add i) = some (.int .i64 l[i]) := by rw [bw.cell (World.block_lt_of_cell? _ _ (hy i ll))]; exact hy i ll
        have pb := HB.out i lf ll
        have sb := dot_bd f l HB.out i hi hi'
        have DS := Hid.intro (dot_succ f l i lf ll)
        generalize dot (f.take i) (l.take i) = s at *
        obtain ⟨p, hp⟩ : ∃ p, f[i] * l[i] = p := ⟨_, rfl⟩
        rw [hp] at pb
        have w1 : IntKind.i64.wrap p = p := by rw [IntKind.wrap_i64]; omega
        have w2 : IntKind.i64.wrap (s + p) = s + p := by rw [IntKind.wrap_i64]; omega
        rw [hp] at DS
        generalize f[i] = u at *
        generalize l[i] = v at *
        clear hx hy pb sb
        go_wp2_with fail
        go_quiet (fail)
        go_wp2_with fail
        go_roundw
        case rel => exact ⟨i + 1, lf, ll, by go_num, by rw [DS.out], below_drewN bw nq⟩
        case measure => simp [intOf]; omega
      · have D : Hid (dot (f.take i) (l.take i) = dot f l) := dot_all f l i (by omega)
        have B := Hid.intro bw
        generalize dot (f.take i) (l.take i) = s at *
        go_wp2_with fail
        go_ret
        exact ⟨ret_int D.out, B.out⟩
set_option maxRecDepth 100000 in
set_option maxHeartbeats 1000000 in
theorem rcost_any (a b : Option Addr) (n m cap cap' : Nat) (f l : List Int) (w : World) (h : RI w a n f) (h' : RI w b m l) (hn : n ≤ 1000) (hm : m ≤ 1000) (hb : DotB f l) :
    Calls Try.prog 15 #[.slice a n cap, .slice b m cap'] w fun e w' => e = .returned (.int .i64 (dot f l)) ∧ Below w.heap.size w w' := by
  obtain ⟨h1, h2⟩ := h
  obtain ⟨h1', h2'⟩ := h'
  subst h1 h1'
  have HX := Hid.intro h2
  have HY := Hid.intro h2'
  have HB := Hid.intro hb
  clear h2 h2' hb
  go_enter Try.func15, Try.ntmps15
  go_wp2_with fail
  go_loopw [5, 6] (fun sv iv wr => CoRel f l w sv iv wr) (fun _ iv _ => f.length - (intOf iv).toNat)
  case atStart => exact ⟨0, by omega, by omega, rfl, rfl, Below.refl _ _⟩
  case round =>
    obtain ⟨i, hi, hi', rfl, rfl, bw⟩ := hrel
    by_cases lf : i < f.length
    · by_cases ll : i < l.length
      · obtain ⟨x, rfl, hx⟩ := HX.out (by omega)
        obtain ⟨y, rfl, hy⟩ := HY.out (by omega)
        have cx : wr.cell? (x.add i) = some (.int .i64 f[i]) := by rw [bw.cell (World.block_lt_of_cell? _ _ (hx i lf))]; exact hx i lf
        have cy : wr.cell? (y.add i) = some (.int .i64 l[i]) := by rw [bw.cell (World.block_lt_of_cell? _ _ (hy i ll))]; exact hy i ll
        have pb := HB.out i lf ll
        have sb := dot_bd f l HB.out i hi hi'
        have DS := Hid.intro (dot_succ f l i lf ll)
        generalize dot (f.take i) (l.take i) = s at *
        obtain ⟨p, hp⟩ : ∃ p, f[i] * l[i] = p := ⟨_, rfl⟩
        rw [hp] at pb
        have w1 : IntKind.i64.wrap p = p := by rw [IntKind.wrap_i64]; omega
        have w2 : IntKind.i64.wrap (s + p) = s + p := by rw [IntKind.wrap_i64]; omega
        rw [hp] at DS
        generalize f[i] = u at *
        generalize l[i] = v at *
        clear hx hy pb sb
        go_wp2_with fail
        go_quiet (fail)
        go_wp2_with fail
        go_roundw
        case rel => exact ⟨i + 1, lf, ll, by go_num, by rw [DS.out], below_drewN bw nq⟩
        case measure => simp [intOf]; omega
      · have D : Hid (dot (f.take i) (l.take i) = dot f l) := dot_all f l i (by omega)
        have B := Hid.intro bw
        generalize dot (f.take i) (l.take i) = s at *
        go_wp2_with fail
        go_ret
        exact ⟨ret_int D.out, B.out⟩
    · have D : Hid (dot (f.take i) (l.take i) = dot f l) := dot_all f l i (by omega)
      have B := Hid.intro bw
      generalize dot (f.take i) (l.take i) = s at *
      go_wp2_with fail
      go_ret
      exact ⟨ret_int D.out, B.out⟩
end Go.Proofs.Ytabnafjndljimaa
