/-
  The numbers of parts, or none, for every list of a thousand at the most.
-/
import Derived.Test.YtnnecccnoemkpaaAw
import Derived.Test.YtnnecccnoemkpaaPa
namespace Go.Proofs.Ytnnecccnoemkpaa
open Go.ChangeShapes Go.WideShapes Go.ChangeAt Go.RowKit
open Go.ChangeMaps (open_string shut_string)

def jv (p : Int × Int) : Int := jval p.1 p.2
def jk (p : Int × Int) : Bool := jok p.1 p.2
def vals (ps : List (Int × Int)) : List Int := if ps.all jk = true then ps.map jv else []
theorem vals_ok (ps : List (Int × Int)) (h : ps.all jk = true) : vals ps = ps.map jv := if_pos h
theorem vals_no (ps : List (Int × Int)) (h : ps.all jk = false) : vals ps = [] := if_neg (by rw [h]; exact Bool.false_ne_true)
def VaRel (ps : List (Int × Int)) (w : World) (sv : Value) (wr : World) : Prop :=
  ∃ i : Nat, i ≤ ps.length ∧ sv = .int .i64 i ∧ (ps.take i).all jk = true ∧ wr.ownsRow w.heap.size 2 1 (.slice (some ⟨w.heap.size, 0, none⟩) ps.length ps.length) ps.length (ivs ((ps.take i).map jv ++ List.replicate (ps.length - i) 0)) ∧ Below w.heap.size w wr
theorem all_no (ps : List (Int × Int)) (i : Nat) (h : i < ps.length) (hk : jk ps[i] = false) : ps.all jk = false := by
  rw [List.all_eq_false]
  exact ⟨ps[i], List.getElem_mem h, by rw [hk]; exact Bool.false_ne_true⟩
set_option maxRecDepth 100000 in
set_option maxHeartbeats 1000000 in
theorem values_any (a : Option Addr) (n cap : Nat) (ps : List (Int × Int)) (w : World) (h : RP w a n ps) (hf : FP ps) (hn : n ≤ 1000) :
    Calls Try.prog 9 #[.slice a n cap] w fun e w' => ∃ v, e = .returned (.tuple #[v, .bool (ps.all jk)]) ∧ w'.ownsRow w.heap.size 2 1 v (vals ps).length (ivs (vals ps)) ∧ Below w.heap.size w w' := by
  obtain ⟨h1, h2⟩ := h
  subst h1
  have mk := make_ints 22 2 Try.underlying22 info2 ps.length (by omega) w
  have ow := own_made_ints w 2 ps.length (by omega)
  have bl : Below w.heap.size w (w.alloc (.cells (madeCells #[.int .i64 0] ps.length) 2)) := (Below.refl _ _).alloc (Nat.le_refl _) _
  have HX : Hid (0 < ps.length → ∃ x, a = some x ∧ ∀ i (h : i < ps.length), w.cell? (x.add (i * 2)) = some (.int .i64 ps[i].1) ∧ w.cell? (x.add (i * 2 + 1)) = some (.int .u64 ps[i].2)) := h2
  have HF : Hid (FP ps) := hf
  clear h2 hf
  generalize w.alloc (.cells (madeCells #[.int .i64 0] ps.length) 2) = w1 at *
  go_enter Try.func9, Try.ntmps9
  go_wp2_with fail
  go_loopw [14] (fun sv wr => VaRel ps w sv wr) (fun sv _ => ps.length - (intOf sv).toNat)
  case atStart => exact ⟨0, by omega, rfl, rfl, by rw [fill_zero]; exact ow, bl⟩
  case round =>
    clear mk ow bl
    obtain ⟨i, hi, rfl, d0, d1, d2⟩ := hrel
    by_cases hlt : i < ps.length
    · obtain ⟨x, rfl, hx⟩ := HX.out (by omega)
      obtain ⟨cx, cy⟩ := hx i hlt
      rw [← d2.cell (World.block_lt_of_cell? _ _ cx)] at cx
      rw [← d2.cell (World.block_lt_of_cell? _ _ cy)] at cy
      rw [add_next] at cy
      obtain ⟨_, r0, r1⟩ := HF.out ps[i] (List.getElem_mem hlt)
      have FS := Hid.intro (fill_step jv 0 ps i hlt)
      have NO := Hid.intro (all_no ps i hlt)
      have ts : Hid (jk ps[i] = true → (ps.take (i + 1)).all jk = true) := fun hk => by rw [take_snoc ps i hlt, List.all_append, d0]; simp [hk]
      have hjv : jv ps[i] = jval ps[i].1 ps[i].2 := rfl
      have hjk : jk ps[i] = jok ps[i].1 ps[i].2 := rfl
      generalize ps[i] = p at *
      obtain ⟨c, r⟩ := p
      simp only at cx cy r0 r1 hjv hjk
      rw [hjk] at NO ts
      rw [hjv] at FS
      have J := join_any c r (wr.alloc (.cells #[.int .i64 c, .int .u64 r] 43)) r0 r1
      clear hx hjv hjk
      have d1' := World.ownsRow.alloc d1 (.cells #[.int .i64 c, .int .u64 r] 43)
      have d2' : Below w.heap.size w (wr.alloc (.cells #[.int .i64 c, .int .u64 r] 43)) := d2.alloc d2.size _
      have hs := d2.size
      clear d1 d2
      generalize jval c r = z at *
      by_cases hk : jok c r = true
      · rw [hk] at J
        have T := Hid.intro (ts.out hk)
        clear ts NO
        go_wp2_with fail
        with_reducible refine J.mono ?_
        rintro e w2 ⟨rfl, b2⟩
        have e1 := own_later d1' b2
        have e2 : Below w.heap.size w w2 := d2'.trans (b2.mono d2'.size)
        obtain ⟨u0, c0, f0⟩ := own_one e1 i hlt
        have e3 := own_set e1 i (.int .i64 z)
        rw [ivs_set, FS.out] at e3
        have e4 : Below w.heap.size w (w2.setCell ⟨w.heap.size, i, none⟩ (.int .i64 z)) := e2.setCell (Nat.le_refl _) _
        have E3 := Hid.intro e3
        clear J e1 e2 d1' d2' b2 cx cy e3
        go_wp2_with fail
        go_roundw
        case rel => exact ⟨i + 1, hlt, by go_num, T.out, E3.out, e4⟩
        case measure => simp [intOf]; omega
      · have hkf : jok c r = false := by simpa using hk
        rw [hkf] at J NO
        have N := Hid.intro (NO.out rfl)
        clear hk hkf ts FS NO
        go_wp2_with fail
        with_reducible refine J.mono ?_
        rintro e w2 ⟨rfl, b2⟩
        have e2 : Below w.heap.size w w2 := d2'.trans (b2.mono d2'.size)
        clear J d1' d2' b2 cx cy
        go_wp2_with fail
        go_ret2
        refine ⟨.slice none 0 0, by rw [N.out]; rfl, ?_, e2⟩
        rw [vals_no _ N.out]; exact World.ownsRow_nil _ _ _ _
    · obtain rfl : i = ps.length := by omega
      rw [fill_done] at d1
      rw [List.take_length] at d0
      have D0 := Hid.intro d0
      clear d0
      go_wp2_with fail
      go_ret2
      refine ⟨_, by rw [D0.out]; rfl, ?_, d2⟩
      rw [vals_ok _ D0.out, List.length_map]; exact d1
end Go.Proofs.Ytnnecccnoemkpaa
