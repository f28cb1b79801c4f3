/-
  A part set in among others: what the steps of it leave as it was; whether two lists of parts are one; the reference's Parts, Of and Values.
-/
import Derived.Test.YtofclflcicjlaaaGreatOfyh
import Derived.Test.YtofclflcicjlaaaGreatPushh
import Derived.Test.YtofclflcicjlaaaGreatTyh
import Derived.Test.YtofclflcicjlaaaGreatLy
import Derived.Test.YtofclflcicjlaaaGreatSc
import Derived.Test.YtofclflcicjlaaaGreatSg
import Derived.BigRegion
import Derived.WalkKit
import Derived.ProofKit
import Derived.OpenShut
import Derived.Deep.QuietTactic
import Derived.BigQuiet
import Derived.Deep.RegionHeld3
import Derived.Below
import Derived.Deep.Heap
import Derived.ArgAppend
import Derived.Maps.AppendAt
import Derived.Laws.IdiomStrings
import Derived.Deep.OwnRows
import Derived.Deep.RegionLaw
import Derived.Handy
import Derived.Deep.RegionWith
import Derived.OwnWalk
import Derived.Laws.OwnMore
import Derived.Lib.AppendZeros
import Derived.Laws.BitsAllLaws
import Derived.Laws.IdiomCopy
namespace Go.Proofs.YtofclflcicjlaaaGreat
set_option maxRecDepth 100000
open Go.ChangeShapes Go.WideShapes Go.ChangeAt Go.RowKit
open Go.ChangeMaps (open_string shut_string)
theorem pv_one (c r : Int) : ∀ u ∈ [Value.int .i64 c, Value.int .u64 r], u.oneCell' = true := by
  intro u hu
  simp at hu
  rcases hu with rfl | rfl <;> rfl


def SaRelP (zs ys : List (Int × Int)) (w : World) (sv : Value) (wr : World) : Prop :=
  ∃ i : Nat, i ≤ zs.length ∧ sv = .int .i64 i ∧ zs.take i = ys.take i ∧ Below w.heap.size w wr
set_option maxRecDepth 100000 in
set_option maxHeartbeats 1000000 in
theorem sameP_any (a b : Option Addr) (n m cap cap' : Nat) (zs ys : List (Int × Int)) (w : World) (h : RP w a n zs) (h' : RP w b m ys) (hn : n ≤ 100000) (hm : m ≤ 9223372036854775807) :
    Calls Tryz.prog 11 #[.slice a n cap, .slice b m cap'] w fun e w' => e = .returned (.bool (decide (zs = ys))) ∧ Below w.heap.size w w' := by
  obtain ⟨h1, h2⟩ := h
  obtain ⟨h1', h2'⟩ := h'
  subst h1 h1'
  have HX : Hid (0 < zs.length → ∃ x, a = some x ∧ ∀ i (h : i < zs.length), w.cell? (x.add (i * 2)) = some (.int .i64 zs[i].1) ∧ w.cell? (x.add (i * 2 + 1)) = some (.int .u64 zs[i].2)) := h2
  have HY : Hid (0 < ys.length → ∃ x, b = some x ∧ ∀ i (h : i < ys.length), w.cell? (x.add (i * 2)) = some (.int .i64 ys[i].1) ∧ w.cell? (x.add (i * 2 + 1)) = some (.int .u64 ys[i].2)) := h2'
  clear h2 h2'
  by_cases hl : zs.length = ys.length
  · have HL := Hid.intro hl
    obtain ⟨k, hk⟩ : ∃ k, ys.length = k := ⟨_, rfl⟩
    rw [hk] at hl
    rw [hk, hl]
    rw [hl] at hn
    have t0 : ((k : Int) == (k : Int)) = true := by simp
    have HK := Hid.intro hk
    have HZ := Hid.intro hl
    clear hk hl hm
    go_enter Tryz.func11, Tryz.ntmps11
    go_wp2_with fail
    go_loopw [5] (fun sv wr => SaRelP zs ys w sv wr) (fun sv _ => k - (intOf sv).toNat)
    case atStart => exact ⟨0, by omega, rfl, rfl, Below.refl _ _⟩
    case round =>
      obtain ⟨i, hi, rfl, d0, d1⟩ := hrel
      have hi' : i ≤ k := by rw [← HZ.out]; exact hi
      clear hi
      by_cases hlt : i < k
      · have lz : i < zs.length := by rw [HZ.out]; exact hlt
        have ly : i < ys.length := by rw [HK.out]; exact hlt
        obtain ⟨x, rfl, hx⟩ := HX.out (by omega)
        obtain ⟨y, rfl, hy⟩ := HY.out (by omega)
        obtain ⟨cx, cx'⟩ := hx i lz
        obtain ⟨cy, cy'⟩ := hy i ly
        rw [← d1.cell (World.block_lt_of_cell? _ _ cx)] at cx
        rw [← d1.cell (World.block_lt_of_cell? _ _ cy)] at cy
        rw [← d1.cell (World.block_lt_of_cell? _ _ cx'), add_next] at cx'
        rw [← d1.cell (World.block_lt_of_cell? _ _ cy'), add_next] at cy'
        have B1 : Hid (∀ k, Below w.heap.size w (wr.drewN k)) := fun k => below_drewN d1 k
        have TS : Hid (zs[i] = ys[i] → zs.take (i + 1) = ys.take (i + 1)) := fun e => by rw [take_snoc zs i lz, take_snoc ys i ly, d0, e]
        have NE : Hid (¬ zs[i] = ys[i] → ¬ zs = ys) := fun e h => by subst h; exact e rfl
        generalize zs[i] = u at *
        generalize ys[i] = v at *
        clear hx hy d0 d1 lz ly
        by_cases he : u = v
        · have T := Hid.intro (TS.out he)
          subst he
          obtain ⟨u1, u2⟩ := u
          simp only at cx cx' cy cy'
          clear TS NE
          go_wp2_with fail
          go_quiet (fail)
          go_wp2_with fail
          go_roundw
          case rel => exact ⟨i + 1, by rw [HZ.out]; exact hlt, by go_num, T.out, B1.out nq⟩
          case measure => simp [intOf]; omega
        · have N := Hid.intro (NE.out he)
          obtain ⟨u1, u2⟩ := u
          obtain ⟨v1, v2⟩ := v
          simp only at cx cx' cy cy'
          by_cases h1 : u1 = v1
          · have h2 : ¬ u2 = v2 := fun h2 => he (by rw [h1, h2])
            subst h1
            have t1 : (u2 == v2) = false := by simp [h2]
            clear TS NE he h2
            go_wp2_with fail
            go_quiet (fail)
            clear t1
            go_wp2_with fail
            go_ret
            exact ⟨by rw [decide_eq_false N.out]; rfl, B1.out nq⟩
          · have t1 : (u1 == v1) = false := by simp [h1]
            clear TS NE he h1
            go_wp2_with fail
            go_quiet (fail)
            clear t1
            go_wp2_with fail
            go_ret
            exact ⟨by rw [decide_eq_false N.out]; rfl, B1.out nq⟩
      · have E : Hid (zs = ys) := by
          have e : i = k := by omega
          subst e
          rwa [List.take_of_length_le (by rw [HZ.out]; exact Nat.le_refl _), List.take_of_length_le (by rw [HK.out]; exact Nat.le_refl _)] at d0
        clear d0
        go_wp2_with fail
        go_ret
        exact ⟨by rw [decide_eq_true E.out]; rfl, d1⟩
  · have N : Hid (¬ zs = ys) := fun h => hl (by rw [h])
    have t0 : ((zs.length : Int) == (ys.length : Int)) = false := by simp; omega
    go_enter Tryz.func11, Tryz.ntmps11
    go_wp2_with fail
    go_ret
    exact ⟨by rw [decide_eq_false N.out]; rfl, Below.refl _ _⟩

def RpRelq (zs : List Int) (w : World) (ov sv : Value) (wr : World) : Prop :=
  ∃ i, i ≤ zs.length ∧ sv = .int .i64 (i : Nat) ∧ wr.ownsRow w.heap.size 74 2 ov i (pvs ((zs.take i).map spl)) ∧ Below w.heap.size w wr
set_option maxRecDepth 100000 in
set_option maxHeartbeats 1000000 in
theorem rparts_any (a : Option Addr) (n cap : Nat) (zs : List Int) (w : World) (h : RI w a n zs) (hf : FI zs) (hn : n ≤ 1000) :
    Calls Tryz.prog 12 #[.slice a n cap] w fun e w' => ∃ v, e = .returned v ∧ w'.ownsRow w.heap.size 74 2 v n (pvs (zs.map spl)) ∧ Below w.heap.size w w' := by
  obtain ⟨h1, h2⟩ := h
  subst h1
  obtain ⟨i0, hi0, hz0, hs0, hb0⟩ := info_all info74
  have HX : Hid (0 < zs.length → ∃ x, a = some x ∧ ∀ i (h : i < zs.length), w.cell? (x.add i) = some (.int .i64 zs[i])) := h2
  have HF : Hid (FI zs) := hf
  clear h2 hf
  go_enter Tryz.func12, Tryz.ntmps12
  go_wp2_with fail
  go_loopw [3, 4] (fun ov sv wr => RpRelq zs w ov sv wr) (fun _ sv _ => zs.length - (intOf sv).toNat)
  case atStart => exact ⟨0, by omega, rfl, World.ownsRow_nil _ _ _ _, Below.refl _ _⟩
  case round =>
    obtain ⟨i, hi, rfl, d1, d2⟩ := hrel
    by_cases hlt : i < zs.length
    · obtain ⟨x, rfl, hx⟩ := HX.out (by omega)
      have cx := hx i hlt
      rw [← d2.cell (World.block_lt_of_cell? _ _ cx)] at cx
      have bd := HF.out zs[i] (List.getElem_mem hlt)
      have TS : Hid (pvs ((zs.take (i + 1)).map spl) = pvs ((zs.take i).map spl) ++ [.int .i64 (blen (zmap zs[i])), .int .u64 (srest (zmap zs[i]))]) := by
        show _ = _
        rw [take_snoc zs i hlt, List.map_append, pvs_append]; rfl
      generalize zs[i] = z at *
      clear hx
      have S := refSplit_any z wr bd.1 bd.2
      go_wp2_with fail
      with_reducible refine S.mono ?_
      rintro e w2 ⟨rfl, b2⟩
      have e1 := own_later d1 b2
      have e2 : Below w.heap.size w w2 := d2.trans (b2.mono d2.size)
      clear S d1 d2 b2 cx
      generalize blen (zmap z) = c at *
      generalize srest (zmap z) = r at *
      generalize pvs ((zs.take i).map spl) = pre at *
      go_wp2_with (at_builtin; refine wpList_pushh _ rfl (.tmp 11) (.tmp 17) 22 rfl 74 i0 (.agg #[.int .i64 0, .int .u64 0]) 2 16 Tryz.underlying22 hi0 hz0 hs0 hb0 rfl (by decide) (by decide) u3 i pre rfl (World.ownsRow.alloc (own_low e1 (Nat.zero_le _)) _) ⟨w2.heap.size, 0, none⟩ 1 1 [.int .i64 c, .int .u64 r] rfl rfl (two_new _ _ _ _) (pv_one c r) (by omega) ?_)
      intro v8 w8 o8 g8 m8
      have fu : From w.heap.size u3 := fun k hk => (e1.lt k hk).1
      have f8 := from_moved fu m8 (by have := e2.size; simp; omega)
      have D8 : Below w.heap.size w w8 := below_grown (e2.alloc e2.size _) g8 (by have := e2.size; simp; omega) (fun k hk => fu k hk)
      rw [← TS.out] at o8
      have JJ : Hid (RpRelq zs w v8 (.int .i64 ((i + 1 : Nat) : Int)) w8) := ⟨i + 1, hlt, rfl, own_up o8 f8, D8⟩
      obtain ⟨b8, cap8, rfl⟩ := own_slice o8 (by omega)
      clear o8 g8 m8 fu f8 D8 e1 e2
      go_wp2_with fail
      go_roundw
      case rel => exact JJ.out
      case measure => simp [intOf]; omega
    · obtain rfl : i = zs.length := by omega
      rw [List.take_length] at d1
      go_wp2_with fail
      go_ret
      exact ⟨_, rfl, d1, d2⟩
def RoRel (ps : List (Int × Int)) (w : World) (sv : Value) (wr : World) : Prop :=
  ∃ i : Nat, i ≤ ps.length ∧ sv = .int .i64 i ∧ wr.ownsRow w.heap.size 3 1 (.slice (some ⟨w.heap.size, 0, none⟩) 65 65) 65 (ivs (cnt (ps.take i))) ∧ Below w.heap.size w wr
set_option maxRecDepth 100000 in
set_option maxHeartbeats 1000000 in
theorem rof_any (a : Option Addr) (n cap : Nat) (ps : List (Int × Int)) (w : World) (h : RP w a n ps) (hn : n ≤ 1000) :
    Calls Tryz.prog 15 #[.slice a n cap] w fun e w' => ∃ v, e = .returned v ∧ w'.ownsRow w.heap.size 3 1 v 65 (ivs (cnt ps)) ∧ Below w.heap.size w w' := by
  obtain ⟨h1, h2⟩ := h
  subst h1
  have mk : (Instr.makeSlice 23 (.int .i64 65) (.int .i64 65)).run Tryz.prog w = .ok (.slice (some ⟨w.heap.size, 0, none⟩) 65 65) (w.alloc (.cells (madeCells #[.int .i64 0] 65) 3)) := make_ints 23 3 Tryz.underlying23 info3 65 (by omega) w
  have ow := own_made_ints w 3 65 (by omega)
  rw [← cnt_nil] at ow
  have bl : Below w.heap.size w (w.alloc (.cells (madeCells #[.int .i64 0] 65) 3)) := (Below.refl _ _).alloc (Nat.le_refl _) _
  have HX : Hid (0 < ps.length → ∃ x, a = some x ∧ ∀ i (h : i < ps.length), w.cell? (x.add (i * 2)) = some (.int .i64 ps[i].1) ∧ w.cell? (x.add (i * 2 + 1)) = some (.int .u64 ps[i].2)) := h2
  clear h2
  generalize w.alloc (.cells (madeCells #[.int .i64 0] 65) 3) = w1 at *
  go_enter Tryz.func15, Tryz.ntmps15
  go_wp2_with fail
  go_loopw [4] (fun sv wr => RoRel ps w sv wr) (fun sv _ => ps.length - (intOf sv).toNat)
  case atStart => exact ⟨0, by omega, rfl, ow, bl⟩
  case round =>
    clear mk ow bl
    obtain ⟨i, hi, rfl, d1, d2⟩ := hrel
    by_cases hlt : i < ps.length
    · obtain ⟨x, rfl, hx⟩ := HX.out (by omega)
      obtain ⟨cx, _⟩ := hx i hlt
      rw [← d2.cell (World.block_lt_of_cell? _ _ cx)] at cx
      have ts := Hid.intro (take_snoc ps i hlt)
      generalize ps[i] = p at *
      obtain ⟨c, r⟩ := p
      simp only at cx
      clear hx
      by_cases hin : 0 ≤ c ∧ c < 65
      · obtain ⟨h0, h65⟩ := hin
        obtain ⟨k, rfl⟩ := Int.eq_ofNat_of_zero_le h0
        have hk65 : k < 65 := by omega
        have hle := clp_le (ps.take i) k
        rw [List.length_take] at hle
        have ck : wr.cell? ⟨w.heap.size, k, none⟩ = some (.int .i64 (clp (ps.take i) k : Int)) := by
          rw [(own_there d1 k (by omega)).1]; unfold ivs; rw [List.getElem?_map, cnt_at _ k hk65]; rfl
        have fk := (own_there d1 k (by omega)).2.2
        have o1 := own_set d1 k (.int .i64 ((clp (ps.take i) k : Int) + 1))
        rw [ivs_set, cnt_in (ps.take i) ((k : Int), r) k hk65 rfl, ← ts.out] at o1
        have o2 := Hid.intro o1
        have b2 : Hid (Below w.heap.size w (wr.setCell ⟨w.heap.size, k, none⟩ (.int .i64 ((clp (ps.take i) k : Int) + 1)))) := d2.setCell (Nat.le_refl _) _
        generalize clp (ps.take i) k = y at *
        clear d1 d2 o1
        go_wp2_with fail
        go_roundw
        case rel => exact ⟨i + 1, by omega, by go_num, o2.out, b2.out⟩
        case measure => simp [intOf]; omega
      · have CO := Hid.intro (cnt_out (ps.take i) (c, r) (by simp only; omega))
        have o2 : Hid (wr.ownsRow w.heap.size 3 1 (.slice (some ⟨w.heap.size, 0, none⟩) 65 65) 65 (ivs (cnt (ps.take (i + 1))))) := by
          show World.ownsRow _ _ _ _ _ _ _
          rw [ts.out, CO.out]; exact d1
        clear d1
        by_cases h0 : c < 0
        · go_wp2_with fail
          go_roundw
          case rel => exact ⟨i + 1, by omega, by go_num, o2.out, d2⟩
          case measure => simp [intOf]; omega
        · have h65 : 65 ≤ c := by omega
          go_wp2_with fail
          go_roundw
          case rel => exact ⟨i + 1, by omega, by go_num, o2.out, d2⟩
          case measure => simp [intOf]; omega
    · obtain rfl : i = ps.length := by omega
      rw [List.take_length] at d1
      go_wp2_with fail
      go_ret
      exact ⟨_, rfl, d1, d2⟩
end Go.Proofs.YtofclflcicjlaaaGreat
