/-
  The reference's Sum: what it returns, of 20000 bytes at the most.
-/
import Derived.Test.YtlmkdadhdeielaaRefN
import Derived.Deep.CutRange
import Derived.Deep.RegionWith
namespace Go.Proofs.Ytlmkdadhdeielaa
open Go.ChangeShapes Go.WideShapes Go.ChangeAt Go.RowKit
open Go.ChangeMaps (open_string shut_string)

theorem blk_drew {W : World} {A : Nat} {cs : Array Value} {t : TypeId} (h : Blk W A cs t) : Blk W.drew A cs t := h
theorem get_own {w W : World} (s : ByteArray) (a : Nat) (ha : a + 8 ≤ s.size) (hs : s.size ≤ 9223372036854775807) (h : Below w.heap.size w W) {B : Nat} {cs : Array Value} {t : TypeId} (i : Nat) (hB : Blk W B cs t) {v : Value} (hv : cs[i]? = some v) :
    Calls Try.prog 18 #[.string s, .int .i64 a] W fun e w' => e = .returned (agg3 (wval ((s.data.toList.drop a).take 8) : Nat) (a + 8 : Nat) 0) ∧ (Blk w' B cs t ∧ Below w.heap.size w w') ∧ w'.cell? ⟨B, i, none⟩ = some v ∧ w'.frozen? ⟨B, i, none⟩ = false ∧ B < w'.heap.size := by
  refine (refGet_any s a ha hs W).mono ?_
  rintro e w' ⟨rfl, hb⟩
  have h1 := blk_below hB hb
  exact ⟨rfl, ⟨h1, h.trans (hb.mono h.size)⟩, (blk_cell h1 i).trans hv, blk_free h1 i, blk_lt h1⟩
def HRel (s : ByteArray) (a : Nat) (nv iv : Value) : Prop := ∃ k : Nat, k ≤ 4 ∧ iv = .int .i64 k ∧ nv = .int .u64 (wval ((s.data.toList.drop a).take k))
theorem fld (x y z : Value) (W : World) : (Instr.field 44 (.agg #[x, y, z]) 0).run Try.prog W = .ok x W := by rfl
set_option maxRecDepth 100000 in
set_option maxHeartbeats 20000000 in
theorem refSum_any (a : Nat) (ha : a < 18446744073709551616) (s : ByteArray) (hs : s.size ≤ 20000) (w : World) :
    Calls Try.prog 10 #[.int .u64 a, .string s] w fun e w' => e = .returned (.int .u64 (sum a s.data.toList : Nat)) ∧ Below w.heap.size w w' := by
  have e5 := p5_bits a
  obtain ⟨y5, hy5⟩ : ∃ y5, (a + 2870177450012600261) % 18446744073709551616 = y5 := ⟨_, rfl⟩
  rw [hy5] at e5
  replace hy5 := hidI hy5
  have D := fun p hp => hidI (sum_def a s.size s.data.toList p hp (len_data s))
  generalize sum a s.data.toList = z at *
  obtain ⟨p, hp⟩ : ∃ p, start a s.data.toList = p := ⟨_, rfl⟩
  replace D := D p hp
  have hr := start_at a s.data.toList
  obtain ⟨A, hA'⟩ : ∃ A, 32 * (s.data.toList.length / 32) = A := ⟨_, rfl⟩
  have hA : A ≤ s.size := by have := len_data s; omega
  rw [hA', hp] at hr
  obtain ⟨h0, r0⟩ := p
  dsimp only at hr D
  subst hr
  replace hp := hidI hp
  replace hA' := hidI hA'
  go_enter Try.func10, Try.ntmps10
  go_upto_if 19 with fail
  go_cut [5, 7, 8, 9, 10, 11] from 19 to 89 (fun s5 s7 s8 s9 s10 s11 wx => s5 = .int .u64 h0 ∧ s7 = .int .i64 A ∧ Below w.heap.size w wx)
  case first =>
    clear D
    by_cases h32 : s.size < 32
    · have z1 := hp.out
      rw [start_few a s.data.toList (by rw [len_data]; exact h32), hy5.out] at z1
      have z2 := (Prod.mk.inj z1).1
      have z3 := hA'.out
      rw [len_data] at z3
      obtain rfl : A = 0 := by omega
      subst z2
      clear z1 z3 hA' hA hp hy5 e5
      have hd : decide ((32 : Int) ≤ (s.size : Int)) = false := by simp; omega
      simp only [hd]
      clear hd h32 hs ha
      go_wp2_with fail
      go_meet
      exact ⟨rfl, rfl, Below.refl _ _⟩
    · have z1 := hp.out
      rw [start_many a s.data.toList (by rw [len_data]; exact h32)] at z1
      have z2 := (Prod.mk.inj z1).1
      clear z1 hp hy5
      replace z2 := hidI z2
      have ff := new4_fits a ha
      obtain ⟨n1, n2, n3⟩ := new4_bits a
      have NE : Hid (new4 a = ⟨(new4 a).a, (new4 a).b, a, (new4 a).d⟩) := rfl
      obtain ⟨q1, hq1⟩ : ∃ q1 : Nat, IntKind.u64.wrap ((a : Int) + 11400714785074694791) = (q1 : Int) := ⟨_, by rw [show (11400714785074694791 : Int) = ((11400714785074694791 : Nat) : Int) from rfl, wrapAdd]⟩
      rw [hq1] at n1
      generalize (new4 a).a = fa at n1 NE
      generalize (new4 a).b = fb at n2 NE
      generalize (new4 a).d = fd at n3 NE
      have hd : decide ((32 : Int) ≤ (s.size : Int)) = true := by simp; omega
      simp only [hd]
      clear hd
      go_wp2
      have B0 : Blk (w.alloc (.cells (cells4 (new4 a)) 22)) w.heap.size (cells4 (new4 a)) 22 := blk_new w _ _
      have W0 : (w.alloc (.cells (cells4 (new4 a)) 22)) = (w.alloc (.cells #[.int .u64 (fa : Int), .int .u64 (fb : Int), .int .u64 (a : Int), .int .u64 (fd : Int)] 22)) := by rw [NE.out]; rfl
      have L0 : Below w.heap.size w (w.alloc (.cells (cells4 (new4 a)) 22)) := (Below.refl _ _).alloc (Nat.le_refl _) _
      rw [W0] at B0 L0
      have HB := hidI (And.intro B0 L0)
      clear B0 L0 W0 NE n1 n2 n3 hq1 e5
      generalize (w.alloc (.cells #[.int .u64 (fa : Int), .int .u64 (fb : Int), .int .u64 (a : Int), .int .u64 (fd : Int)] 22)) = W at *
      generalize new4 a = f at *
      clear h32
      go_loopw [7, 10] (fun av _ wr => ORel f s.data.toList w av wr) (fun av _ _ => s.size - (intOf av).toNat)
      case atStart => exact ⟨0, by omega, rfl, HB.out.1, HB.out.2⟩
      case round =>
        obtain ⟨k, hk, rfl, hB, hb⟩ := hrel
        rw [len_data] at hk
        have PN := hidI (piecesF_next f s.data.toList k)
        have PF := pieces_pres Fits step4 step4_fits 32 s.data.toList f ff k
        clear HB
        obtain ⟨g, hg⟩ : ∃ g, pieces step4 32 s.data.toList f k = g := ⟨_, rfl⟩
        rw [hg] at hB PN PF
        obtain ⟨T, hT⟩ : ∃ T, 32 * k = T := ⟨_, rfl⟩
        simp only [hT]
        have HB := hidI (And.intro hB hb)
        clear hB hb
        by_cases hlt : T + 32 ≤ s.size
        · rw [hT] at PN
          clear PF hg ff z2
          replace hk := hidI hk
          replace hT := hidI hT
          go_wp2
          have hd : decide ((T : Int) + 32 ≤ (s.size : Int)) = true := by simp; omega
          simp only [hd]
          rename_i hx
          clear hd hx
          replace hlt := hidI hlt
          go_loopw [7, 10] (fun av iv wr => IRel g s.data.toList T w av iv wr) (fun _ iv _ => 4 - (intOf iv).toNat)
          case atStart => exact ⟨0, by omega, rfl, rfl, by rw [st_begin]; exact HB.out.1, HB.out.2⟩
          case round =>
            obtain ⟨i, hi, rfl, rfl, hB', hb'⟩ := hrel
            clear HB
            obtain ⟨P, hP⟩ : ∃ P, T + 8 * i = P := ⟨_, rfl⟩
            simp only [hP]
            by_cases h4 : i < 4
            · have c1 := get_own (w := w) (W := wr.drew) s P (by have := hlt.out; omega) (by omega) hb'.drew i (blk_drew hB') (lane_cell _ i h4)
              have S1 := lane_st g ((s.data.toList.drop T).take 32) i h4
              rw [word_in _ T i h4, hP] at S1
              have c2 := fun W => refRound_any (lane (st g ((s.data.toList.drop T).take 32) i) i) (wval ((s.data.toList.drop P).take 8)) W
              have fl := fld (.int .u64 (wval ((s.data.toList.drop P).take 8) : Nat)) (.int .i64 (P + 8 : Nat)) (.int .i64 0)
              have b0 := (blk_cell hB' i).trans (lane_cell _ i h4)
              have fr := blk_free hB' i
              have hsz := blk_lt hB'
              have e1 : IntKind.i64.wrap ((P : Int) + 8) = ((P + 8 : Nat) : Int) := by have := hlt.out; rw [IntKind.wrap_i64]; omega
              have HS := hidI (And.intro hB' hb')
              clear hB' hb'
              replace S1 := hidI S1
              obtain ⟨P8, hP8⟩ : ∃ P8, P + 8 = P8 := ⟨_, rfl⟩
              rw [hP8] at e1 fl
              rw [hP8] at c1
              generalize rnd (lane (st g ((s.data.toList.drop T).take 32) i) i) (wval ((s.data.toList.drop P).take 8)) = r at *
              generalize wval ((s.data.toList.drop P).take 8) = v at *
              generalize lane (st g ((s.data.toList.drop T).take 32) i) i = ln at *
              replace hP8 := hidI hP8
              replace hP := hidI hP
              unfold agg3 at c1
              clear PN
              go_wp2
              go_region_with (first | (go_at_call 18; refine c1.mono ?_; rintro e w4 ⟨rfl, hb4, d0, d1, d2⟩; replace hb4 := hidI hb4) | (go_at_call 17; refine (c2 _).mono ?_; rintro e w4 ⟨rfl, m4, rfl⟩))
              all_goals
                clear c1 c2 fl b0 fr hsz HS d0 d1 d2
                go_wp2
                go_roundw
                case rel => exact ⟨i + 1, by omega, by have := hP.out; have := hP8.out; rw [show T + 8 * (i + 1) = P8 from by omega], by go_num, by rw [← S1.out]; exact blk_set (blk_drewN hb4.out.1 m4) i _, (below_drewN hb4.out.2 m4).setCell (Nat.le_refl _) _⟩
                case measure => simp [intOf]; omega
            · obtain rfl : i = 4 := by omega
              have HS := hidI (And.intro hB' hb')
              clear hB' hb' h4
              replace hP := hidI hP
              go_wp2
              go_roundw
              case rel => exact ⟨k + 1, by rw [len_data]; have := hT.out; have := hlt.out; omega, by have := hP.out; have := hT.out; rw [show 32 * (k + 1) = P from by omega], by rw [PN.out, ← st_end]; exact HS.out.1, HS.out.2⟩
              case measure => have := hP.out; have := hlt.out; simp [intOf]; omega
        · have hq : s.data.toList.length / 32 = k := by rw [len_data]; omega
          have z3 := z2.out
          rw [show (each step4 32 f s.data.toList).1 = g from by unfold each; rw [hq]; exact hg] at z3
          have hTA : T = A := by have := hA'.out; rw [hq] at this; omega
          have hd : decide ((T : Int) + 32 ≤ (s.size : Int)) = false := by simp; omega
          clear z2 hq hA' PN
          have lT : T ≤ s.size := by omega
          replace hk := hidI hk
          replace hT := hidI hT
          have b0 : wr.cell? ⟨w.heap.size, 0, none⟩ = some (.int .u64 (g.a : Nat)) := blk_cell HB.out.1 0
          have b1 : wr.cell? ⟨w.heap.size, 1, none⟩ = some (.int .u64 (g.b : Nat)) := blk_cell HB.out.1 1
          have b2 : wr.cell? ⟨w.heap.size, 2, none⟩ = some (.int .u64 (g.c : Nat)) := blk_cell HB.out.1 2
          have b3 : wr.cell? ⟨w.heap.size, 3, none⟩ = some (.int .u64 (g.d : Nat)) := blk_cell HB.out.1 3
          have bi := fun i hi => (blk_cell HB.out.1 i).trans (lane_cell g i hi)
          obtain ⟨s1, s2, hj, j1, j2, j3, j4, j5⟩ := join_h g
          have c1 : ∀ w, Calls Try.prog 19 #[.int .u64 g.a, .int .i64 1] w fun e w' => e = .returned (.int .u64 (rol g.a 1 : Nat)) ∧ ∃ m, w' = w.drewN m := fun w => refRol_any g.a 1 PF.1 (by decide) w
          have c2 : ∀ w, Calls Try.prog 19 #[.int .u64 g.b, .int .i64 7] w fun e w' => e = .returned (.int .u64 (rol g.b 7 : Nat)) ∧ ∃ m, w' = w.drewN m := fun w => refRol_any g.b 7 PF.2.1 (by decide) w
          have c3 : ∀ w, Calls Try.prog 19 #[.int .u64 g.c, .int .i64 12] w fun e w' => e = .returned (.int .u64 (rol g.c 12 : Nat)) ∧ ∃ m, w' = w.drewN m := fun w => refRol_any g.c 12 PF.2.2.1 (by decide) w
          have c4 : ∀ w, Calls Try.prog 19 #[.int .u64 g.d, .int .i64 18] w fun e w' => e = .returned (.int .u64 (rol g.d 18 : Nat)) ∧ ∃ m, w' = w.drewN m := fun w => refRol_any g.d 18 PF.2.2.2 (by decide) w
          generalize rol g.a 1 = r1 at *
          generalize rol g.b 7 = r2 at *
          generalize rol g.c 12 = r3 at *
          generalize rol g.d 18 = r4 at *
          replace j5 := hidI j5
          replace hTA := hidI hTA
          clear hg ff PF hA ha
          replace hd := hidI hd
          replace bi := hidI bi
          have zz : Unit → hl g hj 4 = h0 := fun _ => by rw [j5.out, z3]
          clear j5 z3
          go_upto_if 39 with fail
          simp only [hd.out]
          clear hd hlt hs
          go_wp2
          go_quiet ((go_at_call 19; first | with_reducible exact Calls.quiet_of (c1 _) | with_reducible exact Calls.quiet_of (c2 _) | with_reducible exact Calls.quiet_of (c3 _) | with_reducible exact Calls.quiet_of (c4 _)))
          clear c1 c2 c3 c4 b0 b1 b2 b3 j1 j2 j3
          go_wp2
          have HV : Hid (Below w.heap.size w (wr.drewN nq)) := below_drewN HB.out.2 nq
          replace bi : Hid (∀ i, i < 4 → (wr.drewN nq).cell? ⟨w.heap.size, i, none⟩ = some (.int .u64 (lane g i : Nat))) := bi.out
          generalize wr.drewN nq = V at *
          go_loopw [5, 11] (fun hv iv wq => KRel g hj V hv iv wq) (fun _ iv _ => 4 - (intOf iv).toNat)
          case atStart => exact ⟨0, 0, by omega, rfl, by rw [hl0], rfl⟩
          case round =>
            obtain ⟨i, m, hi, rfl, rfl, rfl⟩ := hrel
            have lh := hl_lt g hj j4 i
            by_cases hi4 : i < 4
            · have bb : (V.drewN m).cell? ⟨w.heap.size, i, none⟩ = some (.int .u64 (lane g i : Nat)) := bi.out i hi4
              have HL := fun (_ : Unit) => lane_hl g hj i hi4
              obtain ⟨r, x, y, f1, f2, f3, f4⟩ := hlane_facts (hl g hj i) (lane g i) lh
              have cr := fun W => refRound_any 0 (lane g i) W
              rw [← HL ()] at f4
              simp only [f1] at cr
              clear f1
              obtain ⟨h9, hh9⟩ : ∃ h9, hl g hj (i + 1) = h9 := ⟨_, rfl⟩
              rw [hh9] at f4
              replace hh9 := fun (_ : Unit) => hh9
              have hi5 : (i : Int) < 4 := by omega
              generalize hl g hj i = h8 at *
              generalize lane g i = ln at *
              clear HL lh lT hi4
              go_wp2_with fail
              refine (cr _).mono ?_
              rintro e w' ⟨rfl, m2, rfl⟩
              go_wp2
              go_roundw
              case rel => exact ⟨i + 1, m + m2, by omega, by go_num, by rw [hh9 ()], rfl⟩
              case measure => simp [intOf]; omega
            · obtain rfl : i = 4 := by omega
              obtain rfl := hTA.out
              simp only [zz ()]
              clear zz lh hi4 bi
              go_wp2_with fail
              go_meet
              exact ⟨rfl, rfl, below_drewN HV.out m⟩
  case rest =>
    obtain ⟨rfl, rfl, hb'⟩ := hcut
    have hb := hidI hb'
    clear hb' hp hA' e5 ha hy5
    have ee := wrapAdd h0 s.size
    have ly := m64 (h0 + s.size)
    generalize (h0 + s.size) % 18446744073709551616 = y0 at *
    go_wp2
    go_loopw [5, 7] (fun hv av wr => TRel hword 8 s.data.toList A y0 w hv av wr) (fun _ av _ => s.size - (intOf av).toNat)
    case atStart => exact ⟨0, by rw [len_data]; omega, rfl, rfl, hb.out⟩
    case round =>
      obtain ⟨k, hk, rfl, rfl, hbr⟩ := hrel
      rw [len_data] at hk
      have lp : pieces hword 8 (s.data.toList.drop A) y0 k < 18446744073709551616 := pieces_pres (· < 18446744073709551616) hword hword_lt 8 _ _ ly k
      have PN := hidI (pieces_next hword 8 A y0 k s.data.toList)
      clear ee hb
      obtain ⟨B, hB⟩ : ∃ B, A + 8 * k = B := ⟨_, rfl⟩
      by_cases hlt : B + 8 ≤ s.size
      · obtain ⟨r, x, y, f1, f2, f3, f4, f5⟩ := word_facts _ lp ((s.data.toList.drop B).take 8)
        have c1 := refGet_any s B hlt (by omega) wr
        have c2 := fun W => refRound_any 0 (wval ((s.data.toList.drop B).take 8)) W
        have c3 := fun W => refRol_any x 27 f3 (by decide) W
        simp only [f1] at c2
        rw [hB, ← hB] at PN
        rw [hB] at hk
        simp only [hB]
        have e1 : IntKind.i64.wrap ((B : Int) + 8) = ((B + 8 : Nat) : Int) := by rw [IntKind.wrap_i64]; omega
        replace hB := hidI hB
        replace hbr := hidI hbr
        generalize wval ((s.data.toList.drop B).take 8) = v at *
        obtain ⟨h2, hh2⟩ : ∃ h2, hword (pieces hword 8 (s.data.toList.drop A) y0 k) ((s.data.toList.drop B).take 8) = h2 := ⟨_, rfl⟩
        rw [hh2] at f5
        replace hh2 := hidI hh2
        generalize pieces hword 8 (s.data.toList.drop A) y0 k = hh at *
        generalize rol x 27 = x27 at *
        clear f3 lp f1
        obtain ⟨B8, hB8⟩ : ∃ B8, B + 8 = B8 := ⟨_, rfl⟩
        rw [hB8] at e1 c1 hlt
        replace hB8 := hidI hB8
        clear D hs hA hk
        go_wp2_with fail
        refine c1.mono ?_
        rintro e w1 ⟨rfl, hb1⟩
        replace hb1 := hidI (hbr.out.trans (hb1.mono hbr.out.size))
        have fl := fld (.int .u64 v) (.int .i64 B8) (.int .i64 0)
        unfold agg3
        go_wp2_with fail
        refine (c2 _).mono ?_
        rintro e w' ⟨rfl, m1, rfl⟩
        go_wp2_with fail
        refine (c3 _).mono ?_
        rintro e w' ⟨rfl, m2, rfl⟩
        go_wp2
        go_roundw
        case rel => exact ⟨k + 1, by rw [len_data]; have := hB.out; have := hB8.out; omega, by rw [PN.out, hB.out, hh2.out], by have := hB.out; have := hB8.out; rw [show A + 8 * (k + 1) = B8 from by omega], below_drewN hb1.out _⟩
        case measure => have := hB8.out; simp [intOf]; omega
      · have hq : (s.data.toList.length - A) / 8 = k := by rw [len_data]; omega
        rw [each_fst hword 8 A y0 k s.data.toList hq, each_at hword 8 A y0 s.data.toList, hq, hB] at D
        simp only [hB]
        have lB : B ≤ s.size := by omega
        clear hq hk hB PN ly
        generalize pieces hword 8 (s.data.toList.drop A) y0 k = h1 at *
        obtain ⟨h2, hh2⟩ : ∃ h2, (each hhalf 4 h1 (s.data.toList.drop B)).1 = h2 := ⟨_, rfl⟩
        have l2 := each_lt hhalf hhalf_lt 4 h1 (s.data.toList.drop B) lp
        obtain ⟨C, hC⟩ : ∃ C, B + 4 * ((s.data.toList.length - B) / 4) = C := ⟨_, rfl⟩
        rw [each_at hhalf 4 B h1 s.data.toList, hC] at D
        rw [hh2] at D l2
        have lC : C ≤ s.size := by have := len_data s; omega
        replace hh2 := hidI hh2
        replace hC := hidI hC
        replace hbr := hidI hbr
        go_upto_if 113 with fail
        go_cut [5, 7, 12, 13] from 113 to 137 (fun s5 s7 s12 s13 wx => s5 = .int .u64 h2 ∧ s7 = .int .i64 C ∧ Below w.heap.size w wx)
        case first =>
          clear D lC l2
          by_cases h4 : B + 4 ≤ s.size
          · have q1 : (s.data.toList.length - B) / 4 = 1 := by rw [len_data]; omega
            have z2 := hh2.out
            rw [each_fst hhalf 4 B h1 1 s.data.toList q1, pieces_next hhalf 4 B h1 0 s.data.toList] at z2
            have z3 := hC.out
            rw [q1] at z3
            rw [show B + 4 * 0 = B from rfl, pieces] at z2
            obtain ⟨r, x, y, f1, f2, f3, f4, f5⟩ := half_facts h1 lp ((s.data.toList.drop B).take 4)
            have c3 := fun W => refRol_any x 23 f3 (by decide) W
            rw [z2] at f5
            have e1 : IntKind.i64.wrap ((B : Int) + 4) = (C : Int) := by rw [IntKind.wrap_i64]; omega
            clear z2 hh2 hC q1 f3 lp
            replace z3 := hidI z3
            generalize rol x 23 = x23 at *
            go_wp2
            have hd : decide ((B : Int) + 4 ≤ (s.size : Int)) = true := by simp; omega
            simp only [hd]
            clear hd
            replace h4 := hidI h4
            go_loop [12, 13] (fun nv iv => HRel s B nv iv) (fun _ iv => 4 - (intOf iv).toNat)
            case atStart => exact ⟨0, by omega, rfl, by simp [wval]⟩
            case round =>
              obtain ⟨i, hi, rfl, rfl⟩ := hrel
              by_cases hlt : i < 4
              · have l2 : B + i < s.size := by have := h4.out; omega
                have hbb := word_bits ((s.data.toList.drop B).take i) s[B + i] i (drop_take_len s B i (by have := h4.out; omega)) (by omega)
                rw [← drop_take_snoc s B i l2] at hbb
                have e2 : IntKind.i64.wrap ((B : Int) + (i : Int)) = ((B + i : Nat) : Int) := by rw [IntKind.wrap_i64]; omega
                clear f1 e1
                generalize wval ((s.data.toList.drop B).take i) = v at *
                obtain ⟨v', hv'⟩ : ∃ v', wval ((s.data.toList.drop B).take (i + 1)) = v' := ⟨_, rfl⟩
                rw [hv'] at hbb
                replace hv' := hidI hv'
                go_wp2
                go_round
                case rel => exact ⟨i + 1, by omega, by go_num, by rw [hv'.out]⟩
                case measure => simp [intOf]; omega
              · obtain rfl : i = 4 := by omega
                generalize wval ((s.data.toList.drop B).take 4) = v at *
                clear hlt
                go_wp2_with fail
                refine (c3 _).mono ?_
                rintro e w' ⟨rfl, m2, rfl⟩
                go_wp2_with fail
                go_meet
                exact ⟨rfl, rfl, below_drewN hbr.out _⟩
          · have q1 : (s.data.toList.length - B) / 4 = 0 := by rw [len_data]; omega
            have z2 := hh2.out
            rw [each_fst hhalf 4 B h1 0 s.data.toList q1, pieces] at z2
            have z3 := hC.out
            rw [q1] at z3
            obtain rfl := z2
            obtain rfl : B = C := by omega
            clear hh2 hC q1 z3
            go_wp2_with fail
            go_meet
            exact ⟨rfl, rfl, hbr.out⟩
        case rest =>
          obtain ⟨rfl, rfl, hb'⟩ := hcut
          replace hb' := hidI hb'
          clear hh2 hC hbr lB hlt lp
          go_wp2
          go_loopw [5, 7] (fun hv av wr => TRel hsingle 1 s.data.toList C h2 w hv av wr) (fun _ av _ => s.size - (intOf av).toNat)
          case atStart => exact ⟨0, by rw [len_data]; omega, rfl, rfl, hb'.out⟩
          case round =>
            obtain ⟨j, hj, rfl, rfl, hbr⟩ := hrel
            rw [len_data] at hj
            have lp : pieces hsingle 1 (s.data.toList.drop C) h2 j < 18446744073709551616 := pieces_pres (· < 18446744073709551616) hsingle hsingle_lt 1 _ _ l2 j
            have PN := hidI (pieces_next hsingle 1 C h2 j s.data.toList)
            clear hb'
            obtain ⟨E, hE⟩ : ∃ E, C + 1 * j = E := ⟨_, rfl⟩
            simp only [hE]
            replace hbr := hidI hbr
            by_cases hlt : E < s.size
            · have tk : (s.data.toList.drop E).take 1 = [s[E]] := by
                have := drop_take_snoc s E 0 (by omega)
                simpa using this
              rw [hE, tk] at PN
              obtain ⟨r, x, f1, f2, f3, f4⟩ := single_facts _ lp s[E]
              have c3 := fun W => refRol_any x 11 f3 (by decide) W
              have e1 : IntKind.i64.wrap ((E : Int) + 1) = ((E + 1 : Nat) : Int) := by rw [IntKind.wrap_i64]; omega
              have b1 : IntKind.u64.wrap (s[E].toNat : Int) = (s[E].toNat : Int) := wrap_small _ (UInt8.toNat_lt _)
              rw [← PN.out] at f4
              generalize rol x 11 = x11 at *
              generalize pieces hsingle 1 (s.data.toList.drop C) h2 j = hh at *
              obtain ⟨h3, hh3⟩ : ∃ h3, pieces hsingle 1 (s.data.toList.drop C) h2 (j + 1) = h3 := ⟨_, rfl⟩
              rw [hh3] at f4
              replace hh3 := hidI hh3
              clear PN f3 lp D hs hA
              obtain ⟨E1, hE1⟩ : ∃ E1, E + 1 = E1 := ⟨_, rfl⟩
              rw [hE1] at e1
              replace hE1 := hidI hE1
              replace hE := hidI hE
              clear hj tk
              go_wp2_with fail
              refine (c3 _).mono ?_
              rintro e w' ⟨rfl, m2, rfl⟩
              go_wp2
              go_roundw
              case rel => exact ⟨j + 1, by rw [len_data]; have := hE.out; omega, by rw [hh3.out], by have := hE.out; have := hE1.out; rw [show C + 1 * (j + 1) = E1 from by omega], below_drewN hbr.out _⟩
              case measure => have := hE1.out; simp [intOf]; omega
            · have hq : (s.data.toList.length - C) / 1 = j := by rw [len_data, Nat.div_one]; omega
              rw [each_fst hsingle 1 C h2 j s.data.toList hq] at D
              have cm := fun W => refMix_any _ lp W
              generalize pieces hsingle 1 (s.data.toList.drop C) h2 j = h3 at *
              generalize mix h3 = m3 at *
              obtain rfl := D.out
              clear PN hE hq
              go_wp2_with fail
              refine (cm _).mono ?_
              rintro e w' ⟨rfl, rfl⟩
              go_wp2
              go_ret
              exact ⟨rfl, hbr.out⟩
end Go.Proofs.Ytlmkdadhdeielaa
