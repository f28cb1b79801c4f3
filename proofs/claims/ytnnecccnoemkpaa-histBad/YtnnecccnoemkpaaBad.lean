/-
  A part that is no number's makes the list none; a class that is none counts for nothing: for every list.
-/
import Derived.Test.YtnnecccnoemkpaaRows
import Derived.WalkKit
import Derived.ProofKit
import Derived.OpenShut
import Derived.ShutString
import Derived.ChangeOld
import Derived.Below
import Derived.Test.YtnnecccnoemkpaaBd
import Derived.Deep.RegionWith
import Derived.Deep.QuietTactic
import Derived.BigQuiet
import Derived.Deep.CutRange
import Derived.Deep.RegionLaw
namespace Go.Proofs.Ytnnecccnoemkpaa.histBad
open Go.ChangeShapes Go.WideShapes Go.ChangeAt Go.RowKit
open Go.ChangeMaps (open_string shut_string)
set_option linter.unusedVariables false

theorem own : ownKnob Try.prog.godebug = none := by kernel_rfl
theorem laidOut : laidOutB Try.prog = true := by kernel_rfl

/-- WHAT THE WALK IS TOLD OF A SLICE OF INTEGERS THAT CAME IN: it is nil; or it leads to a row of 'cap' cells, the numbers 'zs' (the first 'len' are its elements, the rest its spare room), each fitting its kind. -/
def IsRow (k : IntKind) (w : World) (a : Option Addr) (len cap : Nat) (zs : List Int) : Prop :=
  (a = none ∧ len = 0 ∧ cap = 0 ∧ zs = []) ∨
  ∃ x, a = some x ∧ len ≤ cap ∧ cap ≤ maxLen ∧ zs.length = cap ∧ (∀ i, i < zs.length → w.cell? (x.add i) = some (.int k (zs.getD i 0))) ∧ ∀ n ∈ zs, (Lit.int k n).wf = true

theorem row_ri {w : World} {a : Option Addr} {len cap : Nat} {zs : List Int} (h : IsRow .i64 w a len cap zs) : len ≤ maxLen ∧ RI w a len (zs.take len) ∧ FI (zs.take len) := by
  rcases h with ⟨rfl, rfl, rfl, rfl⟩ | ⟨x, rfl, h1, h2, h3, h4, h5⟩
  · exact ⟨Nat.zero_le _, ⟨rfl, fun h => absurd h (by omega)⟩, fun z hz => by simp at hz⟩
  · refine ⟨Nat.le_trans h1 h2, ⟨by rw [List.length_take]; omega, fun _ => ⟨x, rfl, fun i hi => ?_⟩⟩, fun z hz => bounds_i64 (h5 z (List.mem_of_mem_take hz))⟩
    rw [List.length_take] at hi
    rw [h4 i (by omega), List.getD_eq_getElem?_getD, List.getElem?_eq_getElem (by omega), List.getElem_take]; rfl
theorem big (a : Option Addr) (n cap : Nat) (t c r : Int) (w : World) (h : 60 < n) (hm : n ≤ maxLen) :
    Calls Try.prog 7 #[.slice a n cap, .int .u8 t, .int .i64 c, .int .u64 r] w fun e w' => e = .returned (.bool true) ∧ Below w.heap.size w w' := by
  simp only [maxLen] at hm
  have AW := awake_any w
  go_enter Try.func7, Try.ntmps7
  go_wp2_with fail
  with_reducible refine AW.mono ?_
  rintro e w1 ⟨rfl, hb⟩
  clear AW
  go_wp2_with fail
  go_ret
  exact ⟨rfl, hb⟩
def qsOf (ps : List (Int × Int)) (k : Nat) (c r : Int) : List (Int × Int) := ps.take k ++ (c, r) :: ps.drop k
theorem qs_len (ps : List (Int × Int)) (k : Nat) (c r : Int) : (qsOf ps k c r).length = ps.length + 1 := by
  unfold qsOf; rw [List.length_append, List.length_cons, List.length_take, List.length_drop]; omega
theorem qs_cells (ps : List (Int × Int)) (k : Nat) (c r : Int) : pvs (ps.take k) ++ [.int .i64 c, .int .u64 r] ++ pvs (ps.drop k) = pvs (qsOf ps k c r) := by
  unfold qsOf; rw [pvs_append, List.append_assoc]; rfl
theorem qs_mem {ps : List (Int × Int)} {k : Nat} {c r : Int} {p : Int × Int} (h : p ∈ qsOf ps k c r) : p ∈ ps ∨ p = (c, r) := by
  unfold qsOf at h
  rcases List.mem_append.1 h with h | h
  · exact .inl (List.mem_of_mem_take h)
  · rcases List.mem_cons.1 h with h | h
    · exact .inr h
    · exact .inl (List.mem_of_mem_drop h)
theorem qs_no (ps : List (Int × Int)) (k : Nat) (c r : Int) (h : c < 0 ∨ 65 ≤ c) : (qsOf ps k c r).all jk = false := by
  rw [List.all_eq_false]
  refine ⟨(c, r), by unfold qsOf; simp, ?_⟩
  have : jk (c, r) = false := jokOut c r (by omega)
  rw [this]; exact Bool.false_ne_true
theorem qs_cnt (ps : List (Int × Int)) (k : Nat) (c r : Int) (h : c < 0 ∨ 65 ≤ c) : cnt (qsOf ps k c r) = cnt ps := by
  have p : (qsOf ps k c r).Perm (ps ++ [(c, r)]) := by
    unfold qsOf
    refine List.perm_middle.trans ?_
    rw [List.take_append_drop]
    exact (List.perm_append_singleton _ _).symm
  rw [cnt_perm p, cnt_out _ _ h]
def Cut1 (r : Int) (w1 wx : World) : Prop := ∃ c : Int, (c < 0 ∨ 65 ≤ c) ∧ (-9223372036854775808 ≤ c ∧ c ≤ 9223372036854775807) ∧ wx = w1.alloc (.cells #[.int .i64 c, .int .u64 r] 43)
def Cut2 (n : Nat) (qs : List (Int × Int)) (w2 : World) (sv : Value) (wx : World) : Prop := ∃ a cap, sv = .slice a (n + 1) cap ∧ RP wx a (n + 1) qs ∧ Below w2.heap.size w2 wx
theorem cut2_of {n : Nat} {qs : List (Int × Int)} {w2 W : World} {v : Value} (h : W.ownsRow 0 43 2 v (n + 1) (pvs qs)) (D : Below w2.heap.size w2 W) : Cut2 n qs w2 v W := by
  obtain ⟨a, cap, e, _, _, r⟩ := own_rp h
  exact ⟨a, cap, e, r, D⟩
set_option maxRecDepth 100000 in
set_option maxHeartbeats 4000000 in
theorem core (a : Option Addr) (n cap k t : Nat) (c r : Int) (zs : List Int) (w : World) (h : RI w a n zs) (hf : FI zs) (hn : n ≤ 60) (ht : t ≤ 255) (hk : t % (n + 1) = k)
    (c0 : -9223372036854775808 ≤ c) (c1 : c ≤ 9223372036854775807) (r0 : 0 ≤ r) (r1 : r ≤ 18446744073709551615) :
    Calls Try.prog 7 #[.slice a n cap, .int .u8 t, .int .i64 c, .int .u64 r] w fun e w' => e = .returned (.bool true) ∧ Below w.heap.size w w' := by
  have P1 := parts_at a n cap zs w h hf (by omega)
  have t0 : ((n : Int) == (n : Int)) = true := by simp
  have hki : (t : Int) % ((n : Int) + 1) = (k : Int) := by rw [← hk]; simp
  have hkn : k ≤ n := by rw [← hk]; exact Nat.lt_succ_iff.1 (Nat.mod_lt t (Nat.succ_pos n))
  have HZ := Hid.intro h.1
  have HF := Hid.intro hf
  clear h hf hk
  obtain ⟨i0, hi0, hz0, hs0, hb0⟩ := info_all info43
  go_enter Try.func7, Try.ntmps7
  go_wp2_with fail
  with_reducible refine P1.mono ?_
  rintro e w1 ⟨rfl, k1, b1⟩
  clear P1
  obtain ⟨bt, hbt⟩ : ∃ bt : Bool, decide (0 ≤ c ∧ c < 65) = bt := ⟨_, rfl⟩
  go_upto_region 8 with fail
  simp only [hki]
  clear hki
  go_cut [40] from 35 to 40 (fun s40 wx => s40 = .bool bt ∧ wx = w1.alloc (.cells #[.int .i64 c, .int .u64 r] 43))
  case first =>
    by_cases h0 : 0 ≤ c
    · by_cases h1 : c < 65
      · have e : bt = true := by rw [← hbt]; simp [h0, h1]
        clear hbt
        go_wp2_with fail
        go_meet
        exact ⟨by rw [e], rfl⟩
      · have e : bt = false := by rw [← hbt]; simp; omega
        clear hbt
        go_wp2_with fail
        go_meet
        exact ⟨by rw [e], rfl⟩
    · have e : bt = false := by rw [← hbt]; simp; omega
      clear hbt
      go_wp2_with fail
      go_meet
      exact ⟨by rw [e], rfl⟩
  case rest =>
    obtain ⟨rfl, rfl⟩ := hcut
    have HBT := Hid.intro hbt
    clear hbt
    go_upto_if 40 with fail
    go_cut [41] from 41 to 43 (fun s41 wx => Cut1 r w1 wx)
    case first =>
      cases bt with
      | true =>
        have e : 0 ≤ c ∧ c < 65 := by simpa using HBT.out
        obtain ⟨e1, e2⟩ := e
        go_wp2_with fail
        go_meet
        exact ⟨65 + c, .inr (by omega), ⟨by omega, by omega⟩, by simp⟩
      | false =>
        have e : ¬ (0 ≤ c ∧ c < 65) := by simpa using HBT.out
        go_wp2_with fail
        go_meet
        exact ⟨c, by omega, ⟨c0, c1⟩, rfl⟩
    case rest =>
      obtain ⟨c', hc, ⟨cl0, cl1⟩, rfl⟩ := hcut
      clear HBT c0 c1
      generalize c' = c at *
      have kp := World.ownsRow.alloc k1 (.cells #[.int .i64 c, .int .u64 r] 43)
      have kb := blk_new w1 #[.int .i64 c, .int .u64 r] 43
      have B2 : Below w.heap.size w (w1.alloc (.cells #[.int .i64 c, .int .u64 r] 43)) := b1.alloc b1.size _
      have hg := (kp.lt w.heap.size rfl).2
      have hbb := blk_lt kb
      clear k1 b1
      generalize hw2 : w1.alloc (.cells #[.int .i64 c, .int .u64 r] 43) = w2 at *
      generalize w1.heap.size = bb at *
      have FPS := Hid.intro (spl_fp zs HF.out)
      obtain ⟨ps, hps⟩ : ∃ ps, zs.map spl = ps := ⟨_, rfl⟩
      rw [hps] at kp FPS
      have hpl : ps.length = n := by rw [← hps, List.length_map]; exact HZ.out
      clear hw2 hps
      go_upto_region 10 with fail
      go_cut [12] from 44 to 55 (fun s12 wx => Cut2 n (qsOf ps k c r) w2 s12 wx)
      case first =>
        obtain ⟨cb0, cb1, KP⟩ := later_facts kp kb (Below.refl _ w2)
        have DA : Hid (Below w2.heap.size w2 (w2.drew.alloc (.cells #[] 43))) := ((Below.refl _ _).drew).alloc (by simp) _
        have DB : Hid (Below w2.heap.size w2 ((w2.drew.alloc (.cells #[] 43)).alloc (.cells #[.int .i64 c, .int .u64 r] 43))) := DA.out.alloc (by simp) _
        have DC : Hid (Below w2.heap.size w2 ((w2.drew.alloc (.cells #[.int .i64 c, .int .u64 r] 43)).alloc (.cells #[] 43))) := (((Below.refl _ _).drew).alloc (by simp) _).alloc (by simp) _
        have OA : Hid ((w2.drew.alloc (.cells #[] 43)).ownsRow 0 43 2 (.slice (some ⟨w2.heap.size, 0, none⟩) 0 0) 0 []) := own_low (own_empty w2.drew 43 2) (Nat.zero_le _)
        have OC : Hid (((w2.drew.alloc (.cells #[.int .i64 c, .int .u64 r] 43)).alloc (.cells #[] 43)).ownsRow 0 43 2 (.slice (some ⟨w2.heap.size + 1, 0, none⟩) 0 0) 0 []) := by
          have := own_low (own_empty (w2.drew.alloc (.cells #[.int .i64 c, .int .u64 r] 43)) 43 2) (Nat.zero_le _)
          show World.ownsRow _ _ _ _ _ _ _
          simpa using this
        have BkB : Hid (Blk ((w2.drew.alloc (.cells #[] 43)).alloc (.cells #[.int .i64 c, .int .u64 r] 43)) (w2.heap.size + 1) #[.int .i64 c, .int .u64 r] 43) := by
          have := blk_new (w2.drew.alloc (.cells #[] 43)) #[.int .i64 c, .int .u64 r] 43
          show Blk _ _ _ _
          simpa using this
        have BkC : Hid (Blk ((w2.drew.alloc (.cells #[.int .i64 c, .int .u64 r] 43)).alloc (.cells #[] 43)) w2.heap.size #[.int .i64 c, .int .u64 r] 43) := blk_alloc (blk_new w2.drew #[.int .i64 c, .int .u64 r] 43) _
        have LT : (pvs (ps.take k)).length = k * 2 := by rw [pvs_len, List.length_take, Nat.min_eq_left (by omega)]
        have QC := Hid.intro (qs_cells ps k c r)
        by_cases hne : n = k
        · subst hne
          have LD0 : ps.drop n = [] := List.drop_eq_nil_of_le (by omega)
          rw [LD0] at QC
          go_region_law (first
            | (refine step_pushS rfl (.tmp 44) (.tmp 47) 23 rfl 43 i0 (.agg #[.int .i64 0, .int .u64 0]) 2 16 Try.underlying23 hi0 hz0 hs0 hb0 rfl (by decide) (by decide) (.slice (some ⟨w2.heap.size, 0, none⟩) 0 0) 0 [] rfl OA.out (some ⟨w.heap.size, 0, none⟩) n n (pvs (ps.take n)) rfl LT (fun h => none_none h) (rp_take_cells (own_later kp DA.out) n) (pvs_one _) (by omega) ?_
               intro v4 w4 o4 g4 m4
               have D4 := below_grown DA.out g4 DA.out.size (fun k hk => by simp [Value.ownBlock] at hk; omega)
               obtain ⟨x0, x1, x2⟩ := later_facts kp kb D4
               have f4 : From w2.heap.size v4 := from_moved (fun k hk => by simp [Value.ownBlock] at hk; omega) m4 DA.out.size
               rw [Nat.zero_add, List.nil_append] at o4
               have F4 := Hid.intro f4
               have O4 := Hid.intro o4
               have E4 := Hid.intro D4
               clear o4 g4 m4 D4 f4)
            | (refine step_pushS rfl (.tmp 44) (.tmp 47) 23 rfl 43 i0 (.agg #[.int .i64 0, .int .u64 0]) 2 16 Try.underlying23 hi0 hz0 hs0 hb0 rfl (by decide) (by decide) (.slice (some ⟨w2.heap.size, 0, none⟩) 0 0) 0 [] rfl (World.ownsRow.alloc OA.out _) (some ⟨w.heap.size, 0, none⟩) n n (pvs (ps.take n)) rfl LT (fun h => none_none h) (rp_take_cells (own_later kp DB.out) n) (pvs_one _) (by omega) ?_
               intro v4 w4 o4 g4 m4
               have D4 := below_grown DB.out g4 DB.out.size (fun k hk => by simp [Value.ownBlock] at hk; omega)
               obtain ⟨x0, x1, x2⟩ := later_facts kp kb D4
               have f4 : From w2.heap.size v4 := from_moved (fun k hk => by simp [Value.ownBlock] at hk; omega) m4 DB.out.size
               rw [Nat.zero_add, List.nil_append] at o4
               have K4 := Hid.intro (blk_grown BkB.out g4 (by simp [Value.ownBlock]))
               have F4 := Hid.intro f4
               have O4 := Hid.intro o4
               have E4 := Hid.intro D4
               clear o4 g4 m4 D4 f4)
            | (refine step_pushS rfl (.tmp 44) (.tmp 47) 23 rfl 43 i0 (.agg #[.int .i64 0, .int .u64 0]) 2 16 Try.underlying23 hi0 hz0 hs0 hb0 rfl (by decide) (by decide) (.slice (some ⟨w2.heap.size + 1, 0, none⟩) 0 0) 0 [] rfl OC.out (some ⟨w.heap.size, 0, none⟩) n n (pvs (ps.take n)) rfl LT (fun h => none_none h) (rp_take_cells (own_later kp DC.out) n) (pvs_one _) (by omega) ?_
               intro v4 w4 o4 g4 m4
               have D4 := below_grown DC.out g4 DC.out.size (fun k hk => by simp [Value.ownBlock] at hk; omega)
               obtain ⟨x0, x1, x2⟩ := later_facts kp kb D4
               have f4 : From w2.heap.size v4 := from_moved (fun k hk => by simp [Value.ownBlock] at hk; omega) m4 DC.out.size
               rw [Nat.zero_add, List.nil_append] at o4
               have K4 := Hid.intro (blk_grown BkC.out g4 (by simp [Value.ownBlock]))
               have F4 := Hid.intro f4
               have O4 := Hid.intro o4
               have E4 := Hid.intro D4
               clear o4 g4 m4 D4 f4)
            | (refine step_pushS rfl (.tmp 48) (.tmp 50) 23 rfl 43 i0 (.agg #[.int .i64 0, .int .u64 0]) 2 16 Try.underlying23 hi0 hz0 hs0 hb0 rfl (by decide) (by decide) v4 n (pvs (ps.take n)) rfl (World.ownsRow.alloc O4.out _) (some ⟨w4.heap.size, 0, none⟩) 1 1 [.int .i64 c, .int .u64 r] rfl rfl (fun h => none_none h) (two_at (blk_new _ _ _)) (pv_one c r) (by omega) ?_
               intro v7 w7 o7 g7 m7
               have D7 := below_grown (E4.out.alloc E4.out.size _) g7 (Below.size (E4.out.alloc E4.out.size _)) (fun k hk => F4.out k hk)
               obtain ⟨y0, y1, y2⟩ := later_facts kp kb D7
               have f7 : From w2.heap.size v7 := from_moved F4.out m7 (Below.size (E4.out.alloc E4.out.size _))
               have F7 := Hid.intro f7
               have O7 := Hid.intro o7
               have E7 := Hid.intro D7
               clear o7 g7 m7 D7 f7)
            | (refine step_pushS rfl (.tmp 48) (.tmp 50) 23 rfl 43 i0 (.agg #[.int .i64 0, .int .u64 0]) 2 16 Try.underlying23 hi0 hz0 hs0 hb0 rfl (by decide) (by decide) v4 n (pvs (ps.take n)) rfl O4.out (some ⟨w2.heap.size + 1, 0, none⟩) 1 1 [.int .i64 c, .int .u64 r] rfl rfl (fun h => none_none h) (two_at K4.out) (pv_one c r) (by omega) ?_
               intro v7 w7 o7 g7 m7
               have D7 := below_grown E4.out g7 (Below.size E4.out) (fun k hk => F4.out k hk)
               obtain ⟨y0, y1, y2⟩ := later_facts kp kb D7
               have f7 : From w2.heap.size v7 := from_moved F4.out m7 (Below.size E4.out)
               have F7 := Hid.intro f7
               have O7 := Hid.intro o7
               have E7 := Hid.intro D7
               clear o7 g7 m7 D7 f7)
            | (refine step_pushS rfl (.tmp 48) (.tmp 50) 23 rfl 43 i0 (.agg #[.int .i64 0, .int .u64 0]) 2 16 Try.underlying23 hi0 hz0 hs0 hb0 rfl (by decide) (by decide) v4 n (pvs (ps.take n)) rfl O4.out (some ⟨w2.heap.size, 0, none⟩) 1 1 [.int .i64 c, .int .u64 r] rfl rfl (fun h => none_none h) (two_at K4.out) (pv_one c r) (by omega) ?_
               intro v7 w7 o7 g7 m7
               have D7 := below_grown E4.out g7 (Below.size E4.out) (fun k hk => F4.out k hk)
               obtain ⟨y0, y1, y2⟩ := later_facts kp kb D7
               have f7 : From w2.heap.size v7 := from_moved F4.out m7 (Below.size E4.out)
               have F7 := Hid.intro f7
               have O7 := Hid.intro o7
               have E7 := Hid.intro D7
               clear o7 g7 m7 D7 f7)
            | (refine step_pushS rfl (.tmp 51) (.tmp 54) 23 rfl 43 i0 (.agg #[.int .i64 0, .int .u64 0]) 2 16 Try.underlying23 hi0 hz0 hs0 hb0 rfl (by decide) (by decide) v7 (n + 1) (pvs (ps.take n) ++ [.int .i64 c, .int .u64 r]) rfl O7.out (some ⟨w.heap.size, 0, none⟩) 0 0 [] rfl rfl (fun h => none_none h) (fun _ _ j u hu => absurd hu (by simp)) (fun u hu => absurd hu (by simp)) (by omega) ?_
               intro v9 w9 o9 g9 m9
               have D9 := Hid.intro (below_grown E7.out g9 E7.out.size (fun k hk => F7.out k hk))
               have O9 := Hid.intro o9
               clear o9 g9 m9))
          all_goals
            go_wp2_with fail
            go_meet
            exact cut2_of (by have o := O9.out; rw [show pvs (ps.take n) ++ [.int .i64 c, .int .u64 r] ++ [] = pvs (qsOf ps n c r) from QC.out, show n + 1 + 0 = n + 1 from by omega] at o; exact o) D9.out
        · have LD : (pvs (ps.drop k)).length = (n - k) * 2 := by rw [pvs_len, List.length_drop, hpl]
          go_region_law (first
            | (refine step_pushS rfl (.tmp 44) (.tmp 47) 23 rfl 43 i0 (.agg #[.int .i64 0, .int .u64 0]) 2 16 Try.underlying23 hi0 hz0 hs0 hb0 rfl (by decide) (by decide) (.slice (some ⟨w2.heap.size, 0, none⟩) 0 0) 0 [] rfl OA.out (some ⟨w.heap.size, 0, none⟩) k n (pvs (ps.take k)) rfl LT (fun h => none_none h) (rp_take_cells (own_later kp DA.out) k) (pvs_one _) (by omega) ?_
               intro v4 w4 o4 g4 m4
               have D4 := below_grown DA.out g4 DA.out.size (fun k hk => by simp [Value.ownBlock] at hk; omega)
               obtain ⟨x0, x1, x2⟩ := later_facts kp kb D4
               have f4 : From w2.heap.size v4 := from_moved (fun k hk => by simp [Value.ownBlock] at hk; omega) m4 DA.out.size
               rw [Nat.zero_add, List.nil_append] at o4
               have F4 := Hid.intro f4
               have O4 := Hid.intro o4
               have E4 := Hid.intro D4
               clear o4 g4 m4 D4 f4)
            | (refine step_pushS rfl (.tmp 44) (.tmp 47) 23 rfl 43 i0 (.agg #[.int .i64 0, .int .u64 0]) 2 16 Try.underlying23 hi0 hz0 hs0 hb0 rfl (by decide) (by decide) (.slice (some ⟨w2.heap.size, 0, none⟩) 0 0) 0 [] rfl (World.ownsRow.alloc OA.out _) (some ⟨w.heap.size, 0, none⟩) k n (pvs (ps.take k)) rfl LT (fun h => none_none h) (rp_take_cells (own_later kp DB.out) k) (pvs_one _) (by omega) ?_
               intro v4 w4 o4 g4 m4
               have D4 := below_grown DB.out g4 DB.out.size (fun k hk => by simp [Value.ownBlock] at hk; omega)
               obtain ⟨x0, x1, x2⟩ := later_facts kp kb D4
               have f4 : From w2.heap.size v4 := from_moved (fun k hk => by simp [Value.ownBlock] at hk; omega) m4 DB.out.size
               rw [Nat.zero_add, List.nil_append] at o4
               have K4 := Hid.intro (blk_grown BkB.out g4 (by simp [Value.ownBlock]))
               have F4 := Hid.intro f4
               have O4 := Hid.intro o4
               have E4 := Hid.intro D4
               clear o4 g4 m4 D4 f4)
            | (refine step_pushS rfl (.tmp 44) (.tmp 47) 23 rfl 43 i0 (.agg #[.int .i64 0, .int .u64 0]) 2 16 Try.underlying23 hi0 hz0 hs0 hb0 rfl (by decide) (by decide) (.slice (some ⟨w2.heap.size + 1, 0, none⟩) 0 0) 0 [] rfl OC.out (some ⟨w.heap.size, 0, none⟩) k n (pvs (ps.take k)) rfl LT (fun h => none_none h) (rp_take_cells (own_later kp DC.out) k) (pvs_one _) (by omega) ?_
               intro v4 w4 o4 g4 m4
               have D4 := below_grown DC.out g4 DC.out.size (fun k hk => by simp [Value.ownBlock] at hk; omega)
               obtain ⟨x0, x1, x2⟩ := later_facts kp kb D4
               have f4 : From w2.heap.size v4 := from_moved (fun k hk => by simp [Value.ownBlock] at hk; omega) m4 DC.out.size
               rw [Nat.zero_add, List.nil_append] at o4
               have K4 := Hid.intro (blk_grown BkC.out g4 (by simp [Value.ownBlock]))
               have F4 := Hid.intro f4
               have O4 := Hid.intro o4
               have E4 := Hid.intro D4
               clear o4 g4 m4 D4 f4)
            | (refine step_pushS rfl (.tmp 48) (.tmp 50) 23 rfl 43 i0 (.agg #[.int .i64 0, .int .u64 0]) 2 16 Try.underlying23 hi0 hz0 hs0 hb0 rfl (by decide) (by decide) v4 k (pvs (ps.take k)) rfl (World.ownsRow.alloc O4.out _) (some ⟨w4.heap.size, 0, none⟩) 1 1 [.int .i64 c, .int .u64 r] rfl rfl (fun h => none_none h) (two_at (blk_new _ _ _)) (pv_one c r) (by omega) ?_
               intro v7 w7 o7 g7 m7
               have D7 := below_grown (E4.out.alloc E4.out.size _) g7 (Below.size (E4.out.alloc E4.out.size _)) (fun k hk => F4.out k hk)
               obtain ⟨y0, y1, y2⟩ := later_facts kp kb D7
               have f7 : From w2.heap.size v7 := from_moved F4.out m7 (Below.size (E4.out.alloc E4.out.size _))
               have F7 := Hid.intro f7
               have O7 := Hid.intro o7
               have E7 := Hid.intro D7
               clear o7 g7 m7 D7 f7)
            | (refine step_pushS rfl (.tmp 48) (.tmp 50) 23 rfl 43 i0 (.agg #[.int .i64 0, .int .u64 0]) 2 16 Try.underlying23 hi0 hz0 hs0 hb0 rfl (by decide) (by decide) v4 k (pvs (ps.take k)) rfl O4.out (some ⟨w2.heap.size + 1, 0, none⟩) 1 1 [.int .i64 c, .int .u64 r] rfl rfl (fun h => none_none h) (two_at K4.out) (pv_one c r) (by omega) ?_
               intro v7 w7 o7 g7 m7
               have D7 := below_grown E4.out g7 (Below.size E4.out) (fun k hk => F4.out k hk)
               obtain ⟨y0, y1, y2⟩ := later_facts kp kb D7
               have f7 : From w2.heap.size v7 := from_moved F4.out m7 (Below.size E4.out)
               have F7 := Hid.intro f7
               have O7 := Hid.intro o7
               have E7 := Hid.intro D7
               clear o7 g7 m7 D7 f7)
            | (refine step_pushS rfl (.tmp 48) (.tmp 50) 23 rfl 43 i0 (.agg #[.int .i64 0, .int .u64 0]) 2 16 Try.underlying23 hi0 hz0 hs0 hb0 rfl (by decide) (by decide) v4 k (pvs (ps.take k)) rfl O4.out (some ⟨w2.heap.size, 0, none⟩) 1 1 [.int .i64 c, .int .u64 r] rfl rfl (fun h => none_none h) (two_at K4.out) (pv_one c r) (by omega) ?_
               intro v7 w7 o7 g7 m7
               have D7 := below_grown E4.out g7 (Below.size E4.out) (fun k hk => F4.out k hk)
               obtain ⟨y0, y1, y2⟩ := later_facts kp kb D7
               have f7 : From w2.heap.size v7 := from_moved F4.out m7 (Below.size E4.out)
               have F7 := Hid.intro f7
               have O7 := Hid.intro o7
               have E7 := Hid.intro D7
               clear o7 g7 m7 D7 f7)
            | (refine step_pushS rfl (.tmp 51) (.tmp 54) 23 rfl 43 i0 (.agg #[.int .i64 0, .int .u64 0]) 2 16 Try.underlying23 hi0 hz0 hs0 hb0 rfl (by decide) (by decide) v7 (k + 1) (pvs (ps.take k) ++ [.int .i64 c, .int .u64 r]) rfl O7.out (some ⟨w.heap.size, k * 2, none⟩) (n - k) (n - k) (pvs (ps.drop k)) rfl LD (fun h => none_none h) (rp_drop_cells (own_later kp E7.out) k (by omega)) (pvs_one _) (by omega) ?_
               intro v9 w9 o9 g9 m9
               have D9 := Hid.intro (below_grown E7.out g9 E7.out.size (fun k hk => F7.out k hk))
               have O9 := Hid.intro o9
               clear o9 g9 m9))
          all_goals
            go_wp2_with fail
            go_meet
            exact cut2_of (by have o := O9.out; rw [QC.out, show k + 1 + (n - k) = n + 1 from by omega] at o; exact o) D9.out
      case rest =>
        obtain ⟨a9, cap9, rfl, r9, D9⟩ := hcut
        have FQ : FP (qsOf ps k c r) := fun p hp => by
          rcases qs_mem hp with h | h
          · exact FPS.out p h
          · rw [h]; exact ⟨⟨cl0, cl1⟩, r0, r1⟩
        have V := values_any a9 (n + 1) cap9 (qsOf ps k c r) wc r9 FQ (by omega)
        rw [qs_no ps k c r hc, vals_no _ (qs_no ps k c r hc)] at V
        have QC := Hid.intro (qs_cnt ps k c r hc)
        have B9 : Below w.heap.size w wc := B2.trans (D9.mono B2.size)
        have kp9 := own_later kp D9
        clear FQ hc cl0 cl1 kb kp D9 B2
        go_wp2_with fail
        with_reducible refine V.mono ?_
        rintro e w10 ⟨v10, rfl, k10, b10⟩
        obtain ⟨a10, cap10, rfl, _, _, _⟩ := own_ri k10
        have B10 : Below w.heap.size w w10 := B9.trans (b10.mono B9.size)
        have O1 := of_any a9 (n + 1) cap9 _ w10 (rp_below r9 b10) (by omega)
        rw [QC.out] at O1
        have kp10 := own_later kp9 b10
        simp only [List.length_nil]
        clear V r9 kp9 b10 k10 B9
        go_wp2_with fail
        with_reducible refine O1.mono ?_
        rintro e w11 ⟨v11, rfl, k11, b11⟩
        have B11 : Below w.heap.size w w11 := B10.trans (b11.mono B10.size)
        have kp11 := own_later kp10 b11
        obtain ⟨ap, cp, ep, _, _, rp⟩ := own_rp kp11
        injection ep with ep _ ep'
        subst ep ep'
        have O2 := of_any (some ⟨w.heap.size, 0, none⟩) n n ps w11 rp (by omega)
        obtain ⟨b11', cap11, rfl⟩ := own_slice k11 (by decide)
        clear O1 b11 kp10 kp11 B10 rp
        go_wp2_with fail
        with_reducible refine O2.mono ?_
        rintro e w12 ⟨v12, rfl, k12, b12⟩
        obtain ⟨b12', cap12, rfl⟩ := own_slice k12 (by decide)
        have B12 : Below w.heap.size w w12 := B11.trans (b12.mono B11.size)
        have k11' := own_later k11 b12
        obtain ⟨aa, ca, e1, _, _, rO⟩ := own_ri k11'
        obtain ⟨ab, cb, e2, _, _, rC⟩ := own_ri k12
        injection e1 with e1 _ e1'
        injection e2 with e2 _ e2'
        subst e1 e1' e2 e2'
        have SI := sameI_any (some ⟨b11', 0, none⟩) (some ⟨b12', 0, none⟩) 65 65 cap11 cap12 _ _ w12 rO rC (by omega) (by omega)
        rw [decide_eq_true rfl] at SI
        clear O2 b12 k11 k12 k11' B11 rO rC
        go_wp2_with fail
        with_reducible refine SI.mono ?_
        rintro e w13 ⟨rfl, b13⟩
        have B13 : Below w.heap.size w w13 := B12.trans (b13.mono B12.size)
        have AW := awake_any w13
        clear SI b13 B12
        go_wp2_with fail
        with_reducible refine AW.mono ?_
        rintro e w14 ⟨rfl, b14⟩
        clear AW
        go_wp2_with fail
        go_ret
        exact ⟨rfl, B13.trans (b14.mono B13.size)⟩
theorem walk (a0 : Option Addr) (len0 cap0 : Nat) (z0 : List Int) (a1 : Int) (a2 : Int) (a3 : Int) (w : World) (w0 : IsRow .i64 w a0 len0 cap0 z0) (w1 : (Lit.int .u8 a1).wf = true) (w2 : (Lit.int .i64 a2).wf = true) (w3 : (Lit.int .u64 a3).wf = true) :
    Calls Try.prog 7 #[.slice a0 len0 cap0, .int .u8 a1, .int .i64 a2, .int .u64 a3] w fun e w' => e = .returned (.bool true) ∧ Below w.heap.size w w' := by
  obtain ⟨h1, h2, h3⟩ := row_ri w0
  by_cases hb : 60 < len0
  · exact big a0 len0 cap0 a1 a2 a3 w hb h1
  · obtain ⟨t0, t1⟩ := bounds_u8 w1
    obtain ⟨c0, c1⟩ := bounds_i64 w2
    obtain ⟨r0, r1⟩ := bounds_u64 w3
    obtain ⟨t, rfl⟩ := Int.eq_ofNat_of_zero_le t0
    exact core a0 len0 cap0 _ t a2 a3 _ w h2 h3 (by omega) (by omega) rfl c0 c1 r0 r1

/-! ### THE ROW's STEP: WRITTEN OUT: LEAVE IT -/
set_option maxRecDepth 100000 in
theorem lifted (os : Os) (started : os.Started) (H : Type) (enc : TypeId × Value → H) :
    ReturnsInHanded {} Try.checked os 7 .any (Rows.histBadSpec.pre6 enc Try.prog Try.f7 Rows.histBadRow.domain false) (Rows.histBadSpec.post enc Try.prog Try.f7 false true false false) := by
  refine returnsInHanded_of_change (C := Try.checked) own started (by kernel_rfl) Try.func7
    (ChangeSpec.witness6 (enc := enc) (C := Try.checked) false ⟨#[], #[.slice none 0 0, .int .u8 0, .int .i64 0, .int .u64 0], []⟩ 8 (by kernel_rfl) (by kernel_rfl) (by kernel_rfl) (by kernel_rfl)) ?_
  intro W base args ds gs before hval0 hW hcnd _
  have hval : ∀ (j : Nat) t v, Try.f7.params[j]? = some t → args[j]? = some v → Value.okWide Try.prog W .any base t v := hval0
  have hW' := hW
  obtain ⟨p, q, hA0, hV, rfl, hfz, hnd⟩ := hW
  have hA : DataW.TrodAll enc Try.prog W 0 (fun _ => true) true Try.f7.params.toList args.toList ds p := hA0
  rw [Try.params7] at hA hval
  obtain ⟨v0, vs0, d0, ds0, p0, q0, hargs, rfl, rfl, h0, r0⟩ := trodAll_cons hA
  obtain ⟨v1, vs1, d1, ds1, p1, q1, rfl, rfl, rfl, h1, r1⟩ := trodAll_cons r0
  obtain ⟨v2, vs2, d2, ds2, p2, q2, rfl, rfl, rfl, h2, r2⟩ := trodAll_cons r1
  obtain ⟨v3, vs3, d3, ds3, p3, q3, rfl, rfl, rfl, h3, r3⟩ := trodAll_cons r2
  obtain ⟨rfl, rfl, rfl⟩ := trodAll_nil r3
  obtain rfl : args = #[v0, v1, v2, v3] := by cases args; simp_all
  obtain ⟨rfl, rfl⟩ := trodVars_none hV
  obtain ⟨a0, len0, cap0, rfl⟩ := okWide_slice Try.underlying22 (hval 0 22 v0 rfl rfl)
  have k0 := h0
  have lt0 : ∀ x ∈ p0, x.block < W.heap.size := by obtain ⟨m, hm⟩ := k0; exact DataW.trod_lt m _ _ _ hm
  obtain ⟨z0, w0⟩ : ∃ zs, IsRow .i64 W a0 len0 cap0 zs := by
    obtain ⟨fuel, hf⟩ := h0
    rcases open_ints Try.underlying22 Try.underlying2 (by kernel_rfl) hf with ⟨hcs, _⟩ | ⟨x, l, c, zs, hcs, _, hl, hm, hz, _, hcell, hwz⟩
    · simp [Value.cells] at hcs
      obtain ⟨rfl, rfl, rfl⟩ := hcs
      exact ⟨[], .inl ⟨rfl, rfl, rfl, rfl⟩⟩
    · simp [Value.cells] at hcs
      obtain ⟨rfl, rfl, rfl⟩ := hcs
      exact ⟨zs, .inr ⟨_, rfl, hl, hm, by simpa using hz, hcell, hwz⟩⟩
  obtain ⟨a1, rfl, rfl, rfl, w1⟩ := open_int Try.underlying5 (hval 1 5 v1 rfl rfl) h1
  obtain ⟨a2, rfl, rfl, rfl, w2⟩ := open_int Try.underlying3 (hval 2 3 v2 rfl rfl) h2
  obtain ⟨a3, rfl, rfl, rfl, w3⟩ := open_int Try.underlying41 (hval 3 41 v3 rfl rfl) h3
  clear hA0 hval0
  refine (walk a0 len0 cap0 z0 a1 a2 a3 W w0 w1 w2 w3).mono fun e W' ⟨he, bel⟩ => ?_
  subst he
  exact ⟨_, rfl, _, _, _, [], _, [], hW', trodAll_mk1 (shut_bool Try.underlying4 _), (trodAll_cons_mk (Below.trod laidOut (by kernel_rfl) (of_decide_eq_true (by kernel_rfl)) k0 bel lt0) (trodAll_cons_mk (shut_int Try.underlying5 w1) (trodAll_cons_mk (shut_int Try.underlying3 w2) (trodAll_cons_mk (shut_int Try.underlying41 w3) trodAll_mk0)))), rfl, bel.frame _, fun h => by cases h⟩

theorem over : Rows.histBadRow.holds Try.pinned (OpenSpec.ofChange Rows.histBadSpec) :=
  OpenClaim.holds_of_wide 7 Try.f7 rfl rfl rfl rfl rfl rfl rfl ⟨rfl, rfl, rfl, rfl, rfl⟩ rfl rfl rfl rfl rfl (by kernel_rfl) Try.func7 (by kernel_rfl)
    (of_decide_eq_true (by kernel_rfl)) (by unfold Func.isWrapper; first | (rw [if_pos (by decide +kernel)]; kernel_rfl) | (rw [if_neg (by decide +kernel)]; exact ⟨rfl, rfl⟩))
    (fun os started H enc _ => lifted os started H enc)

/-- ████ THE STATEMENT ████ -/
theorem proved : Rows.HistBadSaid := over
end Go.Proofs.Ytnnecccnoemkpaa.histBad

namespace Go.Proofs.Ytnnecccnoemkpaa
theorem histBad_holds : Rows.HistBadSaid := histBad.proved
#print axioms histBad_holds
end Go.Proofs.Ytnnecccnoemkpaa
