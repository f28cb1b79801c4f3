/-
  Proved: ChanceBack returns true for every input, and leaves what was there as it was; no condition.
-/
import Derived.Test.YtbmjehpkcelogaaRows
import Derived.WalkKit
import Derived.ProofKit
import Derived.OpenShut
import Derived.ShutString
import Derived.ChangeOld
import Derived.Below
import Derived.Test.YtbmjehpkcelogaaBz
import Derived.Test.YtbmjehpkcelogaaRm
import Derived.Test.YtbmjehpkcelogaaRq
import Derived.Deep.RegionWith
import Derived.Deep.QuietTactic
import Derived.Deep.RegionHeld3
import Derived.OwnWalk
import Derived.BigQuiet
namespace Go.Proofs.Ytbmjehpkcelogaa.chanceBack
open Go.ChangeShapes Go.WideShapes Go.ChangeAt Go.RowKit
open Go.ChangeMaps (open_string shut_string)
set_option linter.unusedVariables false

theorem own : ownKnob Try.prog.godebug = none := by kernel_rfl
theorem laidOut : laidOutB Try.prog = true := by kernel_rfl


theorem asks_news {w : World} {a : Option Addr} {len cap : Nat} {l : List (Int × Int × Int × Nat)} (h : IsAsks w a len cap l) : ∀ x, a = some x → ∀ (j : Nat) (u : Value), (flat l)[j]? = some u → w.cell? (x.add j) = some u := by
  intro x hx j u hj
  have hjl : j < (flat l).length := by
    rcases Nat.lt_or_ge j (flat l).length with g | g
    · exact g
    · rw [List.getElem?_eq_none g] at hj; cases hj
  rw [flat_len] at hjl
  have hi : j / 4 < l.length := by omega
  have hq := List.getElem?_eq_getElem hi
  obtain ⟨f0, f1, f2, f3⟩ := flat_at l _ _ hq
  obtain ⟨c0, c1, c2, c3, _⟩ := h.2.2.2.2 x hx _ _ hq
  rcases (by omega : j = j / 4 * 4 ∨ j = j / 4 * 4 + 1 ∨ j = j / 4 * 4 + 2 ∨ j = j / 4 * 4 + 3) with e | e | e | e
  · rw [e] at hj ⊢; rw [f0] at hj; injection hj with hj; rw [← hj]; exact c0
  · rw [e] at hj ⊢; rw [f1] at hj; injection hj with hj; rw [← hj]; exact c1
  · rw [e] at hj ⊢; rw [f2] at hj; injection hj with hj; rw [← hj]; exact c2
  · rw [e] at hj ⊢; rw [f3] at hj; injection hj with hj; rw [← hj]; exact c3
theorem own_empty (W : World) : (W.alloc (.cells #[] 30)).ownsRow 0 30 4 (.slice (some ⟨W.heap.size, 0, none⟩) 0 0) 0 [] :=
  ⟨rfl, .inr ⟨W.heap.size, 0, #[], rfl, Nat.zero_le _, blk_new W #[] 30, Nat.le_refl _, by simp [maxLen], by simp, by simp⟩⟩
theorem ak_cells {W : World} {g len cap i : Nat} {l : List (Int × Int × Int × Nat)} {q : Int × Int × Int × Nat} (h : Ak W (.slice (some ⟨g, 0, none⟩) len cap) len l) (hq : l[i]? = some q) :
    W.cell? ⟨g, i * 4, none⟩ = some (.int .i64 q.1) ∧ W.cell? ⟨g, i * 4 + 1, none⟩ = some (.int .i64 q.2.1) ∧ W.cell? ⟨g, i * 4 + 2, none⟩ = some (.int .i64 q.2.2.1) ∧ W.cell? ⟨g, i * 4 + 3, none⟩ = some (.int .u64 (q.2.2.2 : Int)) := by
  have c := fun (j : Nat) (u : Value) (hu : (flat l)[j]? = some u) => h.1.cells (g := g) rfl j u hu
  obtain ⟨f0, f1, f2, f3⟩ := flat_at l i q hq
  have e0 := c _ _ f0
  have e1 := c _ _ f1
  have e2 := c _ _ f2
  have e3 := c _ _ f3
  rw [Addr.add_lit, Nat.zero_add] at e0 e1 e2 e3
  exact ⟨e0, e1, e2, e3⟩
theorem mix_got (l : List (Int × Int × Int × Nat)) (i : Nat) (q : Int × Int × Int × Nat) (h : l[i]? = some q) : (mix l (i + 1))[i]? = some (clip q) := by
  have hi : i < l.length := by
    rcases Nat.lt_or_ge i l.length with g | g
    · exact g
    · rw [List.getElem?_eq_none g] at h; cases h
  rw [← mix_set l i q h, List.getElem?_set_self (by rw [mix_len l i (by omega)]; exact hi)]
theorem ba_hv {A g len cap : Nat} {va va' : Value} {W : World} (hv : ∀ k, foot A va k → (Value.slice (some ⟨g, 0, none⟩) len cap).ownBlock ≠ some k) (m : Moved W va va') (hg : g < W.heap.size) : ∀ k, foot A va' k → (Value.slice (some ⟨g, 0, none⟩) len cap).ownBlock ≠ some k := by
  rintro k (e | e) h
  · exact hv k (.inl e) h
  · rcases m k e with f | f
    · exact hv k (.inr f) h
    · simp [Value.ownBlock] at h; omega
def BaRel (w : World) (A : Nat) (r : Value) (len : Nat) (l : List (Int × Int × Int × Nat)) (iv : Value) (wr : World) : Prop :=
  ∃ (i : Nat) (va : Value), i ≤ len ∧ iv = .int .i64 i ∧ Ak wr r len (mix l i) ∧ EO w wr A va (stA (l.map clip) i) ∧ (∀ k, foot A va k → r.ownBlock ≠ some k) ∧ Below w.heap.size w wr
def BoRel (w14 : World) (iv : Value) (wr : World) : Prop := ∃ q : Nat, q ≤ 4 ∧ iv = .int .i64 q ∧ Below w14.heap.size w14 wr
def BiRel (w14 : World) (D : Nat) (t : ByteArray) (L : List (Int × Int × Int × Nat)) (f : Nat × Nat × Nat) (n : Nat) (gv iv : Value) (wr : World) : Prop :=
  ∃ (k : Nat) (good : Bool) (vd : Value) (st : Nat × Nat × Nat) (bad : Bool), k ≤ n ∧ gv = .bool good ∧ iv = .int .i64 k ∧ DO w14 wr D t vd st bad ∧ (good = true → st = stA L k ∧ bad = false) ∧ (t.data.toList = byt f → good = true) ∧ st.1 ≤ 128 * k ∧ Below w14.heap.size w14 wr
theorem clip_some {l : List (Int × Int × Int × Nat)} {k : Nat} {p b n : Int} {v : Nat} (h : (l.map clip)[k]? = some (p, b, n, v)) : ∃ m : Nat, n = (m : Int) ∧ m ≤ 64 := by
  rw [List.getElem?_map] at h
  cases hq : l[k]? with
  | none => rw [hq] at h; cases h
  | some q =>
    rw [hq] at h
    simp only [Option.map_some, Option.some.injEq, clip, Prod.mk.injEq] at h
    exact ⟨cl q.2.2.1, h.2.2.1.symm, cl_le _⟩
set_option maxRecDepth 100000 in
set_option maxHeartbeats 8000000 in
theorem back_walk (a : Option Addr) (len cap : Nat) (l : List (Int × Int × Int × Nat)) (at' by' : Int) (w : World) (hl : IsAsks w a len cap l) (hat : 0 ≤ at' ∧ at' ≤ 255) (hby : 0 ≤ by' ∧ by' ≤ 255) :
    Calls Try.prog 5 #[.slice a len cap, .int .u8 at', .int .u8 by'] w fun e w' => e = .returned (.bool true) ∧ Below w.heap.size w w' := by
  have hm := hl.2.1
  simp only [maxLen] at hm
  have HL := Hid.intro hl
  clear hl
  go_enter Try.func5, Try.ntmps5
  go_wp2_with fail
  refine (new_own (Below.refl _ w)).mono ?_
  rintro e x1 ⟨A, rfl, A0, d1, b1, _⟩
  unfold ptr
  by_cases hg : 120 < len
  · have hgi : (120 : Int) < (len : Int) := by omega
    go_wp2_with fail
    refine (awake_own b1).mono ?_
    rintro e x2 ⟨rfl, b2⟩
    go_wp2
    go_ret
    exact ⟨rfl, b2⟩
  have hgi : ¬ (120 : Int) < (len : Int) := by omega
  obtain ⟨i0, hi0, hz0, hz1, hz2⟩ := info_parts info30
  have news := asks_news (asks_kept HL.out (b1.alloc b1.size (.cells #[] 30)))
  have hlen : (flat l).length = len * 4 := by rw [flat_len, HL.out.1]
  go_wp2_with (first | (at_builtin; refine wpList_pushB _ rfl (.tmp 34) (.tmp 35) 22 rfl 30 i0 _ 4 32 Try.underlying22 hi0 hz0 hz1 hz2 rfl (by decide) (by decide) (.slice (some ⟨x1.heap.size, 0, none⟩) 0 0) 0 _ rfl (own_empty x1) a len cap (flat l) rfl hlen HL.out.2.2.2.1 news (flat_one l) (by omega) ?_) | go_in)
  intro v2 w2 r1 r2 r3
  have A2 : Ak w2 v2 len l := ⟨r1, HL.out.1, fun i q hq => by
    have hi : i < len := by
      rcases Nat.lt_or_ge i l.length with g | g
      · rw [← HL.out.1]; exact g
      · rw [List.getElem?_eq_none g] at hq; cases hq
    obtain ⟨x, q', hx, hq', -, -, -, -, h4⟩ := asks_at HL.out i hi
    rw [hq] at hq'; injection hq' with hq'; rw [hq']; exact h4⟩
  have c2 : Chg (· = x1.heap.size) x1 w2 := by
    have g : Chg (· = x1.heap.size) (x1.alloc (.cells #[] 30)) w2 := ⟨r2.os, r2.tape, r2.output, r2.size, fun k hk hS => r2.block k hk (fun e => hS (by simp [Value.ownBlock] at e; exact e))⟩
    exact chg_trans (chg_alloc (chg_refl _ _) _) g (fun _ _ h => h)
  have d2 := eo_kept d1 c2 (fun k hk e => by have := eo_lt d1 k hk; omega)
  have b2 : Below w.heap.size w w2 := b1.trans (chg_below c2 b1.size (fun k hk => by have := b1.size; omega))
  have hv2 : ∀ k, foot A (.slice none 0 0) k → v2.ownBlock ≠ some k := by
    intro k hk e
    have := eo_lt d1 k hk
    rcases r3 k e with g | g
    · simp [Value.ownBlock] at g; omega
    · simp at g; omega
  obtain ⟨a2, cap2, rfl, hc2, hc3, -⟩ := ak_slice A2
  simp only [maxLen] at hc3
  have A2 := Hid.intro A2
  have D2 := Hid.intro d2
  have B2 := Hid.intro b2
  have HV2 := Hid.intro hv2
  have HVG : Hid (∀ k, (Value.slice a2 len cap2).ownBlock = some k → w.heap.size ≤ k) := fun k hk => by
    rcases r3 k hk with g | g
    · simp [Value.ownBlock] at g; have := b1.size; omega
    · have := b1.size; simp at g; omega
  have hll : l.length = len := HL.out.1
  clear d1 b1 A0 news hlen r1 r2 r3 c2 d2 b2 hv2 hm hi0 hz0 hz1 hz2
  go_wp2_with fail
  go_loopw [8] (fun iv wr => BaRel w A (.slice a2 len cap2) len l iv wr) (fun iv _ => len - (intOf iv).toNat)
  case atStart => exact ⟨0, _, Nat.zero_le _, rfl, by rw [mix_zero]; exact A2.out, D2.out, HV2.out, B2.out⟩
  case round =>
    clear A2 D2 B2 HV2
    obtain ⟨i, va, hi, rfl, e1, d1, hv, b1⟩ := hrel
    by_cases hil : i < len
    · have hd : decide ((i : Int) < (len : Int)) = true := decide_eq_true (by omega)
      obtain ⟨q, hq⟩ : ∃ q, l[i]? = some q := ⟨_, List.getElem?_eq_getElem (by omega)⟩
      have hmq := mix_at l i q hq
      obtain ⟨a3, cap3, hv3, -, -, ia⟩ := ak_slice e1
      injection hv3 with e3 _ e4
      subst e3 e4
      obtain ⟨x, q', hx, hq', q0, q1, q2, q3, q4⟩ := asks_at ia i hil
      rw [hmq] at hq'
      injection hq' with hq'
      subst hq'
      subst hx
      obtain ⟨g, hxg⟩ : ∃ g, x = ⟨g, 0, none⟩ := by
        rcases e1.1.2 with ⟨h0, _⟩ | ⟨g, c, cur, h0, _⟩
        · cases h0
        · injection h0 with h0; injection h0 with h0; exact ⟨g, h0⟩
      subst hxg
      obtain ⟨p, b, n, v⟩ := q
      rw [Addr.add_lit, Nat.zero_add] at q0 q1 q2 q3
      simp only at q0 q1 q2 q3 q4
      have hgl := ak_lt e1 g rfl
      have hset := ak_set e1 i _ hmq (cl n) (i * 4 + 2) rfl
      rw [show ((p, b, n, v).1, (p, b, n, v).2.1, ((cl n : Nat) : Int), (p, b, n, v).2.2.2) = clip (p, b, n, v) from rfl, mix_set l i _ hq] at hset
      have hfz : ∀ k, wr.frozen? ⟨g, k, none⟩ = false := fun k => by
        rcases e1.1.2 with ⟨h0, _⟩ | ⟨g', c, cur, h0, _, hg, _⟩
        · cases h0
        · injection h0 with h0; injection h0 with h0; injection h0 with h0; subst h0; exact blk_free hg k
      have hS := stA_succ (l.map clip) i _ (map_at l i _ hq)
      have hup := stA_up (l.map clip) i
      have HSET := Hid.intro hset
      have D1 := Hid.intro d1
      have HV := Hid.intro hv
      have HG : Hid (w.heap.size ≤ g) := by show _ ≤ _; exact HVG.out g rfl
      clear hset e1 d1 hv ia hmq
      by_cases hn : 0 < n
      · by_cases hn6 : 64 < n
        · have hcl : cl n = 64 := by unfold cl; (repeat' split) <;> omega
          have hmv : ((cl n : Nat) : Int) = 64 := by rw [hcl]; rfl
          have AK1 : Ak (wr.setCell ⟨g, i * 4 + 2, none⟩ (.int .i64 64)) (.slice (some ⟨g, 0, none⟩) len cap2) len (mix l (i + 1)) := by have := HSET.out; rw [hmv] at this; exact this
          have EO1 := eo_kept D1.out (chg_set (chg_refl (· = g) wr) ⟨g, i * 4 + 2, none⟩ (.int .i64 64) (fun _ => rfl)) (fun k hk e => HV.out k hk (by rw [e]; rfl))
          have BL1 : Below w.heap.size w (wr.setCell ⟨g, i * 4 + 2, none⟩ (.int .i64 64)) := b1.setCell (p := ⟨g, i * 4 + 2, none⟩) (HG.out) _
          have hs' : dirN v (cl ((cl n : Nat) : Int)) (stA (l.map clip) i) = stA (l.map clip) (i + 1) := by rw [hS, stp, clip, if_pos (by simp only; omega)]
          obtain ⟨c0, c1, c2, c3⟩ := ak_cells AK1 (mix_got l i _ hq)
          simp only [clip] at c0 c1 c2 c3
          have hg1 := ak_lt AK1 g rfl
          have AK1 := Hid.intro AK1
          have EO1 := Hid.intro EO1
          have BL1 := Hid.intro BL1
          clear HSET D1
          go_wp2_with fail
          clear q0 q1 q2 q3 hgl hfz
          generalize wr.setCell ⟨g, i * 4 + 2, none⟩ (.int .i64 64) = W1 at *
          have P1 := direct_own (W := W1.drew) A va (stA (l.map clip) i) v ((cl n : Nat) : Int) (show EO w W1.drew A va _ from EO1.out) (Below.drew BL1.out) (by omega) q4 (stA (l.map clip) (i + 1)) hs'
          unfold ptr at P1
          rw [hmv] at P1 c2
          clear hS hs' hmv
          go_region_with (go_at_call 12; refine P1.mono ?_; intro e w4 hp; obtain ⟨he, hp'⟩ := hp; subst he; have HP := Hid.intro hp'; clear hp')
          all_goals
            obtain ⟨va', e1, e2, e3, e4⟩ := HP.out
            have AK4 := Hid.intro (ak_kept (show Ak W1.drew _ _ _ from AK1.out) e3 (fun k hk h => HV.out k h hk))
            have HV4 := Hid.intro (ba_hv HV.out e4 hg1)
            have E1 := Hid.intro e1
            have E2 := Hid.intro e2
            clear HP P1 e1 e2 e3 e4 c0 c1 c3
            go_wp2_with fail
            go_roundw
            case rel => exact ⟨i + 1, va', by omega, by go_num, AK4.out, E1.out, HV4.out, E2.out⟩
            case measure => simp [intOf]; omega
        · have hn7 : ¬ (64 : Int) < n := hn6
          have hmv : ((cl n : Nat) : Int) = n := by unfold cl; (repeat' split) <;> omega
          have hcl : 0 < cl n := by omega
          have AK1 : Ak (wr.setCell ⟨g, i * 4 + 2, none⟩ (.int .i64 n)) (.slice (some ⟨g, 0, none⟩) len cap2) len (mix l (i + 1)) := by have := HSET.out; rw [hmv] at this; exact this
          have EO1 := eo_kept D1.out (chg_set (chg_refl (· = g) wr) ⟨g, i * 4 + 2, none⟩ (.int .i64 n) (fun _ => rfl)) (fun k hk e => HV.out k hk (by rw [e]; rfl))
          have BL1 : Below w.heap.size w (wr.setCell ⟨g, i * 4 + 2, none⟩ (.int .i64 n)) := b1.setCell (p := ⟨g, i * 4 + 2, none⟩) (HG.out) _
          have hs' : dirN v (cl ((cl n : Nat) : Int)) (stA (l.map clip) i) = stA (l.map clip) (i + 1) := by rw [hS, stp, clip, if_pos (by simp only; omega)]
          obtain ⟨c0, c1, c2, c3⟩ := ak_cells AK1 (mix_got l i _ hq)
          simp only [clip] at c0 c1 c2 c3
          have hg1 := ak_lt AK1 g rfl
          have AK1 := Hid.intro AK1
          have EO1 := Hid.intro EO1
          have BL1 := Hid.intro BL1
          clear HSET D1
          go_wp2_with fail
          clear q0 q1 q2 q3 hgl hfz
          generalize wr.setCell ⟨g, i * 4 + 2, none⟩ (.int .i64 n) = W1 at *
          have P1 := direct_own (W := W1.drew) A va (stA (l.map clip) i) v ((cl n : Nat) : Int) (show EO w W1.drew A va _ from EO1.out) (Below.drew BL1.out) (by omega) q4 (stA (l.map clip) (i + 1)) hs'
          unfold ptr at P1
          rw [hmv] at P1 c2
          clear hS hs' hmv
          go_region_with (go_at_call 12; refine P1.mono ?_; intro e w4 hp; obtain ⟨he, hp'⟩ := hp; subst he; have HP := Hid.intro hp'; clear hp')
          all_goals
            obtain ⟨va', e1, e2, e3, e4⟩ := HP.out
            have AK4 := Hid.intro (ak_kept (show Ak W1.drew _ _ _ from AK1.out) e3 (fun k hk h => HV.out k h hk))
            have HV4 := Hid.intro (ba_hv HV.out e4 hg1)
            have E1 := Hid.intro e1
            have E2 := Hid.intro e2
            clear HP P1 e1 e2 e3 e4 c0 c1 c3
            go_wp2_with fail
            go_roundw
            case rel => exact ⟨i + 1, va', by omega, by go_num, AK4.out, E1.out, HV4.out, E2.out⟩
            case measure => simp [intOf]; omega
      · have hn1 : ¬ (64 : Int) < n := by omega
        have hn2 : ¬ (0 : Int) < n := hn
        have hcl : cl n = 0 := by unfold cl; (repeat' split) <;> omega
        have hmv : ((cl n : Nat) : Int) = 0 := by rw [hcl]; rfl
        have AK1 : Ak (wr.setCell ⟨g, i * 4 + 2, none⟩ (.int .i64 0)) (.slice (some ⟨g, 0, none⟩) len cap2) len (mix l (i + 1)) := by have := HSET.out; rw [hmv] at this; exact this
        have EO1 := eo_kept D1.out (chg_set (chg_refl (· = g) wr) ⟨g, i * 4 + 2, none⟩ (.int .i64 0) (fun _ => rfl)) (fun k hk e => HV.out k hk (by rw [e]; rfl))
        have BL1 : Below w.heap.size w (wr.setCell ⟨g, i * 4 + 2, none⟩ (.int .i64 0)) := b1.setCell (p := ⟨g, i * 4 + 2, none⟩) (HG.out) _
        have hs' : bitS p (decide (b ≠ 0)) (stA (l.map clip) i) = stA (l.map clip) (i + 1) := by rw [hS, stp, clip, if_neg (by simp [hcl])]
        obtain ⟨c0, c1, c2, c3⟩ := ak_cells AK1 (mix_got l i _ hq)
        simp only [clip] at c0 c1 c2 c3
        have hg1 := ak_lt AK1 g rfl
        have AK1 := Hid.intro AK1
        have EO1 := Hid.intro EO1
        have BL1 := Hid.intro BL1
        clear HSET D1
        go_wp2_with fail
        clear q0 q1 q2 q3 hgl hfz
        generalize wr.setCell ⟨g, i * 4 + 2, none⟩ (.int .i64 0) = W1 at *
        have P1 := bit_own (W := W1.drew) A va (stA (l.map clip) i) p b (show EO w W1.drew A va _ from EO1.out) (Below.drew BL1.out) (by omega) (stA (l.map clip) (i + 1)) hs'
        unfold ptr at P1
        clear c2
        clear hS hs' hmv
        go_region_with (go_at_call 14; refine P1.mono ?_; intro e w4 hp; obtain ⟨he, hp'⟩ := hp; subst he; have HP := Hid.intro hp'; clear hp')
        all_goals
          obtain ⟨va', e1, e2, e3, e4⟩ := HP.out
          have AK4 := Hid.intro (ak_kept (show Ak W1.drew _ _ _ from AK1.out) e3 (fun k hk h => HV.out k h hk))
          have HV4 := Hid.intro (ba_hv HV.out e4 hg1)
          have E1 := Hid.intro e1
          have E2 := Hid.intro e2
          clear HP P1 e1 e2 e3 e4 c0 c1 c3
          go_wp2_with fail
          go_roundw
          case rel => exact ⟨i + 1, va', by omega, by go_num, AK4.out, E1.out, HV4.out, E2.out⟩
          case measure => simp [intOf]; omega
    · obtain rfl : i = len := by omega
      have hd : decide ((i : Int) < (i : Int)) = false := decide_eq_false (by omega)
      have hmx : mix l i = l.map clip := by rw [← hll]; exact mix_all l
      rw [hmx] at e1
      have hup := stA_up (l.map clip) i
      have hiv := stA_iv (l.map clip) i
      have P1 := bytes_own A va _ d1 b1 (by omega)
      obtain ⟨f, hf⟩ : ∃ f, stA (l.map clip) i = f := ⟨_, rfl⟩
      rw [hf] at P1 hup hiv
      obtain ⟨S, hS⟩ : ∃ S, bs (byt f) = S := ⟨_, rfl⟩
      rw [hS] at P1
      have hlS : S.data.toList = byt f := by rw [← hS]; rfl
      obtain ⟨n5, hn5⟩ : ∃ n5, n5 = 5 + f.1 := ⟨_, rfl⟩
      have hsz : S.size = n5 := by rw [← len_data, hlS, byt_len, hn5]
      have h5 : 5 ≤ n5 := by omega
      have h55 : ¬ ((n5 : Nat) : Int) < 5 := by omega
      have h0S : 0 < S.size := by omega
      have hc0 : ((S[0].toNat : Int) != 0) = false := by
        have e0 : S[0] = 0 := by
          have e := be_at (5 + f.1) f.2.1 (4 + f.1) (by omega)
          rw [show 5 + f.1 - 1 - (4 + f.1) = 0 from by omega, Nat.div_eq_of_lt (iv_low hiv)] at e
          have e2 : S.data.toList[0]? = some 0 := by rw [hlS]; exact e
          rw [List.getElem?_eq_getElem (by rw [len_data]; exact h0S)] at e2
          injection e2 with e2
        rw [e0]; rfl
      have E1 := Hid.intro e1
      have HIV := Hid.intro hiv
      have HF := Hid.intro hf
      have HSF := Hid.intro hlS
      have hup5 : n5 ≤ 16000 := by omega
      clear e1 d1 hv hiv hf hS hmx hup hlS hn5
      unfold ptr at P1
      go_wp2_with fail
      refine P1.mono ?_
      rintro e w9 ⟨rfl, b9, k9⟩
      have E9 := Hid.intro (ak_kept E1.out k9 (fun _ _ h => h))
      have B9 := Hid.intro b9
      clear P1 b9 k9 E1 b1
      obtain ⟨capB, w12, hcv, RM, hc1, hc2'⟩ := bytes_of2 S w9 (by omega)
      obtain ⟨j, hj⟩ : ∃ j : Nat, at' % (n5 : Int) = (j : Int) := ⟨(at' % (n5 : Int)).toNat, by have := Int.emod_nonneg at' (b := (n5 : Int)) (by omega); omega⟩
      have hjs : j < n5 := by have := Int.emod_lt_of_pos at' (b := (n5 : Int)) (by omega); omega
      have hjl : j < S.data.toList.length := by rw [len_data, hsz]; exact hjs
      have hcell := RM.2.1 j hjl
      have fcell := (RM.1 j (by rw [hsz]; exact hjs)).2
      obtain ⟨b, rfl⟩ : ∃ b : Nat, by' = (b : Int) := ⟨by'.toNat, by omega⟩
      have hb256 : b < 256 := by omega
      obtain ⟨x, hx⟩ : ∃ x, S.data.toList[j].toNat = x := ⟨_, rfl⟩
      have hx256 : x < 256 := by rw [← hx]; exact UInt8.toNat_lt _
      have hxor := u8_xor_nat x b hx256 hb256
      have hy256 : x ^^^ b < 256 := Nat.xor_lt_two_pow (n := 8) hx256 hb256
      have RM2 := room_upd RM j hjl (UInt8.ofNat (x ^^^ b)) ((x ^^^ b : Nat) : Int) (by rw [u8_of _ hy256])
      have hl2 : (S.data.toList.set j (UInt8.ofNat (x ^^^ b))).length = n5 := by rw [List.length_set, len_data, hsz]
      have cv1 := room_str2 RM2 n5 capB (by omega)
      have HB13 := Hid.intro RM2.2.2.1
      rw [hx] at hcell
      rw [List.take_of_length_le (by omega)] at cv1
      obtain ⟨t3, ht3⟩ : ∃ t3, bs (S.data.toList.set j (UInt8.ofNat (x ^^^ b))) = t3 := ⟨_, rfl⟩
      rw [ht3] at cv1
      obtain ⟨y, hy⟩ : ∃ y, x ^^^ b = y := ⟨_, rfl⟩
      have hyy : x ^^^ b = y := hy
      rw [hy] at hxor hy256 RM2 hl2 cv1 ht3 HB13
      obtain ⟨S2, hS2⟩ : ∃ S2, w9.heap.size = S2 := ⟨_, rfl⟩
      simp only [hS2] at hcv hcell fcell cv1 HB13
      rw [hsz] at hcv
      simp only [maxLen] at hc2'
      obtain ⟨a3, cap3, hv3, -, -, ia⟩ := ak_slice E9.out
      injection hv3 with e3 _ e4
      subst e3 e4
      have hlx : S.data.toList.length = n5 := by rw [len_data, hsz]
      have hT3 : t3.data.toList = byt f ↔ b = 0 := by
        rw [← ht3, bs_data, ← HSF.out]
        constructor
        · intro e
          have e2 : (S.data.toList.set j (UInt8.ofNat y))[j]? = S.data.toList[j]? := by rw [e]
          rw [List.getElem?_set_self hjl, List.getElem?_eq_getElem hjl] at e2
          injection e2 with e2
          have e3 : (UInt8.ofNat y).toNat = x := by rw [e2, hx]
          rw [UInt8.toNat_ofNat'] at e3
          have e4 : x ^^^ b = x := by rw [hyy]; simp only [Nat.reducePow] at e3; omega
          have e5 : x ^^^ (x ^^^ b) = x ^^^ x := by rw [e4]
          rw [← Nat.xor_assoc, Nat.xor_self, Nat.zero_xor] at e5
          exact e5
        · intro e
          subst e
          rw [Nat.xor_zero] at hyy
          have e2 : UInt8.ofNat y = S.data.toList[j] := by
            apply UInt8.toNat_inj.1
            rw [UInt8.toNat_ofNat', ← hyy, hx]; simp only [Nat.reducePow]; omega
          rw [e2, List.set_getElem_self]
      have HT3 := Hid.intro hT3
      have ht3s : Hid (t3.size ≤ 17000) := by show _ ≤ _; rw [← ht3, ← len_data, bs_data, hl2]; omega
      have HS2 := Hid.intro hS2
      clear hT3 ht3 hl2 RM RM2 hx hyy hS2 E9 hll A2 hi hil hd
      go_wp2_with fail
      clear hcv hcell fcell hxor hj hat hby hb256 hx256 hy256
      generalize w12.setCell ⟨S2, j, none⟩ (.int .u8 (y : Int)) = w13 at *
      go_region
      go_wp2_with fail
      have b13 : Below w13.heap.size w13 (w13.alloc (.cells #[.string S, .string (S ++ ⟨#[0]⟩), .string (S.extract 0 (n5 - 1)), .string t3] 9)).drew := ((Below.refl _ _).alloc (Nat.le_refl _) _).drew
      have bn := blk_new w13 #[.string S, .string (S ++ ⟨#[0]⟩), .string (S.extract 0 (n5 - 1)), .string t3] 9
      have hltX := blk_lt bn
      have hx4 : Hid (∀ q, q < 4 → ∃ t : ByteArray, t.size ≤ 17000 ∧ (t.data.toList = byt f ↔ (q = 0 ∨ q = 3 ∧ b = 0)) ∧ ∀ W, Below (w13.alloc (.cells #[.string S, .string (S ++ ⟨#[0]⟩), .string (S.extract 0 (n5 - 1)), .string t3] 9)).drew.heap.size (w13.alloc (.cells #[.string S, .string (S ++ ⟨#[0]⟩), .string (S.extract 0 (n5 - 1)), .string t3] 9)).drew W → W.cell? ⟨w13.heap.size, q, none⟩ = some (.string t)) := by
        intro q hq
        rcases (by omega : q = 0 ∨ q = 1 ∨ q = 2 ∨ q = 3) with rfl | rfl | rfl | rfl
        · exact ⟨S, by omega, by simp [HSF.out], fun W hW => by rw [hW.cell (p := ⟨w13.heap.size, 0, none⟩) hltX]; show (w13.alloc (.cells #[.string S, .string (S ++ ⟨#[0]⟩), .string (S.extract 0 (n5 - 1)), .string t3] 9)).cell? _ = _; rw [blk_cell bn]; rfl⟩
        · refine ⟨S ++ ⟨#[0]⟩, by rw [ByteArray.size_append, hsz]; show n5 + 1 ≤ _; omega, ?_, fun W hW => by rw [hW.cell (p := ⟨w13.heap.size, 1, none⟩) hltX]; show (w13.alloc (.cells #[.string S, .string (S ++ ⟨#[0]⟩), .string (S.extract 0 (n5 - 1)), .string t3] 9)).cell? _ = _; rw [blk_cell bn]; rfl⟩
          refine ⟨fun e => ?_, fun e => by omega⟩
          have e2 : (S ++ ⟨#[0]⟩ : ByteArray).data.toList.length = S.data.toList.length := by rw [e, HSF.out]
          rw [len_data, len_data, ByteArray.size_append] at e2
          have : (⟨#[0]⟩ : ByteArray).size = 1 := rfl
          omega
        · refine ⟨S.extract 0 (n5 - 1), by rw [ByteArray.size_extract]; omega, ?_, fun W hW => by rw [hW.cell (p := ⟨w13.heap.size, 2, none⟩) hltX]; show (w13.alloc (.cells #[.string S, .string (S ++ ⟨#[0]⟩), .string (S.extract 0 (n5 - 1)), .string t3] 9)).cell? _ = _; rw [blk_cell bn]; rfl⟩
          refine ⟨fun e => ?_, fun e => by omega⟩
          have e2 : (S.extract 0 (n5 - 1)).data.toList.length = S.data.toList.length := by rw [e, HSF.out]
          rw [len_data, len_data, ByteArray.size_extract] at e2
          omega
        · exact ⟨t3, ht3s.out, by rw [HT3.out]; simp, fun W hW => by rw [hW.cell (p := ⟨w13.heap.size, 3, none⟩) hltX]; show (w13.alloc (.cells #[.string S, .string (S ++ ⟨#[0]⟩), .string (S.extract 0 (n5 - 1)), .string t3] 9)).cell? _ = _; rw [blk_cell bn]; rfl⟩
      have h914 : Below w9.heap.size w9 (w13.alloc (.cells #[.string S, .string (S ++ ⟨#[0]⟩), .string (S.extract 0 (n5 - 1)), .string t3] 9)).drew := by
        have h0 : Below w9.heap.size w9 w13 := by rw [HS2.out]; exact HB13.out
        exact h0.trans (b13.mono h0.size)
      have IA := Hid.intro (asks_kept ia h914)
      have HB14 := Hid.intro (B9.out.trans (h914.mono B9.out.size))
      clear bn hltX b13 h914 ia HB13 B9 cv1 hlx ht3s HT3
      generalize (w13.alloc (.cells #[.string S, .string (S ++ ⟨#[0]⟩), .string (S.extract 0 (n5 - 1)), .string t3] 9)).drew = w14 at *
      obtain ⟨XX, hXX⟩ : ∃ XX, w13.heap.size = XX := ⟨_, rfl⟩
      simp only [hXX] at hx4 ⊢
      clear hXX hjs hjl hy HS2 hc1 hc2' hc3 hc2
      go_loopw [12] (fun iv wr => BoRel w14 iv wr) (fun iv _ => 5 - (intOf iv).toNat)
      case atStart => exact ⟨0, by omega, rfl, Below.refl _ _⟩
      case round =>
        obtain ⟨q, hq4, rfl, b4⟩ := hrel
        by_cases hqlt : q < 4
        · obtain ⟨t, hts, hQ, htc⟩ := hx4.out q hqlt
          have hd4 : decide ((q : Int) < 4) = true := by rw [decide_eq_true_eq]; omega
          have tc := htc wr b4
          have FR := from_own t b4
          have HQ := Hid.intro hQ
          have hq4z : (q : Int) < 4 := by omega
          have hq40 : (0 : Int) ≤ (q : Int) := by omega
          clear htc hQ
          go_wp2_with fail
          refine FR.mono ?_
          rintro e w15 ⟨D, rfl, D0, d1, b15, _⟩
          unfold ptr
          clear FR tc b4 D0
          go_wp2_with fail
          have HQB := Hid.intro (show (BiRel w14 D t (l.map clip) f i (.bool true) (.int .i64 0) w15) from ⟨0, true, _, st0, false, Nat.zero_le _, rfl, rfl, d1, fun _ => ⟨rfl, rfl⟩, fun _ => rfl, Nat.le_refl _, b15⟩)
          clear d1 b15
          clear hd4
          go_loopw [14, 15] (fun gv iv wr => BiRel w14 D t (l.map clip) f i gv iv wr) (fun _ iv _ => i - (intOf iv).toNat)
          case atStart => exact HQB.out
          case round =>
            clear HQB
            obtain ⟨k, good, vd, st, bad, hk, rfl, rfl, d1, hgood, hbyt, hst, b1⟩ := hrel
            by_cases hkl : k < i
            · have hd : decide ((k : Int) < (i : Int)) = true := decide_eq_true (by omega)
              cases good
              · have hno : ¬ t.data.toList = byt f := fun e => (by have := hbyt e; cases this)
                have B16 := Hid.intro b1
                clear d1 hgood hbyt b1
                have hq0 : ¬ (q : Int) = 0 := fun e => hno (HQ.out.2 (.inl (by omega)))
                by_cases hq3 : (q : Int) = 3
                · have hb0 : ((b : Int) == 0) = false := by simp only [beq_eq_false_iff_ne, ne_eq]; exact fun e => hno (HQ.out.2 (.inr ⟨by omega, by omega⟩))
                  go_wp2_with fail
                  go_roundw
                  case rel => exact ⟨q + 1, by omega, congrArg (Value.int .i64) (by omega), B16.out⟩
                  case measure => simp [intOf]; omega
                · skip
                  go_wp2_with fail
                  go_roundw
                  case rel => exact ⟨q + 1, by omega, congrArg (Value.int .i64) (by omega), B16.out⟩
                  case measure => simp [intOf]; omega
              · obtain ⟨rfl, rfl⟩ := hgood rfl
                obtain ⟨x, p, bb, n, v, rfl, hqk, q4, hcells⟩ := asks_cells IA.out k hkl
                obtain ⟨m, rfl, hm64⟩ := clip_some hqk
                obtain ⟨q0, q1, q2, q3⟩ := hcells wr b1
                have hS := stA_succ (l.map clip) k _ hqk
                have HC := Hid.intro hcells
                have hivk := stA_iv (l.map clip) k
                have hsub := stA_sub (l.map clip) (k + 1) (i - (k + 1)) (by rw [List.length_map, HL.out.1]; omega)
                rw [show k + 1 + (i - (k + 1)) = i from by omega, HF.out] at hsub
                clear hcells hgood hbyt
                by_cases hm0 : 0 < m
                · have hmi : (0 : Int) < (m : Int) := by omega
                  obtain ⟨y, er, st', bad', hr⟩ : ∃ y er st' bad', gDir t.data.toList m 0 (stA (l.map clip) k) false = (y, er, st', bad') := ⟨_, _, _, _, rfl⟩
                  have hu := up_dir t.data.toList m 0 (stA (l.map clip) k) false
                  have her := er_dir t.data.toList m 0 (stA (l.map clip) k) false
                  rw [hr] at hu her
                  simp only at hu her
                  have hcl : cl (m : Int) = m := cl_nat m hm64
                  rw [stp, if_pos (by simp only; omega)] at hS
                  simp only [hcl] at hS
                  rw [hS] at hsub
                  have BK1 := back_dir t.data.toList v m _ y er st' bad' hr
                  have BK2 := fun (e : t.data.toList = byt f) => back_dir2 t.data.toList v m _ f y er st' bad' hr hivk (by rw [e]; exact fin_byt f HIV.out) hsub
                  rw [← hS] at BK1
                  have P1 := ddir_own D t vd _ false (m : Int) d1 b1 (by omega) (by omega) y er st' bad' (by rw [hcl]; exact hr)
                  have EA := fun (W : World) => err_any er W (by omega)
                  have HU : Hid (st'.1 ≤ 128 * (k + 1)) := by show _ ≤ _; omega
                  obtain ⟨W0, hW0⟩ : ∃ W0, v % 2 ^ m = W0 := ⟨_, rfl⟩
                  rw [hW0] at BK1
                  simp only [hW0] at BK2
                  have HB1 := Hid.intro BK1
                  have HB2 := Hid.intro BK2
                  clear BK1 BK2 hu hr hS hsub hivk d1 b1 hqk her
                  unfold ptr at P1
                  go_wp2_with fail
                  refine P1.mono ?_
                  rintro e w16 ⟨rfl, vd', e1, e2, e3, e4⟩
                  clear P1 q0 q1 q2 q3 e3 e4
                  obtain ⟨q0, q1, q2, q3⟩ := HC.out w16 e2
                  have E1 := Hid.intro e1
                  have E2 := Hid.intro e2
                  clear e1 e2
                  by_cases h64 : m < 64
                  · have h64i : (m : Int) < 64 := by omega
                    have hlow := low64 v m q4 h64
                    rw [hW0] at hlow
                    clear hW0
                    by_cases hy : y = W0
                    · subst hy
                      go_wp2_with fail
                      refine (EA _).mono ?_
                      rintro e w17 ⟨rfl, rfl⟩
                      by_cases he : er = 0
                      · have hei : (er : Int) = 0 := by omega
                        go_wp2_with fail
                        go_roundw
                        case rel => exact ⟨k + 1, true, vd', st', bad', by omega, rfl, by go_num, E1.out, fun _ => HB1.out he (by trivial), fun _ => rfl, HU.out, E2.out⟩
                        case measure => simp [intOf]; omega
                      · have hei : ((er : Int) == 0) = false := by simpa using he
                        go_wp2_with fail
                        go_roundw
                        case rel => exact ⟨k + 1, false, vd', st', bad', by omega, by first | rfl | exact congrArg Value.bool hei, by go_num, E1.out, fun h => (by cases h), fun e => absurd (HB2.out e).1 he, HU.out, E2.out⟩
                        case measure => simp [intOf]; omega
                    · have hyi : ¬ (y : Int) = (W0 : Int) := by omega
                      go_wp2_with fail
                      go_roundw
                      case rel => exact ⟨k + 1, false, vd', st', bad', by omega, rfl, by go_num, E1.out, fun h => (by cases h), fun e => absurd (HB2.out e).2 hy, HU.out, E2.out⟩
                      case measure => simp [intOf]; omega
                  · have h64i : ¬ (m : Int) < 64 := by omega
                    have hvW : v = W0 := by rw [← hW0, show m = 64 from by omega]; exact (Nat.mod_eq_of_lt q4).symm
                    clear hW0
                    subst hvW
                    by_cases hy : y = v
                    · subst hy
                      go_wp2_with fail
                      refine (EA _).mono ?_
                      rintro e w17 ⟨rfl, rfl⟩
                      by_cases he : er = 0
                      · have hei : (er : Int) = 0 := by omega
                        go_wp2_with fail
                        go_roundw
                        case rel => exact ⟨k + 1, true, vd', st', bad', by omega, rfl, by go_num, E1.out, fun _ => HB1.out he (by trivial), fun _ => rfl, HU.out, E2.out⟩
                        case measure => simp [intOf]; omega
                      · have hei : ((er : Int) == 0) = false := by simpa using he
                        go_wp2_with fail
                        go_roundw
                        case rel => exact ⟨k + 1, false, vd', st', bad', by omega, by first | rfl | exact congrArg Value.bool hei, by go_num, E1.out, fun h => (by cases h), fun e => absurd (HB2.out e).1 he, HU.out, E2.out⟩
                        case measure => simp [intOf]; omega
                    · have hyi : ¬ (y : Int) = (v : Int) := by omega
                      go_wp2_with fail
                      go_roundw
                      case rel => exact ⟨k + 1, false, vd', st', bad', by omega, rfl, by go_num, E1.out, fun h => (by cases h), fun e => absurd (HB2.out e).2 hy, HU.out, E2.out⟩
                      case measure => simp [intOf]; omega
                · obtain rfl : m = 0 := by omega
                  obtain ⟨y, er, st', bad', hr⟩ : ∃ y er st' bad', gBit t.data.toList p (stA (l.map clip) k) false = (y, er, st', bad') := ⟨_, _, _, _, rfl⟩
                  have hu := up_bit t.data.toList p (stA (l.map clip) k) false
                  have her := (er_bit t.data.toList p (stA (l.map clip) k) false).2
                  rw [hr] at hu her
                  simp only at hu her
                  rw [stp, if_neg (by simp)] at hS
                  simp only at hS
                  rw [hS] at hsub
                  have BK1 := back_bit t.data.toList p bb _ y er st' bad' hr
                  have BK2 := fun (e : t.data.toList = byt f) => back_bit2 t.data.toList p bb _ f y er st' bad' hr hivk (by rw [e]; exact fin_byt f HIV.out) hsub
                  rw [← hS] at BK1
                  have P1 := dbit_own D t vd _ false p d1 b1 (by omega) (by omega) y er st' bad' hr
                  have EA := fun (W : World) => err_any er W (by omega)
                  have BF := fun (W : World) => bitf_any bb W
                  obtain ⟨W0, hW0⟩ : ∃ W0 : Nat, (if bb ≠ 0 then 1 else 0) = W0 := ⟨_, rfl⟩
                  simp only [hW0] at BK1 BK2 BF
                  have HU : Hid (st'.1 ≤ 128 * (k + 1)) := by show _ ≤ _; omega
                  have HB1 := Hid.intro BK1
                  have HB2 := Hid.intro BK2
                  clear BK1 BK2 hu hr hS hsub hivk d1 b1 hqk her hW0
                  unfold ptr at P1
                  go_wp2_with fail
                  refine P1.mono ?_
                  rintro e w16 ⟨rfl, vd', e1, e2, e3, e4⟩
                  clear P1 q0 q1 q2 q3 e3 e4
                  obtain ⟨q0, q1, q2, q3⟩ := HC.out w16 e2
                  have E1 := Hid.intro e1
                  have E2 := Hid.intro e2
                  clear e1 e2
                  go_wp2_with fail
                  refine (BF _).mono ?_
                  rintro e w18 ⟨rfl, rfl⟩
                  by_cases hy : y = W0
                  · subst hy
                    go_wp2_with fail
                    refine (EA _).mono ?_
                    rintro e w17 ⟨rfl, rfl⟩
                    by_cases he : er = 0
                    · have hei : (er : Int) = 0 := by omega
                      go_wp2_with fail
                      go_roundw
                      case rel => exact ⟨k + 1, true, vd', st', bad', by omega, rfl, by go_num, E1.out, fun _ => HB1.out he (by trivial), fun _ => rfl, HU.out, E2.out⟩
                      case measure => simp [intOf]; omega
                    · have hei : ((er : Int) == 0) = false := by simpa using he
                      go_wp2_with fail
                      go_roundw
                      case rel => exact ⟨k + 1, false, vd', st', bad', by omega, by first | rfl | exact congrArg Value.bool hei, by go_num, E1.out, fun h => (by cases h), fun e => absurd (HB2.out e).1 he, HU.out, E2.out⟩
                      case measure => simp [intOf]; omega
                  · have hyi : ¬ (y : Int) = (W0 : Int) := by omega
                    go_wp2_with fail
                    go_roundw
                    case rel => exact ⟨k + 1, false, vd', st', bad', by omega, rfl, by go_num, E1.out, fun h => (by cases h), fun e => absurd (HB2.out e).2 hy, HU.out, E2.out⟩
                    case measure => simp [intOf]; omega
            · obtain rfl : k = i := by omega
              have hd : decide ((k : Int) < (k : Int)) = false := decide_eq_false (by omega)
              cases good
              · have hno : ¬ t.data.toList = byt f := fun e => (by have := hbyt e; cases this)
                have B16 := Hid.intro b1
                clear d1 hgood hbyt b1
                have hq0 : ¬ (q : Int) = 0 := fun e => hno (HQ.out.2 (.inl (by omega)))
                by_cases hq3 : (q : Int) = 3
                · have hb0 : ((b : Int) == 0) = false := by simp only [beq_eq_false_iff_ne, ne_eq]; exact fun e => hno (HQ.out.2 (.inr ⟨by omega, by omega⟩))
                  go_wp2_with fail
                  go_roundw
                  case rel => exact ⟨q + 1, by omega, congrArg (Value.int .i64) (by omega), B16.out⟩
                  case measure => simp [intOf]; omega
                · skip
                  go_wp2_with fail
                  go_roundw
                  case rel => exact ⟨q + 1, by omega, congrArg (Value.int .i64) (by omega), B16.out⟩
                  case measure => simp [intOf]; omega
              · obtain ⟨rfl, rfl⟩ := hgood rfl
                obtain ⟨er, bad', hr⟩ : ∃ er bad', gEnd t.data.toList (stA (l.map clip) k) false = (er, bad') := ⟨_, _, rfl⟩
                have her := er_end t.data.toList (stA (l.map clip) k) false
                rw [hr] at her
                simp only at her
                have P1 := dend_own D t vd _ false d1 b1 (by omega) (by omega) er bad' hr
                rw [HF.out] at hr
                have HBE := Hid.intro (back_end t.data.toList f er bad' HIV.out hr)
                have EA := fun (W : World) => err_any er W (by omega)
                clear d1 b1 hr her hgood hbyt
                unfold ptr at P1
                go_wp2_with fail
                refine P1.mono ?_
                rintro e w16 ⟨rfl, e1, e2, e3⟩
                have B16 := Hid.intro e2
                clear P1 e1 e2 e3
                go_wp2_with fail
                refine (EA _).mono ?_
                rintro e w17 ⟨rfl, rfl⟩
                by_cases he : er = 0
                · have hei : (er : Int) = 0 := by omega
                  rcases HQ.out.1 (HBE.out.1 he) with rfl | ⟨hq3, hb3⟩
                  · go_wp2_with fail
                    go_roundw
                    case rel => exact ⟨0 + 1, by omega, congrArg (Value.int .i64) (by omega), B16.out⟩
                    case measure => simp [intOf]
                  · have hq0 : ¬ (q : Int) = 0 := by omega
                    have hq3i : (q : Int) = 3 := by omega
                    have hb0 : ((b : Int) == 0) = true := by simpa using hb3
                    clear hb3
                    go_wp2_with fail
                    go_roundw
                    case rel => exact ⟨q + 1, by omega, congrArg (Value.int .i64) (by omega), B16.out⟩
                    case measure => simp [intOf]; omega
                · have hei : ((er : Int) == 0) = false := by simpa using he
                  have hno : ¬ t.data.toList = byt f := fun e => he (HBE.out.2 e)
                  have hq0 : ¬ (q : Int) = 0 := fun e => hno (HQ.out.2 (.inl (by omega)))
                  by_cases hq3 : (q : Int) = 3
                  · have hb0 : ((b : Int) == 0) = false := by simp only [beq_eq_false_iff_ne, ne_eq]; exact fun e => hno (HQ.out.2 (.inr ⟨by omega, by omega⟩))
                    go_wp2_with fail
                    go_roundw
                    case rel => exact ⟨q + 1, by omega, congrArg (Value.int .i64) (by omega), B16.out⟩
                    case measure => simp [intOf]; omega
                  · skip
                    go_wp2_with fail
                    go_roundw
                    case rel => exact ⟨q + 1, by omega, congrArg (Value.int .i64) (by omega), B16.out⟩
                    case measure => simp [intOf]; omega
        · obtain rfl : q = 4 := by omega
          have B4 := Hid.intro b4
          go_wp2_with fail
          refine (awake_own b4).mono ?_
          rintro e w15 ⟨rfl, b15⟩
          go_wp2
          go_ret
          exact ⟨rfl, HB14.out.trans (b15.mono HB14.out.size)⟩
theorem back_all (a : Option Addr) (len cap : Nat) (l : List (Int × Int × Int × Nat)) (at' by' : Int) (w : World) (hl : IsAsks w a len cap l) (h1 : (Lit.int .u8 at').wf = true) (h2 : (Lit.int .u8 by').wf = true) :
    Calls Try.prog 5 #[.slice a len cap, .int .u8 at', .int .u8 by'] w fun e w' => e = .returned (.bool true) ∧ Below w.heap.size w w' := by
  have b1 := bounds_u8 h1
  have b2 := bounds_u8 h2
  exact back_walk a len cap l at' by' w hl (by omega) (by omega)

/-! ### THE ROW's STEP: WRITTEN OUT: LEAVE IT -/
set_option maxRecDepth 100000 in
theorem lifted (os : Os) (started : os.Started) (H : Type) (enc : TypeId × Value → H) :
    ReturnsInHanded {} Try.checked os 5 .any (Rows.chanceBackSpec.pre6 enc Try.prog Try.f5 Rows.chanceBackRow.domain false) (Rows.chanceBackSpec.post enc Try.prog Try.f5 false true false false) := by
  refine returnsInHanded_of_change (C := Try.checked) own started (by kernel_rfl) Try.func5
    (ChangeSpec.witness6 (enc := enc) (C := Try.checked) false ⟨#[], #[.slice none 0 0, .int .u8 0, .int .u8 0], []⟩ 8 (by kernel_rfl) (by kernel_rfl) (by kernel_rfl) (by kernel_rfl)) ?_
  intro W base args ds gs before hval0 hW hcnd _
  have hval : ∀ (j : Nat) t v, Try.f5.params[j]? = some t → args[j]? = some v → Value.okWide Try.prog W .any base t v := hval0
  have hW' := hW
  obtain ⟨p, q, hA0, hV, rfl, hfz, hnd⟩ := hW
  have hA : DataW.TrodAll enc Try.prog W 0 (fun _ => true) true Try.f5.params.toList args.toList ds p := hA0
  rw [Try.params5] at hA hval
  obtain ⟨v0, vs0, d0, ds0, p0, q0, hargs, rfl, rfl, h0, r0⟩ := trodAll_cons hA
  obtain ⟨v1, vs1, d1, ds1, p1, q1, rfl, rfl, rfl, h1, r1⟩ := trodAll_cons r0
  obtain ⟨v2, vs2, d2, ds2, p2, q2, rfl, rfl, rfl, h2, r2⟩ := trodAll_cons r1
  obtain ⟨rfl, rfl, rfl⟩ := trodAll_nil r2
  obtain rfl : args = #[v0, v1, v2] := by cases args; simp_all
  obtain ⟨rfl, rfl⟩ := trodVars_none hV
  obtain ⟨a0, len0, cap0, rfl⟩ := okWide_slice Try.underlying22 (hval 0 22 v0 rfl rfl)
  have k0 := h0
  have lt0 : ∀ x ∈ p0, x.block < W.heap.size := by obtain ⟨m, hm⟩ := k0; exact DataW.trod_lt m _ _ _ hm
  obtain ⟨l0, w0⟩ : ∃ l, IsAsks W a0 len0 cap0 l := by
    obtain ⟨fuel, hf⟩ := h0
    exact open_asks (by simpa [Value.cells] using hf)
  obtain ⟨a1, rfl, rfl, rfl, w1⟩ := open_int Try.underlying5 (hval 1 5 v1 rfl rfl) h1
  obtain ⟨a2, rfl, rfl, rfl, w2⟩ := open_int Try.underlying5 (hval 2 5 v2 rfl rfl) h2
  clear hA0 hval0
  refine (back_all a0 len0 cap0 l0 a1 a2 W w0 w1 w2).mono fun e W' ⟨he, bel⟩ => ?_
  subst he
  exact ⟨_, rfl, _, _, _, [], _, [], hW', trodAll_mk1 (shut_bool Try.underlying4 _), (trodAll_cons_mk (Below.trod laidOut (by kernel_rfl) (of_decide_eq_true (by kernel_rfl)) k0 bel lt0) (trodAll_cons_mk (shut_int Try.underlying5 w1) (trodAll_cons_mk (shut_int Try.underlying5 w2) trodAll_mk0))), rfl, bel.frame _, fun h => by cases h⟩

theorem over : Rows.chanceBackRow.holds Try.pinned (OpenSpec.ofChange Rows.chanceBackSpec) :=
  OpenClaim.holds_of_wide 5 Try.f5 rfl rfl rfl rfl rfl rfl rfl ⟨rfl, rfl, rfl, rfl, rfl⟩ rfl rfl rfl rfl rfl (by kernel_rfl) Try.func5 (by kernel_rfl)
    (of_decide_eq_true (by kernel_rfl)) (by unfold Func.isWrapper; first | (rw [if_pos (by decide +kernel)]; kernel_rfl) | (rw [if_neg (by decide +kernel)]; exact ⟨rfl, rfl⟩))
    (fun os started H enc _ => lifted os started H enc)

/-- ████ THE STATEMENT ████ -/
theorem proved : Rows.ChanceBackSaid := over
end Go.Proofs.Ytbmjehpkcelogaa.chanceBack

namespace Go.Proofs.Ytbmjehpkcelogaa
theorem chanceBack_holds : Rows.ChanceBackSaid := chanceBack.proved
#print axioms chanceBack_holds
end Go.Proofs.Ytbmjehpkcelogaa
