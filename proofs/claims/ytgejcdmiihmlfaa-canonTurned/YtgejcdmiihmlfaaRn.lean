/-
  The reference's Lengths, where they may not be asked for.
-/
import Derived.Test.YtgejcdmiihmlfaaLm
import Derived.Test.YtgejcdmiihmlfaaRo
namespace Go.Proofs.Ytgejcdmiihmlfaa
open Go.ChangeShapes Go.WideShapes Go.ChangeAt Go.RowKit
open Go.ChangeMaps (open_string shut_string)

theorem make_big (W : World) :
    (Instr.makeSlice 22 (.int .i64 166600) (.int .i64 166600)).run Try.prog W = .ok (.slice (some ⟨W.heap.size, 0, none⟩) 166600 166600) (W.alloc (.cells (madeCells #[.int .i64 0] 166600) 3)) := by
  obtain ⟨i, hi, hz, hs, hb⟩ := info_all info3
  have hr := run_make (P := Try.prog) W 22 3 i _ Try.underlying22 hi hz .i64 .i64 166600 166600 (by omega) (Int.le_refl _) (by rw [hb]; omega) (by omega)
  simp only [hs] at hr
  exact hr
theorem own_made_big (W : World) (n : Nat) (hn : n ≤ 1000000) : (W.alloc (.cells (madeCells #[.int .i64 0] n) 3)).ownsRow W.heap.size 3 1 (.slice (some ⟨W.heap.size, 0, none⟩) n n) n (ivs (List.replicate n 0)) :=
  ⟨by simp [ivs], .inr ⟨_, n, _, rfl, Nat.le_refl _, blk_new _ _ _, Nat.le_refl _, by simp only [maxLen]; omega, by simp [madeCells], by rw [made_ints, List.take_of_length_le (by simp [ivs])]⟩⟩
def RlRel1 (f : List Int) (w : World) (sv : Value) (wr : World) : Prop := ∃ i : Nat, i ≤ f.length ∧ sv = .int .i64 i ∧ (∀ z ∈ f.take i, badz z = false) ∧ wr = w
theorem res_bad (w w1 : World) (h : Below w.heap.size w w1) (bk : Blk w1 w.heap.size #[.slice none 0 0, .int .i64 0] 36) (u v : Value) :
    Below w.heap.size w ((w1.setCell ⟨w.heap.size, 0, none⟩ u).setCell ⟨w.heap.size, 1, none⟩ v) ∧ ((w1.setCell ⟨w.heap.size, 0, none⟩ u).cell? ⟨w.heap.size, 0, none⟩ = some u) ∧ (((w1.setCell ⟨w.heap.size, 0, none⟩ u).setCell ⟨w.heap.size, 1, none⟩ v).cell? ⟨w.heap.size, 1, none⟩ = some v) :=
  ⟨h.trans (chg_below (S := (· = w.heap.size)) (chg_in (chg_in (chg_refl _ _) _ _) _ _) h.size (fun k hk => by omega)), by rw [blk_cell (blk_set bk 0 _)]; rfl, by rw [blk_cell (blk_set (blk_set bk 0 _) 1 _)]; rfl⟩
set_option maxRecDepth 100000 in
set_option maxHeartbeats 2000000 in
theorem rlengths_no (a : Option Addr) (n cap : Nat) (f : List Int) (limit : Int) (w : World) (h : RI w a n f) (hn : n ≤ 100000) (hm : mayB f n limit = false) :
    Calls Try.prog 15 #[.slice a n cap, .int .i64 limit] w fun e w' => e = .returned (.agg #[.slice none 0 0, .int .i64 1]) ∧ Below w.heap.size w w' := by
  have b1 : Below w.heap.size w (w.alloc (.cells #[.slice none 0 0, .int .i64 0] 36)) := (Below.refl _ _).alloc (Nat.le_refl _) _
  have bk := blk_new w #[.slice none 0 0, .int .i64 0] 36
  have HB : Hid (Below w.heap.size w (w.alloc (.cells #[.slice none 0 0, .int .i64 1] 36))) := (Below.refl _ _).alloc (Nat.le_refl _) _
  by_cases h1 : n = 65
  · subst h1
    by_cases h7 : limit < 7
    · go_enter Try.func15, Try.ntmps15
      go_wp2_with fail
      go_returns
      exact ⟨rfl, HB.out⟩
    · by_cases h15 : 15 < limit
      · go_enter Try.func15, Try.ntmps15
        go_wp2_with fail
        go_returns
        exact ⟨rfl, HB.out⟩
      · have hany : f.any badz = true := by
          unfold mayB at hm
          have a1 : decide ((7 : Int) ≤ limit) = true := decide_eq_true (by omega)
          have a2 : decide (limit ≤ 15) = true := decide_eq_true (by omega)
          rw [a1, a2] at hm
          simpa using hm
        obtain ⟨hl, hx⟩ := h
        have HX := Hid.intro hx
        have HA := Hid.intro hany
        have HL := Hid.intro hl
        clear hm hx hany hl b1 bk
        go_enter Try.func15, Try.ntmps15
        go_wp2_with fail
        go_loopw [5] (fun sv wr => RlRel1 f (w.alloc (.cells #[.slice none 0 0, .int .i64 0] 36)) sv wr) (fun sv _ => 65 - (intOf sv).toNat)
        case atStart => exact ⟨0, by omega, rfl, by simp, rfl⟩
        case round =>
          obtain ⟨i, hi, rfl, d1, rfl⟩ := hrel
          by_cases hlt : i < 65
          · have hif : i < f.length := by rw [HL.out]; exact hlt
            obtain ⟨x, rfl, hxc⟩ := HX.out (by omega)
            have cx0 := hxc i hif
            have cx : (w.alloc (.cells #[.slice none 0 0, .int .i64 0] 36)).cell? (x.add i) = some (.int .i64 f[i]) := by
              have b1 : Below w.heap.size w (w.alloc (.cells #[.slice none 0 0, .int .i64 0] 36)) := (Below.refl _ _).alloc (Nat.le_refl _) _
              rw [b1.cell (World.block_lt_of_cell? _ _ cx0)]; exact cx0
            have ts := take_snoc f i hif
            have T2 : Hid (badz f[i] = false → ∀ z ∈ f.take (i + 1), badz z = false) := fun hb z hz => by
              rw [ts] at hz
              rcases List.mem_append.1 hz with h | h
              · exact d1 z h
              · rw [List.mem_singleton.1 h]; exact hb
            clear hxc cx0 ts d1
            generalize f[i] = z at *
            by_cases hb : z < 0
            · go_wp2_with fail
              go_returns
              exact ⟨rfl, HB.out⟩
            · by_cases hb2 : 16777216 < z
              · go_wp2_with fail
                go_returns
                exact ⟨rfl, HB.out⟩
              · have T3 := Hid.intro (T2.out (by unfold badz; simp; omega))
                clear T2
                go_wp2_with fail
                go_roundw
                case rel => exact ⟨i + 1, by rw [HL.out]; omega, by go_num, T3.out, rfl⟩
                case measure => simp [intOf]; omega
          · exfalso
            obtain ⟨z, hz, hb⟩ := List.any_eq_true.1 HA.out
            have := d1 z (by rw [List.take_of_length_le (by have := HL.out; omega)]; exact hz)
            rw [this] at hb; cases hb
  · have t1 : ((n : Int) == 65) = false := by simp; omega
    have t2 : ((n : Int) != 65) = true := by simp; omega
    clear h1
    go_enter Try.func15, Try.ntmps15
    go_wp2_with fail
    go_returns
    exact ⟨rfl, HB.out⟩
end Go.Proofs.Ytgejcdmiihmlfaa
