/-
  Parts of the numbers that are handed in, and where they lie.
-/
import Derived.Test.YtnnecccnoemkpaaJm
namespace Go.Proofs.Ytnnecccnoemkpaa
open Go.ChangeShapes Go.WideShapes Go.ChangeAt Go.RowKit
open Go.ChangeMaps (open_string shut_string)

set_option maxRecDepth 100000 in
theorem parts_at (a : Option Addr) (n cap : Nat) (zs : List Int) (w : World) (h : RI w a n zs) (hf : FI zs) (hn : n ≤ 1000) :
    Calls Try.prog 12 #[.slice a n cap] w fun e w' => e = .returned (.slice (some ⟨w.heap.size, 0, none⟩) n n) ∧ w'.ownsRow w.heap.size 43 2 (.slice (some ⟨w.heap.size, 0, none⟩) n n) n (pvs (zs.map spl)) ∧ Below w.heap.size w w' := by
  obtain ⟨h1, h2⟩ := h
  subst h1
  have mk := make_parts zs.length (by omega) w
  have ow := own_made_parts w zs.length (by omega)
  have bl : Below w.heap.size w (w.alloc (.cells (madeCells #[.int .i64 0, .int .u64 0] (zs.length * 2)) 43)) := (Below.refl _ _).alloc (Nat.le_refl _) _
  have HX : Hid (0 < zs.length → ∃ x, a = some x ∧ ∀ i (h : i < zs.length), w.cell? (x.add i) = some (.int .i64 zs[i])) := h2
  have HF : Hid (FI zs) := hf
  clear h2 hf
  generalize w.alloc (.cells (madeCells #[.int .i64 0, .int .u64 0] (zs.length * 2)) 43) = w1 at *
  go_enter Try.func12, Try.ntmps12
  go_wp2_with fail
  go_loopw [11] (fun sv wr => PaRel zs w sv wr) (fun sv _ => zs.length - (intOf sv).toNat)
  case atStart => exact ⟨0, by omega, rfl, by rw [fill_zero]; exact ow, bl⟩
  case round =>
    clear mk ow bl
    obtain ⟨i, hi, rfl, d1, d2⟩ := hrel
    by_cases hlt : i < zs.length
    · obtain ⟨x, rfl, hx⟩ := HX.out (by omega)
      have cx := hx i hlt
      have cx' : wr.cell? (x.add i) = some (.int .i64 zs[i]) := by rw [d2.cell (World.block_lt_of_cell? _ _ cx)]; exact cx
      have bd := HF.out zs[i] (List.getElem_mem hlt)
      have FS := Hid.intro (fill_step spl (0, 0) zs i hlt)
      generalize hz : zs[i] = z at *
      clear cx hx
      go_wp2_with fail
      refine (split_any z _ bd.1 bd.2).mono ?_
      rintro e w2 ⟨rfl, b2⟩
      have e1 := own_later d1 b2
      have e2 : Below w.heap.size w w2 := d2.trans (b2.mono d2.size)
      obtain ⟨u0, v0, c0, c1, f0, f1⟩ := own_two e1 i hlt
      have e3 := own_set (own_set e1 (i * 2) (.int .i64 (blen (zmap z)))) (i * 2 + 1) (.int .u64 (srest (zmap z)))
      rw [pvs_set, show (blen (zmap z), srest (zmap z)) = spl z from rfl, FS.out] at e3
      have e4 : Below w.heap.size w ((w2.setCell ⟨w.heap.size, i * 2, none⟩ (.int .i64 (blen (zmap z)))).setCell ⟨w.heap.size, i * 2 + 1, none⟩ (.int .u64 (srest (zmap z)))) := (e2.setCell (Nat.le_refl _) _).setCell (Nat.le_refl _) _
      clear e1 e2 d1 d2 b2 cx'
      go_wp2_with fail
      go_roundw
      case rel => exact ⟨i + 1, by omega, by go_num, e3, e4⟩
      case measure => simp [intOf]; omega
    · obtain rfl : i = zs.length := by omega
      rw [fill_done] at d1
      go_wp2_with fail
      go_ret
      exact ⟨rfl, d1, d2⟩
end Go.Proofs.Ytnnecccnoemkpaa
