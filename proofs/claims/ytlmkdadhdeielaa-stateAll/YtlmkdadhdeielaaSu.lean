/-
  leftSeed and Sum of package state: what they return.
-/
import Derived.Test.YtlmkdadhdeielaaSe
namespace Go.Proofs.Ytlmkdadhdeielaa
open Go.ChangeShapes Go.WideShapes Go.ChangeAt Go.RowKit
open Go.ChangeMaps (open_string shut_string)

theorem lseed_bits2 (j n : Nat) : IntKind.u64.wrap (IntKind.u64.wrap ((j : Int) + (n : Int)) - 2870177450012600261) = (((j + n + 15576566623696951355) % 18446744073709551616 : Nat) : Int) := by
  simp only [IntKind.wrap, IntKind.bits, IntKind.signed]; simp; omega
theorem ls_few (seed : Nat) (l : List UInt8) (h : l.length < 32) : lseed seed l = seed := by unfold lseed; rw [if_pos h]
theorem ls_many (seed : Nat) (l : List UInt8) (h : ¬ l.length < 32) : lseed seed l = (join4 (four4 seed l) + (l.length - l.length % 32) + 15576566623696951355) % 18446744073709551616 := by unfold lseed; rw [if_neg h]
set_option maxRecDepth 100000 in
set_option maxHeartbeats 1000000 in
theorem lseed_any {W : World} {A seed : Nat} {l : List UInt8} (h : St W A seed l) (hl : l.length ≤ 1000000) :
    Calls Try.prog 16 #[ptr A] W fun e w' => e = .returned (.int .u64 (lseed seed l : Nat)) ∧ Below W.heap.size W w' := by
  obtain ⟨hs, f, k, h, h1, h2⟩ := h
  have c := sb_came h
  have c0 := sb_seed h
  by_cases hlt : l.length < 32
  · have E := hidI (ls_few seed l hlt)
    generalize lseed seed l = z at *
    generalize l.length = n at *
    clear h h1 h2
    unfold ptr
    go_enter Try.func16, Try.ntmps16
    go_wp2
    go_ret
    exact ⟨ret64 E.out.symm, Below.refl _ _⟩
  · have E := hidI (ls_many seed l hlt)
    have a1 := sb_four h 0 _ rfl
    have a2 := sb_four h 1 _ rfl
    have a3 := sb_four h 2 _ rfl
    have a4 := sb_four h 3 _ rfl
    simp only [Nat.reduceAdd] at a1 a2 a3 a4
    have hf := h2 (by omega)
    have CL := left_any h hl
    have C12 : ∀ V : World, V.heap = W.heap → Calls Try.prog 12 #[ptr A] V fun e w' => e = .returned (.int .i64 (l.length % 32 : Nat)) ∧ w' = V := by
      intro V hV
      refine left_any (W := V) (f := f) (k := k) (seed := seed) ⟨?_, h.2⟩ hl
      have := h.1
      unfold Blk at this ⊢
      rw [hV]
      exact this
    have cj := fun w => joinF_any f (by rw [hf]; exact four4_fits seed hs l) w
    rw [← hf] at E
    generalize join4 f = j at *
    have e1 := lseed_bits2 j (l.length - l.length % 32)
    generalize lseed seed l = z at *
    have m1 : l.length % 32 < 32 := by omega
    have m2 : l.length % 32 ≤ l.length := by omega
    have e2 : ((l.length : Int) - ((l.length % 32 : Nat) : Int)) = ((l.length - l.length % 32 : Nat) : Int) := by omega
    generalize l.length % 32 = m at *
    have m3 : l.length - m ≤ 1000000 := by omega
    generalize l.length - m = d at *
    generalize l.length = n at *
    clear h h1 h2 hf CL c0
    unfold ptr at *
    unfold agg4 at *
    go_enter Try.func16, Try.ntmps16
    go_wp2
    go_quiet ((go_at_call 12; exact Calls.quiet_of_same (C12 _ rfl)))
    clear C12
    go_wp2_with fail
    refine (cj _).mono ?_
    rintro e w1 ⟨rfl, hb⟩
    replace hb := hidI hb
    go_wp2
    go_ret
    exact ⟨ret64 E.out.symm, ⟨hb.out.os, hb.out.tape, hb.out.output, hb.out.size, hb.out.block⟩⟩

theorem extract_kept {W : World} {A seed : Nat} {f : F4} {k l : List UInt8} (h : Sb W A seed f k l.length) (h1 : k.take (l.length % 32) = rest l) :
    (convert 32 9 (.slice (some ⟨A, 5, none⟩) (l.length % 32) 32)).run Try.prog W = .ok (.string (bs (rest l))) W := by
  have := run_convert_bytes_back W 32 9 5 ⟨A, 5, none⟩ 32 (rest l) Try.underlying32 Try.underlying5 Try.underlying9 (fun j hj => by
    rw [Addr.add_mid]
    have hj2 : j < k.length := by rw [rest_len] at hj; rw [h.2]; omega
    rw [sb_byte h j hj2]
    have e : (rest l)[j] = k[j] := by simp only [← h1, List.getElem_take]
    rw [e]
    rfl)
  rw [rest_len] at this
  exact this
/-- The state stands, and nothing old has turned. -/
def Kst (W : World) (A seed : Nat) (l : List UInt8) (V : World) : Prop := St V A seed l ∧ Below W.heap.size W V
theorem kst_drew {W V : World} {A seed : Nat} {l : List UInt8} (h : Kst W A seed l V) : Kst W A seed l V.drew := ⟨h.1, h.2.drew⟩
theorem kst_below {W V V' : World} {A seed : Nat} {l : List UInt8} (h : Kst W A seed l V) (g : Below V.heap.size V V') : Kst W A seed l V' := ⟨st_below h.1 g, h.2.trans (g.mono h.2.size)⟩
theorem kst_conv {W V : World} {A seed : Nat} {l : List UInt8} (h : Kst W A seed l V) : (convert 32 9 (.slice (some ⟨A, 5, none⟩) (l.length % 32) 32)).run Try.prog V = .ok (.string (bs (rest l))) V := by
  obtain ⟨⟨_, f, k, h, h1, _⟩, _⟩ := h
  exact extract_kept h h1
theorem kst_left {W V : World} {A seed : Nat} {l : List UInt8} (h : Kst W A seed l V) (hl : l.length ≤ 1000000) : Calls Try.prog 12 #[ptr A] V fun e w' => e = .returned (.int .i64 (l.length % 32 : Nat)) ∧ w' = V := by
  obtain ⟨⟨_, f, k, h, _, _⟩, _⟩ := h
  exact left_any h hl
theorem kst_lseed {W V : World} {A seed : Nat} {l : List UInt8} (h : Kst W A seed l V) (hl : l.length ≤ 1000000) : Calls Try.prog 16 #[ptr A] V fun e w' => e = .returned (.int .u64 (lseed seed l : Nat)) ∧ Kst W A seed l w' := by
  refine (lseed_any h.1 hl).mono ?_
  rintro e w' ⟨rfl, hb⟩
  exact ⟨rfl, kst_below h hb⟩
theorem kst_sum {W V : World} {A seed : Nat} {l : List UInt8} (h : Kst W A seed l V) : Calls Try.prog 15 #[.int .u64 (lseed seed l : Nat), .string (bs (rest l))] V fun e w' => e = .returned (.int .u64 (sum seed l : Nat)) ∧ Kst W A seed l w' := by
  refine (sum_any (lseed seed l) (lseed_lt seed h.1.1 l) (bs (rest l)) V).mono ?_
  rintro e w' ⟨rfl, hb⟩
  rw [list_bs, sum_left]
  exact ⟨rfl, kst_below h hb⟩

set_option maxRecDepth 100000 in
set_option maxHeartbeats 2000000 in
theorem sumS_any {W : World} {A seed : Nat} {l : List UInt8} (h : St W A seed l) (hl : l.length ≤ 1000000) :
    Calls Try.prog 9 #[ptr A] W fun e w' => e = .returned (.int .u64 (sum seed l : Nat)) ∧ Below W.heap.size W w' := by
  have K0 : Kst W A seed l W.drew := ⟨h, (Below.refl _ _).drew⟩
  have C1 := fun (V : World) (hV : Kst W A seed l V) => kst_left hV hl
  have C2 := fun (V : World) (hV : Kst W A seed l V) => kst_lseed hV hl
  have C3 := fun (V : World) (hV : Kst W A seed l V) => kst_sum hV
  have CV := fun (V : World) (hV : Kst W A seed l V) => kst_conv hV
  have m1 : l.length % 32 < 32 := by omega
  generalize l.length % 32 = m at *
  generalize lseed seed l = z at *
  generalize sum seed l = y at *
  generalize bs (rest l) = r at *
  have m2 : (m : Int) ≤ 32 := by omega
  have m3 : (0 : Int) ≤ (m : Int) := by omega
  replace K0 := hidI K0
  clear h
  unfold ptr at *
  go_enter Try.func9, Try.ntmps9
  go_wp2
  go_region_held3 (fun V => Kst W A seed l V) (first | exact K0.out | assumption | exact kst_drew (by assumption)) (first | (go_at_call 16; refine (C2 _ (by assumption)).mono ?_; rintro e w4 ⟨rfl, hk4⟩) | (go_at_call 12; refine (C1 _ (by assumption)).mono ?_; rintro e w4 ⟨rfl, rfl⟩) | (go_at_call 15; refine (C3 _ (by assumption)).mono ?_; rintro e w4 ⟨rfl, hk4⟩))
  all_goals
    clear C1 C2 C3 CV
    go_wp2
    go_ret
    exact ⟨rfl, hk4.2⟩
end Go.Proofs.Ytlmkdadhdeielaa
