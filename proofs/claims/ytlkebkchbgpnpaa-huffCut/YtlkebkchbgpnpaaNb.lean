/-
  Numbers by numbers.
-/
import Derived.Test.YtlkebkchbgpnpaaFq
import Derived.Test.YtlkebkchbgpnpaaCd
namespace Go.Proofs.Ytlkebkchbgpnpaa
open Go.ChangeShapes Go.WideShapes Go.ChangeAt Go.RowKit
open Go.ChangeMaps (open_string shut_string)

theorem one_new3 (w : World) (x : Value) (t : TypeId) : ∀ j u, [x][j]? = some u → (w.alloc (.cells #[x] t)).cell? ((⟨w.heap.size, 0, none⟩ : Addr).add j) = some u := by
  intro j u hj
  rw [Addr.add_lit, blk_cell (blk_new w #[x] t), ← hj]
  simp
theorem info2 : (Try.prog.info? 2).map (fun i => (i.zero, i.size, i.bytes)) = some (some (.int .i64 0), 1, 8) := by kernel_rfl
theorem iv_one (z : Int) : ∀ u ∈ [Value.int .i64 z], u.oneCell' = true := by
  intro u hu
  simp only [List.mem_singleton] at hu
  rw [hu]; rfl
theorem wrap64_fits (x : Int) : -9223372036854775808 ≤ wrap64 x ∧ wrap64 x ≤ 9223372036854775807 := by
  unfold wrap64; omega
/-- So far: i numbers. -/
def NbRel (w : World) (lv iv : Value) (wr : World) : Prop :=
  ∃ (i : Nat) (zs : List Int), i ≤ 60 ∧ iv = .int .i64 i ∧ zs.length = i ∧ FI zs ∧ wr.ownsRow w.heap.size 2 1 lv i (ivs zs) ∧ Below w.heap.size w wr
theorem nb_step {w wr w8 : World} {lv v8 : Value} {zs : List Int} {E : Int} {i : Nat} {o : Obj} (d1 : wr.ownsRow w.heap.size 2 1 lv i (ivs zs)) (hl : zs.length = i) (hf : FI zs) (d2 : Below w.heap.size w wr)
    (o8 : w8.ownsRow 0 2 1 v8 (i + 1) (ivs zs ++ [.int .i64 E])) (g8 : (wr.alloc o).grownBy w8 lv.ownBlock) (m8 : Moved (wr.alloc o) lv v8) (hE : -9223372036854775808 ≤ E ∧ E ≤ 9223372036854775807) (hi : i < 60) :
    NbRel w v8 (.int .i64 ((i + 1 : Nat) : Int)) w8 := by
  have fu : From w.heap.size lv := fun k hk => (d1.lt k hk).1
  have hs : w.heap.size ≤ (wr.alloc o).heap.size := by have := d2.size; simp; omega
  refine ⟨i + 1, zs ++ [E], by omega, rfl, by simp [hl], ?_, ?_, below_grown (d2.alloc d2.size _) g8 hs (fun k hk => fu k hk)⟩
  · intro z hz
    rcases List.mem_append.1 hz with h | h
    · exact hf z h
    · simp only [List.mem_singleton] at h; rw [h]; exact hE
  · refine own_up (base := 0) ?_ (from_moved fu m8 hs)
    rw [show ivs (zs ++ [E]) = ivs zs ++ [.int .i64 E] from by simp [ivs, iv]]
    exact o8
theorem wrap_fits (x : Int) : -9223372036854775808 ≤ IntKind.i64.wrap x ∧ IntKind.i64.wrap x ≤ 9223372036854775807 := by
  rw [IntKind.wrap_i64]; omega
set_option maxRecDepth 100000 in
set_option maxHeartbeats 2000000 in
theorem numbers_any (a : Option Addr) (n cap : Nat) (w : World) (h : RU w a n) (hn : n ≤ 9223372036854775807) :
    Calls Try.prog 17 #[.slice a n cap] w fun e w' => ∃ v zs, e = .returned v ∧ FI zs ∧ zs.length ≤ 60 ∧ w'.ownsRow w.heap.size 2 1 v zs.length (ivs zs) ∧ Below w.heap.size w w' := by
  obtain ⟨i0, hi0, hz0, hs0, hb0⟩ := info_all info2
  have HX : Hid (RU w a n) := h
  have ST : Hid (NbRel w (.slice none 0 0) (.int .i64 0) w) := ⟨0, [], by omega, rfl, rfl, fun z hz => by simp at hz, World.ownsRow_nil _ _ _ _, Below.refl _ _⟩
  clear h
  go_enter Try.func17, Try.ntmps17
  go_wp2_with fail
  go_loopw [3, 4] (fun lv iv wr => NbRel w lv iv wr) (fun _ iv _ => 61 - (intOf iv).toNat)
  case atStart => exact ST.out
  case round =>
    clear ST
    obtain ⟨i, zs, hi, rfl, hl, hf, d1, d2⟩ := hrel
    by_cases hlt : i < n
    · by_cases h60 : i < 60
      · obtain ⟨x, rfl, hx⟩ := HX.out (by omega)
        obtain ⟨u, hu0, hu1, cx⟩ := hx i hlt
        rw [← d2.cell (World.block_lt_of_cell? _ _ cx)] at cx
        have d3 := own_low d1 (Nat.zero_le _)
        have hq0 : 0 ≤ (IntKind.u16.wrap (u.tdiv 1024)).tmod 6 ∧ (IntKind.u16.wrap (u.tdiv 1024)).tmod 6 < 6 := by
          rw [Int.tdiv_eq_ediv_of_nonneg hu0, IntKind.wrap_u16, Int.tmod_eq_emod_of_nonneg (by omega)]
          omega
        obtain ⟨q, hq⟩ : ∃ q, (IntKind.u16.wrap (u.tdiv 1024)).tmod 6 = q := ⟨_, rfl⟩
        rw [hq] at hq0
        clear hx
        rcases (by omega : q = 0 ∨ q = 1 ∨ q = 2 ∨ q = 3 ∨ 4 ≤ q) with rfl | rfl | rfl | rfl | h4
        · go_wp2_with (at_builtin; refine wpList_push _ rfl (.tmp 55) (.tmp 57) 42 rfl 2 i0 (.int .i64 0) 1 8 Try.underlying42 hi0 hz0 hs0 hb0 rfl (by decide) (by decide) u3 i (ivs zs) rfl (World.ownsRow.alloc d3 _) ⟨wr.heap.size, 0, none⟩ 1 1 [.int .i64 _] rfl rfl (one_new3 _ _ _) (iv_one _) (by omega) ?_)
          intro v8 w8 o8 g8 m8
          have JJ := Hid.intro (nb_step d1 hl hf d2 o8 g8 m8 (by first | exact wrap_fits _ | exact wrap64_fits _ | omega) h60)
          obtain ⟨b8, cap8, rfl⟩ := own_slice o8 (by omega)
          clear o8 g8 m8 d1 d2 d3 hf
          go_wp2_with fail
          go_roundw
          case rel => exact JJ.out
          case measure => simp [intOf]; omega
        · go_wp2_with (at_builtin; refine wpList_push _ rfl (.tmp 55) (.tmp 57) 42 rfl 2 i0 (.int .i64 0) 1 8 Try.underlying42 hi0 hz0 hs0 hb0 rfl (by decide) (by decide) u3 i (ivs zs) rfl (World.ownsRow.alloc d3 _) ⟨wr.heap.size, 0, none⟩ 1 1 [.int .i64 _] rfl rfl (one_new3 _ _ _) (iv_one _) (by omega) ?_)
          intro v8 w8 o8 g8 m8
          have JJ := Hid.intro (nb_step d1 hl hf d2 o8 g8 m8 (by first | exact wrap_fits _ | exact wrap64_fits _ | omega) h60)
          obtain ⟨b8, cap8, rfl⟩ := own_slice o8 (by omega)
          clear o8 g8 m8 d1 d2 d3 hf
          go_wp2_with fail
          go_roundw
          case rel => exact JJ.out
          case measure => simp [intOf]; omega
        · go_wp2_with (at_builtin; refine wpList_push _ rfl (.tmp 55) (.tmp 57) 42 rfl 2 i0 (.int .i64 0) 1 8 Try.underlying42 hi0 hz0 hs0 hb0 rfl (by decide) (by decide) u3 i (ivs zs) rfl (World.ownsRow.alloc d3 _) ⟨wr.heap.size, 0, none⟩ 1 1 [.int .i64 _] rfl rfl (one_new3 _ _ _) (iv_one _) (by omega) ?_)
          intro v8 w8 o8 g8 m8
          have JJ := Hid.intro (nb_step d1 hl hf d2 o8 g8 m8 (by first | exact wrap_fits _ | exact wrap64_fits _ | omega) h60)
          obtain ⟨b8, cap8, rfl⟩ := own_slice o8 (by omega)
          clear o8 g8 m8 d1 d2 d3 hf
          go_wp2_with fail
          go_roundw
          case rel => exact JJ.out
          case measure => simp [intOf]; omega
        · go_wp2_with (at_builtin; refine wpList_push _ rfl (.tmp 55) (.tmp 57) 42 rfl 2 i0 (.int .i64 0) 1 8 Try.underlying42 hi0 hz0 hs0 hb0 rfl (by decide) (by decide) u3 i (ivs zs) rfl (World.ownsRow.alloc d3 _) ⟨wr.heap.size, 0, none⟩ 1 1 [.int .i64 _] rfl rfl (one_new3 _ _ _) (iv_one _) (by omega) ?_)
          intro v8 w8 o8 g8 m8
          have JJ := Hid.intro (nb_step d1 hl hf d2 o8 g8 m8 (by first | exact wrap_fits _ | exact wrap64_fits _ | omega) h60)
          obtain ⟨b8, cap8, rfl⟩ := own_slice o8 (by omega)
          clear o8 g8 m8 d1 d2 d3 hf
          go_wp2_with fail
          go_roundw
          case rel => exact JJ.out
          case measure => simp [intOf]; omega
        · have t0 : (q == 0) = false := by simp; omega
          have t1 : (q == 1) = false := by simp; omega
          have t2 : (q == 2) = false := by simp; omega
          have t3 : (q == 3) = false := by simp; omega
          clear h4 hq0
          go_wp2_with (at_builtin; refine wpList_push _ rfl (.tmp 55) (.tmp 57) 42 rfl 2 i0 (.int .i64 0) 1 8 Try.underlying42 hi0 hz0 hs0 hb0 rfl (by decide) (by decide) u3 i (ivs zs) rfl (World.ownsRow.alloc d3 _) ⟨wr.heap.size, 0, none⟩ 1 1 [.int .i64 _] rfl rfl (one_new3 _ _ _) (iv_one _) (by omega) ?_)
          intro v8 w8 o8 g8 m8
          have JJ := Hid.intro (nb_step d1 hl hf d2 o8 g8 m8 (by first | exact wrap_fits _ | exact wrap64_fits _ | omega) h60)
          obtain ⟨b8, cap8, rfl⟩ := own_slice o8 (by omega)
          clear o8 g8 m8 d1 d2 d3 hf
          go_wp2_with fail
          go_roundw
          case rel => exact JJ.out
          case measure => simp [intOf]; omega
      · have h61 : i = 60 := by omega
        have FIN : Hid (∃ v zs, (.returned u3 : Ending) = .returned v ∧ FI zs ∧ zs.length ≤ 60 ∧ wr.ownsRow w.heap.size 2 1 v zs.length (ivs zs) ∧ Below w.heap.size w wr) := ⟨u3, zs, rfl, hf, by omega, by rw [hl]; exact d1, d2⟩
        clear d1 d2 hf
        go_wp2_with fail
        go_ret
        exact FIN.out
    · have FIN : Hid (∃ v zs, (.returned u3 : Ending) = .returned v ∧ FI zs ∧ zs.length ≤ 60 ∧ wr.ownsRow w.heap.size 2 1 v zs.length (ivs zs) ∧ Below w.heap.size w wr) := ⟨u3, zs, rfl, hf, by omega, by rw [hl]; exact d1, d2⟩
      clear d1 d2 hf
      go_wp2_with fail
      go_ret
      exact FIN.out
end Go.Proofs.Ytlkebkchbgpnpaa
