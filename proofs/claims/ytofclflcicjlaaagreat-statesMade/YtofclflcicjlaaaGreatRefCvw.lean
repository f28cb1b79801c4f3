/-
  The reference's GetVint returns what the plain function says, for every text of at most a million bytes.
-/
import Derived.Test.YtofclflcicjlaaaGreatRefBvw
import Derived.Test.YtofclflcicjlaaaGreatLy
import Derived.Test.YtofclflcicjlaaaGreatSc
import Derived.Test.YtofclflcicjlaaaGreatSg
import Derived.Test.YtofclflcicjlaaaGreatBuh
import Derived.Test.YtofclflcicjlaaaGreatRefHxh
import Derived.Test.YtofclflcicjlaaaGreatPuh
import Derived.Test.YtofclflcicjlaaaGreatRpyh
import Derived.Test.YtofclflcicjlaaaGreatTyh
import Derived.Test.YtofclflcicjlaaaGreatRdb
import Derived.Laws.OwnMore
import Derived.Deep.RegionHeld3
namespace Go.Proofs.YtofclflcicjlaaaGreat
set_option maxRecDepth 100000
open Go.ChangeShapes Go.WideShapes Go.ChangeAt Go.RowKit

theorem tl_ne (t s : ByteArray) (h : ¬ t = s) : (t.toList == s.toList) = false := by
  rw [ByteArray.toList_eq, ByteArray.toList_eq, beq_eq_false_iff_ne]
  exact fun e => h (Go.WideShapes.bytes_inj e)

def Res (w W : World) : Prop := (∀ j, j < 3 → ∃ u, W.cell? ⟨w.heap.size, j, none⟩ = some u) ∧ (∀ j, W.frozen? ⟨w.heap.size, j, none⟩ = false) ∧ Below w.heap.size w W ∧ w.heap.size < W.heap.size
theorem res_init (w : World) : Res w (w.alloc (.cells #[.int .u64 0, .int .i64 0, .int .i64 0] 87)) :=
  ⟨fun j hj => by rw [World.cell?_alloc_at _ _ _ _ rfl]; exact ⟨_, Array.getElem?_eq_getElem (by simpa using hj)⟩, fun j => World.frozen?_alloc_at _ _ _ _ rfl, (Below.refl _ _).alloc (Nat.le_refl _) _, by simp⟩
theorem res_keep {w a b : World} (h : Res w a) (k : Below a.heap.size a b) : Res w b :=
  ⟨fun j hj => by rw [k.cell (p := ⟨w.heap.size, j, none⟩) h.2.2.2]; exact h.1 j hj, fun j => by rw [k.frozen (p := ⟨w.heap.size, j, none⟩) h.2.2.2]; exact h.2.1 j, h.2.2.1.trans (k.mono h.2.2.1.size), Nat.lt_of_lt_of_le h.2.2.2 k.size⟩
theorem res_drew {w a : World} (h : Res w a) : Res w a.drew := ⟨h.1, h.2.1, h.2.2.1.drew, h.2.2.2⟩

def GvRel (s : ByteArray) (A : Nat) (nv iv : Value) : Prop :=
  ∃ k x : Nat, A + k ≤ s.size ∧ k ≤ 10 ∧ iv = .int .i64 k ∧ (∀ c ∈ (s.data.toList.drop A).take k, 128 ≤ c.toNat) ∧ nv = .int .u64 x ∧ (k ≤ 9 → x = val ((s.data.toList.drop A).take k))

theorem drop_split (s : ByteArray) (A k : Nat) (h : A + k < s.size) : s.data.toList.drop A = (s.data.toList.drop A).take k ++ (s[A + k] :: s.data.toList.drop (A + k + 1)) := by
  have hk : k < (s.data.toList.drop A).length := by rw [List.length_drop, len_data]; omega
  have e : s[A + k] :: s.data.toList.drop (A + k + 1) = (s.data.toList.drop A).drop k := by
    rw [List.drop_eq_getElem_cons hk, List.getElem_drop, List.drop_drop]; rfl
  rw [e, List.take_append_drop]

theorem gv_stop (s : ByteArray) (A k : Nat) (hk : A + k < s.size) (hk10 : k < 10) (hp : ∀ c ∈ (s.data.toList.drop A).take k, 128 ≤ c.toNat) (hc : s[A + k].toNat < 128) :
    numb (s.data.toList.drop A) = endd (val ((s.data.toList.drop A).take k) + s[A + k].toNat * 128 ^ k % 18446744073709551616) k s[A + k].toNat := by
  have hl := drop_take_len s A k (by omega)
  have e := drop_split s A k hk
  obtain ⟨f, hf⟩ : ∃ f, 10 - k = f + 1 := ⟨9 - k, by omega⟩
  have h := numb_at ((s.data.toList.drop A).take k) (s[A + k] :: s.data.toList.drop (A + k + 1)) hp (by omega)
  rw [← e, hl, hf, numF, if_pos hc] at h
  exact h
theorem gv_more (s : ByteArray) (A k : Nat) (hk : A + k = s.size) (hk10 : k < 10) (hp : ∀ c ∈ (s.data.toList.drop A).take k, 128 ≤ c.toNat) : numb (s.data.toList.drop A) = (0, 0, 2) := by
  have hl := drop_take_len s A k (by omega)
  have e : (s.data.toList.drop A).take k = s.data.toList.drop A := List.take_of_length_le (by rw [List.length_drop, len_data]; omega)
  rw [e] at hp hl
  have h := numb_at (s.data.toList.drop A) [] hp (by omega)
  obtain ⟨f, hf⟩ : ∃ f, 10 - k = f + 1 := ⟨9 - k, by omega⟩
  rw [List.append_nil, hl, hf, numF] at h
  exact h
theorem gv_form (s : ByteArray) (A : Nat) (hk : A + 10 ≤ s.size) (hp : ∀ c ∈ (s.data.toList.drop A).take 10, 128 ≤ c.toNat) : numb (s.data.toList.drop A) = (0, 0, 3) := by
  have hl := drop_take_len s A 10 hk
  have h := numb_at ((s.data.toList.drop A).take 10) ((s.data.toList.drop A).drop 10) hp (by omega)
  rw [List.take_append_drop, hl, numF] at h
  exact h
theorem gv_step (s : ByteArray) (A k : Nat) (hk : A + k < s.size) (hp : ∀ c ∈ (s.data.toList.drop A).take k, 128 ≤ c.toNat) (hc : ¬ s[A + k].toNat < 128) :
    ∀ c ∈ (s.data.toList.drop A).take (k + 1), 128 ≤ c.toNat := by
  intro c hmem
  rw [drop_snoc s A k hk, List.mem_append] at hmem
  rcases hmem with hm | hm
  · exact hp c hm
  · simp at hm; subst hm; omega
theorem gv_val (s : ByteArray) (A k : Nat) (hk : A + k < s.size) (h9 : k + 1 ≤ 9) :
    val ((s.data.toList.drop A).take k) + s[A + k].toNat % 128 * 128 ^ k % 18446744073709551616 = val ((s.data.toList.drop A).take (k + 1)) := by
  rw [drop_snoc s A k hk, val_snoc, drop_take_len s A k (by omega)]
  congr 1
  apply Nat.mod_eq_of_lt
  have h1 : (128 : Nat) ^ k ≤ 128 ^ 8 := Nat.pow_le_pow_right (by decide) (by omega)
  have h2 : s[A + k].toNat % 128 * 128 ^ k ≤ 127 * 128 ^ 8 := Nat.mul_le_mul (by omega) h1
  have e : (128 : Nat) ^ 8 = 72057594037927936 := by decide
  rw [e] at h2
  omega
theorem cut_mid (s : ByteArray) (A k : Nat) (hk : A + k < s.size) : s.extract A (A + k + 1) = bs ((s.data.toList.drop A).take k ++ [s[A + k]]) := by
  apply Go.WideShapes.bytes_inj
  rw [bs_data, ← drop_snoc s A k hk, ByteArray.data_extract, Array.toList_extract]
  show (s.data.toList.drop A).take (A + k + 1 - A) = _
  rw [show A + k + 1 - A = k + 1 from by omega]
theorem gv_lt (l : List UInt8) (c k : Nat) (hl : l.length = k) (hk : k ≤ 9) (hc : c < 128) : val l + c * 128 ^ k % 18446744073709551616 < 18446744073709551616 := by
  have hv := val_lt l
  rw [hl] at hv
  have hcases : k = 9 ∨ k ≤ 8 := by omega
  rcases hcases with rfl | h8
  · have h9' : (128 : Nat) ^ 9 = 9223372036854775808 := by decide
    rw [h9'] at hv ⊢; omega
  · have h1 : (128 : Nat) ^ k ≤ 128 ^ 8 := Nat.pow_le_pow_right (by decide) h8
    have h8' : (128 : Nat) ^ 8 = 72057594037927936 := by decide
    have h2 : c * 128 ^ k ≤ 127 * 128 ^ 8 := Nat.mul_le_mul (by omega) h1
    rw [h8'] at h1 h2
    omega

set_option maxRecDepth 100000 in
set_option maxHeartbeats 2000000 in
theorem refGetv_any (s : ByteArray) (a : Int) (w : World) (hs : s.size ≤ 1000000) :
    Calls Tryz.prog 33 #[.string s, .int .i64 a] w fun e w' => e = .returned (agg3v (getAt numb s.data.toList a)) ∧ Below w.heap.size w w' := by
  by_cases h1 : a < 0
  · have N : Hid (getAt numb s.data.toList a = (0, 0, 1)) := getAt_lo numb s a (.inl h1)
    go_enter Tryz.func33, Tryz.ntmps33
    go_wp2
    exact bodyPost_ret (v := .agg #[.int .u64 0, .int .i64 0, .int .i64 1]) (by simp [results, Tryz.results33, go_sem]) rfl ⟨ret_agg N.out, (Below.refl _ _).alloc (Nat.le_refl _) _⟩
  · obtain ⟨A, rfl⟩ := Int.eq_ofNat_of_zero_le (show 0 ≤ a by omega)
    by_cases h2 : s.size < A
    · have N : Hid (getAt numb s.data.toList A = (0, 0, 1)) := getAt_lo numb s A (.inr (by omega))
      go_enter Tryz.func33, Tryz.ntmps33
      go_wp2
      exact bodyPost_ret (v := .agg #[.int .u64 0, .int .i64 0, .int .i64 1]) (by simp [results, Tryz.results33, go_sem]) rfl ⟨ret_agg N.out, (Below.refl _ _).alloc (Nat.le_refl _) _⟩
    · go_enter Tryz.func33, Tryz.ntmps33
      go_wp2
      go_loop [5, 6] (fun nv iv => GvRel s A nv iv) (fun _ iv => 10 - (intOf iv).toNat)
      case atStart => exact ⟨0, 0, by omega, by omega, rfl, by simp, rfl, by simp [val]⟩
      case round =>
        obtain ⟨k, x, hk, hk10, rfl, hp, rfl, hx⟩ := hrel
        by_cases hlt : k < 10
        · by_cases hend : A + k < s.size
          · obtain rfl := hx (by omega)
            have hl := drop_take_len s A k (by omega)
            have hb := num_bits' ((s.data.toList.drop A).take k) s[A + k] k hl (by omega)
            clear hx
            by_cases hc : s[A + k].toNat < 128
            · have N0 := gv_stop s A k hend hlt hp hc
              have hx64 := gv_lt ((s.data.toList.drop A).take k) s[A + k].toNat k hl (by omega) hc
              have hve := vb_ended ((s.data.toList.drop A).take k) hp s[A + k] hc (by omega)
              rw [← bs_inj, ← cut_mid s A k hend, hl] at hve
              rw [Nat.mod_eq_of_lt hc] at hb
              generalize (val ((s.data.toList.drop A).take k) + s[A + k].toNat * 128 ^ k % 18446744073709551616) = y at *
              have hput := fun w => refPut_any y hx64 w
              have hy : (y : Int) ≤ 18446744073709551615 := by omega
              clear hx64
              have wr1 : IntKind.i64.wrap ((A : Int) + k) = (A : Int) + k := by rw [IntKind.wrap_i64]; omega
              have wr2 : IntKind.i64.wrap ((A : Int) + k + 1) = (A : Int) + k + 1 := by rw [IntKind.wrap_i64]; omega
              have hsl : ∀ W : World, (Instr.slice 9 (.string s) (some (.int .i64 (A : Int))) (some (.int .i64 ((A : Int) + k + 1))) none).run Tryz.prog W = .ok (.string (s.extract A (A + k + 1))) W := fun W => by
                have h := run_slice_string (P := Tryz.prog) W 9 s .i64 .i64 (A : Int) ((A : Int) + k + 1) Tryz.underlying9 (by omega) (by omega) (by omega)
                rw [show ((A : Int) + k + 1).toNat = A + k + 1 from by omega, Int.toNat_natCast] at h
                exact h
              by_cases hbad : badEnd k s[A + k].toNat
              · have N : Hid (getAt numb s.data.toList A = (0, 0, 3)) := getAt_no numb s A (by omega) (by omega) 0 0 3 (by rw [Int.toNat_natCast, N0, endd_bad _ _ _ hbad]) (by decide)
                have e1 := tl_ne (bs (vb y)) (s.extract A (A + k + 1)) (fun h => hve.1 h hbad)
                clear hve N0
                generalize bs (vb y) = t at *
                go_wp2
                go_region_held3 (fun W => Res w W) (first | exact res_init w | exact res_drew (res_init w) | exact res_keep (by assumption) (by assumption) | exact res_drew (by assumption) | assumption) (first | (go_at_call 28; refine (hput _).mono ?_; rintro e w4 ⟨rfl, hb4⟩))
                all_goals
                  obtain ⟨c012, f012, hbw, hBlt⟩ : Res w w4 := by assumption
                  obtain ⟨u0, c0⟩ := c012 0 (by omega)
                  obtain ⟨u1, c1⟩ := c012 1 (by omega)
                  obtain ⟨u2, c2⟩ := c012 2 (by omega)
                  clear hb4 hput
                  go_wp2
                  exact bodyPost_ret (v := .agg #[.int .u64 0, .int .i64 0, .int .i64 3]) (by simp [results, Tryz.results33, go_sem, c0, c1, c2]) rfl ⟨ret_agg N.out, ((hbw.setCell (Nat.le_refl _) _).setCell (Nat.le_refl _) _).setCell (Nat.le_refl _) _⟩
              · have N : Hid (getAt numb s.data.toList A = (y, A + (k + 1), 0)) := getAt_ok numb s A (by omega) (by omega) y (k + 1) (by rw [Int.toNat_natCast, N0, endd_good _ _ _ hbad])
                have e0 : bs (vb y) = s.extract A (A + k + 1) := hve.2 hbad
                have e1 : ((bs (vb y)).toList == (s.extract A (A + k + 1)).toList) = true := by rw [e0]; exact beq_self_eq_true _
                clear hve N0 e0
                generalize bs (vb y) = t at *
                go_wp2
                go_region_held3 (fun W => Res w W) (first | exact res_init w | exact res_drew (res_init w) | exact res_keep (by assumption) (by assumption) | exact res_drew (by assumption) | assumption) (first | (go_at_call 28; refine (hput _).mono ?_; rintro e w4 ⟨rfl, hb4⟩))
                all_goals
                  obtain ⟨c012, f012, hbw, hBlt⟩ : Res w w4 := by assumption
                  obtain ⟨u0, c0⟩ := c012 0 (by omega)
                  obtain ⟨u1, c1⟩ := c012 1 (by omega)
                  obtain ⟨u2, c2⟩ := c012 2 (by omega)
                  clear hb4 hput
                  go_wp2
                  exact bodyPost_ret (v := .agg #[.int .u64 y, .int .i64 ((A : Int) + k + 1), .int .i64 0]) (by simp [results, Tryz.results33, go_sem, c0, c1, c2]) rfl ⟨ret_agg' N.out (by omega), ((hbw.setCell (Nat.le_refl _) _).setCell (Nat.le_refl _) _).setCell (Nat.le_refl _) _⟩
            · go_wp2
              go_round
              case rel => exact ⟨k + 1, _, by omega, by omega, by go_num, gv_step s A k hend hp hc, rfl, fun h9 => gv_val s A k hend h9⟩
              case measure => simp [intOf]; omega
          · have N : Hid (getAt numb s.data.toList A = (0, 0, 2)) := getAt_no numb s A (by omega) (by omega) 0 0 2 (by rw [Int.toNat_natCast]; exact gv_more s A k (by omega) hlt hp) (by decide)
            clear hx
            go_wp2
            exact bodyPost_ret (v := .agg #[.int .u64 0, .int .i64 0, .int .i64 2]) (by simp [results, Tryz.results33, go_sem]) rfl ⟨ret_agg N.out, (Below.refl _ _).alloc (Nat.le_refl _) _⟩
        · obtain rfl : k = 10 := by omega
          have N : Hid (getAt numb s.data.toList A = (0, 0, 3)) := getAt_no numb s A (by omega) (by omega) 0 0 3 (by rw [Int.toNat_natCast]; exact gv_form s A hk hp) (by decide)
          clear hx
          go_wp2
          exact bodyPost_ret (v := .agg #[.int .u64 0, .int .i64 0, .int .i64 3]) (by simp [results, Tryz.results33, go_sem]) rfl ⟨ret_agg N.out, (Below.refl _ _).alloc (Nat.le_refl _) _⟩
end Go.Proofs.YtofclflcicjlaaaGreat
