/-
  Package chance, the encoder: New, Bytes; methods of nil.
-/
import Derived.Test.YtbmjehpkcelogaaDi
namespace Go.Proofs.Ytbmjehpkcelogaa
open Go.ChangeShapes Go.WideShapes Go.ChangeAt Go.RowKit
open Go.ChangeMaps (open_string shut_string)

/-- An encoder of its own block. -/
def F0 (x y z : Value) : Array Value := #[x, y, z]
theorem fit0 : Fit F0 0 := by
  intro x y z
  refine ⟨rfl, rfl, rfl, fun u => rfl, fun u => rfl, fun u => rfl⟩
/-- An encoder that a call handed out. -/
def Ec (W : World) (A : Nat) (v : Value) (st : Nat × Nat × Nat) : Prop := En F0 61 W A v st.1 st.2.1 st.2.2
theorem new_any (w : World) : Calls Try.prog 9 #[] w fun e w' => e = .returned (ptr w.heap.size) ∧ Ec w' w.heap.size (.slice none 0 0) st0 ∧ Chg (fun _ => False) w w' := by
  go_enter Try.func9, Try.ntmps9
  go_wp2
  go_ret
  exact ⟨rfl, ⟨blk_new _ _ _, World.ownsRow_nil _ _ _ _, by simp [Value.ownBlock], by decide⟩, chg_alloc (chg_refl _ _) _⟩
theorem bit_nil (p b : Int) (W : World) : Calls Try.prog 14 #[.pointer none, .int .i64 p, .int .i64 b] W fun e W' => e = .returned (.tuple #[]) ∧ W = W' := by
  go_enter Try.func14, Try.ntmps14
  go_wp2
  refine bodyPost_ret (results_none rfl _ _ _) rfl ?_
  exact ⟨rfl, rfl⟩
theorem direct_nil (x : Nat) (n : Int) (W : World) : Calls Try.prog 12 #[.pointer none, .int .u64 x, .int .i64 n] W fun e W' => e = .returned (.tuple #[]) ∧ W = W' := by
  go_enter Try.func12, Try.ntmps12
  go_wp2
  refine bodyPost_ret (results_none rfl _ _ _) rfl ?_
  exact ⟨rfl, rfl⟩
theorem bytes_nil (W : World) : Calls Try.prog 16 #[.pointer none] W fun e W' => e = .returned (.string (bs [])) ∧ W = W' := by
  go_enter Try.func16, Try.ntmps16
  go_wp2
  go_ret
  exact ⟨rfl, rfl⟩

def BtRel (F : Value → Value → Value → Array Value) (t : TypeId) (A : Nat) (v : Value) (j L R : Nat) (W : World) (sv iv : Value) (wr : World) : Prop :=
  ∃ (q g cap : Nat), q ≤ 4 ∧ iv = .int .i64 (8 * (q : Int) - 8) ∧ sv = .slice (some ⟨g, 0, none⟩) (5 + j - q) cap ∧ En F t wr A v j L R ∧ wr.ownsRow 0 5 1 sv (5 + j - q) ((be (5 + j - q) (L / 256 ^ q)).map byteV) ∧ (∀ k, sv.ownBlock = some k → W.heap.size ≤ k) ∧ Chg (fun _ => False) W wr
theorem be_last (n L q b : Nat) (hb : b = L % 4294967296 / 256 ^ q % 256) (hq : q ≤ 3) : be n (L / 256 ^ (q + 1)) ++ [UInt8.ofNat b] = be (n + 1) (L / 256 ^ q) := by
  rw [be, Nat.div_div_eq_div_mul, ← Nat.pow_succ]
  congr 2
  apply UInt8.toNat_inj.1
  rw [UInt8.toNat_ofNat', UInt8.toNat_ofNat', hb]
  rcases (by omega : q = 0 ∨ q = 1 ∨ q = 2 ∨ q = 3) with h | h | h | h <;> subst h <;> simp only [Nat.reducePow] <;> omega
theorem be_zero (n X : Nat) (h : X < 256 ^ n) : [(0 : UInt8)] ++ be n X = be (n + 1) X := by
  induction n generalizing X with
  | zero => have : X = 0 := by simpa using h
            subst this; rfl
  | succ n ih =>
    rw [be, ← List.append_assoc, ih (X / 256) (by rw [Nat.pow_succ] at h; exact (Nat.div_lt_iff_lt_mul (by decide)).2 h)]
    rfl
set_option maxRecDepth 100000 in
set_option maxHeartbeats 2000000 in
theorem bytes_any {F : Value → Value → Value → Array Value} {t : TypeId} (hF : Fit F 0) (A : Nat) (v : Value) (j L R : Nat) (W : World) (h : En F t W A v j L R) (hL : L < 256 ^ (4 + j)) (hj : j ≤ 90000) :
    Calls Try.prog 16 #[ptr A] W fun e W' => e = .returned (.string (bs (be (5 + j) L))) ∧ Chg (fun _ => False) W W' := by
  obtain ⟨i0, hi0, hz0, hz1, hz2⟩ := info_parts info5
  obtain ⟨ad, cp, rfl, hl, hnil, hnews⟩ := own_news h.2.1
  have c0 : W.cell? ⟨A, 0, none⟩ = some (.slice ad j cp) := by rw [blk_cell h.1]; exact (hF _ _ _).1
  have c0' : (W.alloc (.cells #[.int .u8 0] 5)).cell? ⟨A, 0, none⟩ = some (.slice ad j cp) := by rw [blk_cell (blk_alloc h.1 _)]; exact (hF _ _ _).1
  have hlt := blk_lt h.1
  have hX : L / 4294967296 < 256 ^ j := by
    rw [Nat.pow_add] at hL
    exact (Nat.div_lt_iff_lt_mul (by decide)).2 (by simp only [Nat.reducePow] at hL; omega)
  have hz := be_zero j _ hX
  have hnews' : ∀ x, ad = some x → ∀ i u, ((be j (L / 4294967296)).map byteV)[i]? = some u → (W.alloc (.cells #[.int .u8 0] 5)).cell? (x.add i) = some u := fun x hx i u hu => by
    have h1 := hnews x hx i u hu
    have h2 := World.block_lt_of_cell? _ _ h1
    rw [World.cell?_of_block (Below.heap_alloc _ _ _ h2)]; exact h1
  unfold ptr
  go_enter Try.func16, Try.ntmps16
  go_wp2_with (first | (at_builtin; refine wpList_pushS _ rfl (.tmp 7) (.tmp 11) 51 rfl 5 i0 (.int .u8 0) 1 1 Try.underlying51 hi0 hz0 hz1 hz2 rfl (by decide) (by decide) (.slice (some ⟨W.heap.size, 0, none⟩) 1 1) 1 _ rfl (own_lit W 0 0 rfl) ad j cp _ rfl hl hnil hnews' (bytes_one _) (by omega) ?_) | go_in)
  intro v1 w1 r1 r2 r3
  have r1 : w1.ownsRow 0 5 1 v1 (1 + j) ((be (j + 1) (L / 4294967296)).map byteV) := by rw [← hz]; exact r1
  have n1 : Chg (fun _ => False) W w1 := by
    refine chg_grown (chg_alloc (chg_refl _ _) _) r2 (fun k hk hlt => ?_)
    simp [Value.ownBlock] at hk; omega
  have f1 : ∀ k, v1.ownBlock = some k → W.heap.size ≤ k := fun k hk => by
    rcases r3 k hk with h | h
    · simp [Value.ownBlock] at h; omega
    · simp at h; omega
  have E1 := en_kept h n1 (fun _ _ h => h)
  have HX := Hid.intro hL
  have HF1 := Hid.intro f1
  have FT : Hid (∀ k, foot A (.slice ad j cp) k → k < W.heap.size) := en_lt h
  clear r2 r3 hz hX hnews hnews' hl hnil hL f1 c0' c0
  go_wp2_with fail
  go_loopw [3, 4] (fun sv iv wr => BtRel F t A (.slice ad j cp) j L R W sv iv wr) (fun _ iv _ => (intOf iv + 8).toNat)
  case atStart =>
    obtain ⟨g, cap, cur, hv1, _⟩ := own_at r1 (by omega)
    have e4 : 5 + j - 4 = 1 + j := by omega
    refine ⟨4, g, cap, Nat.le_refl _, by go_num, by rw [e4]; exact hv1, E1, ?_, HF1.out, n1⟩
    rw [e4, show 1 + j = j + 1 from by omega]
    simpa [Nat.add_comm] using r1
  case round =>
    clear r1 E1 n1 HF1 h
    obtain ⟨q, g, cap, hq, rfl, rfl, d1, d2, d3, d4⟩ := hrel
    have c1 : wr.cell? ⟨A, 1, none⟩ = some (lstV L) := by rw [blk_cell d1.1]; exact (hF _ _ _).2.1
    have hltr := blk_lt d1.1
    unfold lstV at c1
    obtain ⟨l, hlq⟩ : ∃ l, l = L % 4294967296 := ⟨_, rfl⟩
    rw [← hlq] at c1
    rcases (by omega : q = 0 ∨ q = 4 ∨ q = 3 ∨ q = 2 ∨ q = 1) with hh | hh | hh | hh | hh
    · subst hh
      simp only [Nat.sub_zero, Nat.pow_zero, Nat.div_one] at d2 ⊢
      have hcv := own_string d2
      have hpl : (8 * ((0 : Nat) : Int) - 8) = -8 := by omega
      rw [hpl]
      go_wp2
      go_ret
      exact ⟨rfl, d4⟩
    · subst hh
      have hpl : (8 * ((4 : Nat) : Int) - 8) = 24 := by omega
      rw [hpl]
      obtain ⟨b, hb⟩ : ∃ b, b = L % 4294967296 / 256 ^ 3 % 256 := ⟨_, rfl⟩
      have hb8 : b < 256 := by rw [hb]; exact Nat.mod_lt _ (by decide)
      have HB := Hid.intro (be_last (5 + j - 4) L 3 b hb (by omega))
      have hp : (2 : Int) ^ 24 = 16777216 := rfl
      have hsh : (l : Int) / 16777216 % 256 = (b : Int) := by rw [hb, hlq]; simp only [Nat.reducePow]; omega
      have hu8 : IntKind.u8.wrap ((l : Int) / 16777216) = (b : Int) := by rw [IntKind.wrap_u8]; exact hsh
      have hu0 : IntKind.u8.wrap (b : Int) = (b : Int) := by rw [IntKind.wrap_u8]; omega
      have D1 := Hid.intro d1
      have D3 := Hid.intro d3
      have D4 := Hid.intro d4
      clear hb hlq d1 d3 d4 hpl
      go_wp2_with (first | (at_builtin; refine wpList_push _ rfl (.tmp 17) (.tmp 25) 51 rfl i0 Try.underlying51 hi0 hz0 hz1 hz2 (.slice (some ⟨g, 0, none⟩) (5 + j - 4) cap) (5 + j - 4) _ rfl (World.ownsRow.alloc d2 _) (by omega) ⟨wr.heap.size, 0, none⟩ b (UInt8.ofNat b) (by rw [u8_of _ hb8]) rfl (by simp) ?_) | go_in)
      intro v2 w2 g1 g2 g3
      have g1 : w2.ownsRow 0 5 1 v2 (5 + j - 4 + 1) ((be (5 + j - 4 + 1) (L / 256 ^ 3)).map byteV) := by rw [← HB.out, List.map_append]; first | exact g1 | simpa using g1
      have k1 : Chg (fun k => W.heap.size ≤ k) wr w2 := chg_grown (chg_alloc (chg_refl _ _) _) g2 (fun k hk _ => D3.out k hk)
      obtain ⟨g', cap', cur', rfl, _⟩ := own_at g1 (by omega)
      have e5 : 5 + j - 3 = 5 + j - 4 + 1 := by omega
      go_wp2
      go_roundw
      case rel =>
        refine ⟨3, g', cap', by omega, by go_num, by rw [e5], en_kept D1.out k1 (fun k hk h => by have := FT.out k hk; omega), ?_, ?_, chg_trans D4.out k1 (fun k hk h => absurd h (by omega))⟩
        · rw [e5]; exact g1
        · intro k hk
          rcases g3 k hk with h | h
          · exact D3.out k h
          · have := chg_size D4.out; simp at h; omega
      case measure => simp [intOf]
    · subst hh
      have hpl : (8 * ((3 : Nat) : Int) - 8) = 16 := by omega
      rw [hpl]
      obtain ⟨b, hb⟩ : ∃ b, b = L % 4294967296 / 256 ^ 2 % 256 := ⟨_, rfl⟩
      have hb8 : b < 256 := by rw [hb]; exact Nat.mod_lt _ (by decide)
      have HB := Hid.intro (be_last (5 + j - 3) L 2 b hb (by omega))
      have hp : (2 : Int) ^ 16 = 65536 := rfl
      have hsh : (l : Int) / 65536 % 256 = (b : Int) := by rw [hb, hlq]; simp only [Nat.reducePow]; omega
      have hu8 : IntKind.u8.wrap ((l : Int) / 65536) = (b : Int) := by rw [IntKind.wrap_u8]; exact hsh
      have hu0 : IntKind.u8.wrap (b : Int) = (b : Int) := by rw [IntKind.wrap_u8]; omega
      have D1 := Hid.intro d1
      have D3 := Hid.intro d3
      have D4 := Hid.intro d4
      clear hb hlq d1 d3 d4 hpl
      go_wp2_with (first | (at_builtin; refine wpList_push _ rfl (.tmp 17) (.tmp 25) 51 rfl i0 Try.underlying51 hi0 hz0 hz1 hz2 (.slice (some ⟨g, 0, none⟩) (5 + j - 3) cap) (5 + j - 3) _ rfl (World.ownsRow.alloc d2 _) (by omega) ⟨wr.heap.size, 0, none⟩ b (UInt8.ofNat b) (by rw [u8_of _ hb8]) rfl (by simp) ?_) | go_in)
      intro v2 w2 g1 g2 g3
      have g1 : w2.ownsRow 0 5 1 v2 (5 + j - 3 + 1) ((be (5 + j - 3 + 1) (L / 256 ^ 2)).map byteV) := by rw [← HB.out, List.map_append]; first | exact g1 | simpa using g1
      have k1 : Chg (fun k => W.heap.size ≤ k) wr w2 := chg_grown (chg_alloc (chg_refl _ _) _) g2 (fun k hk _ => D3.out k hk)
      obtain ⟨g', cap', cur', rfl, _⟩ := own_at g1 (by omega)
      have e5 : 5 + j - 2 = 5 + j - 3 + 1 := by omega
      go_wp2
      go_roundw
      case rel =>
        refine ⟨2, g', cap', by omega, by go_num, by rw [e5], en_kept D1.out k1 (fun k hk h => by have := FT.out k hk; omega), ?_, ?_, chg_trans D4.out k1 (fun k hk h => absurd h (by omega))⟩
        · rw [e5]; exact g1
        · intro k hk
          rcases g3 k hk with h | h
          · exact D3.out k h
          · have := chg_size D4.out; simp at h; omega
      case measure => simp [intOf]
    · subst hh
      have hpl : (8 * ((2 : Nat) : Int) - 8) = 8 := by omega
      rw [hpl]
      obtain ⟨b, hb⟩ : ∃ b, b = L % 4294967296 / 256 ^ 1 % 256 := ⟨_, rfl⟩
      have hb8 : b < 256 := by rw [hb]; exact Nat.mod_lt _ (by decide)
      have HB := Hid.intro (be_last (5 + j - 2) L 1 b hb (by omega))
      have hp : (2 : Int) ^ 8 = 256 := rfl
      have hsh : (l : Int) / 256 % 256 = (b : Int) := by rw [hb, hlq]; simp only [Nat.reducePow]; omega
      have hu8 : IntKind.u8.wrap ((l : Int) / 256) = (b : Int) := by rw [IntKind.wrap_u8]; exact hsh
      have hu0 : IntKind.u8.wrap (b : Int) = (b : Int) := by rw [IntKind.wrap_u8]; omega
      have D1 := Hid.intro d1
      have D3 := Hid.intro d3
      have D4 := Hid.intro d4
      clear hb hlq d1 d3 d4 hpl
      go_wp2_with (first | (at_builtin; refine wpList_push _ rfl (.tmp 17) (.tmp 25) 51 rfl i0 Try.underlying51 hi0 hz0 hz1 hz2 (.slice (some ⟨g, 0, none⟩) (5 + j - 2) cap) (5 + j - 2) _ rfl (World.ownsRow.alloc d2 _) (by omega) ⟨wr.heap.size, 0, none⟩ b (UInt8.ofNat b) (by rw [u8_of _ hb8]) rfl (by simp) ?_) | go_in)
      intro v2 w2 g1 g2 g3
      have g1 : w2.ownsRow 0 5 1 v2 (5 + j - 2 + 1) ((be (5 + j - 2 + 1) (L / 256 ^ 1)).map byteV) := by rw [← HB.out, List.map_append]; first | exact g1 | simpa using g1
      have k1 : Chg (fun k => W.heap.size ≤ k) wr w2 := chg_grown (chg_alloc (chg_refl _ _) _) g2 (fun k hk _ => D3.out k hk)
      obtain ⟨g', cap', cur', rfl, _⟩ := own_at g1 (by omega)
      have e5 : 5 + j - 1 = 5 + j - 2 + 1 := by omega
      go_wp2
      go_roundw
      case rel =>
        refine ⟨1, g', cap', by omega, by go_num, by rw [e5], en_kept D1.out k1 (fun k hk h => by have := FT.out k hk; omega), ?_, ?_, chg_trans D4.out k1 (fun k hk h => absurd h (by omega))⟩
        · rw [e5]; exact g1
        · intro k hk
          rcases g3 k hk with h | h
          · exact D3.out k h
          · have := chg_size D4.out; simp at h; omega
      case measure => simp [intOf]
    · subst hh
      have hpl : (8 * ((1 : Nat) : Int) - 8) = 0 := by omega
      rw [hpl]
      obtain ⟨b, hb⟩ : ∃ b, b = L % 4294967296 / 256 ^ 0 % 256 := ⟨_, rfl⟩
      have hb8 : b < 256 := by rw [hb]; exact Nat.mod_lt _ (by decide)
      have HB := Hid.intro (be_last (5 + j - 1) L 0 b hb (by omega))
      have hp : (2 : Int) ^ 0 = 1 := rfl
      have hsh : (l : Int) % 256 = (b : Int) := by rw [hb, hlq]; simp only [Nat.reducePow]; omega
      have hu8 : IntKind.u8.wrap ((l : Int)) = (b : Int) := by rw [IntKind.wrap_u8]; exact hsh
      have hu0 : IntKind.u8.wrap (b : Int) = (b : Int) := by rw [IntKind.wrap_u8]; omega
      have D1 := Hid.intro d1
      have D3 := Hid.intro d3
      have D4 := Hid.intro d4
      clear hb hlq d1 d3 d4 hpl
      go_wp2_with (first | (at_builtin; refine wpList_push _ rfl (.tmp 17) (.tmp 25) 51 rfl i0 Try.underlying51 hi0 hz0 hz1 hz2 (.slice (some ⟨g, 0, none⟩) (5 + j - 1) cap) (5 + j - 1) _ rfl (World.ownsRow.alloc d2 _) (by omega) ⟨wr.heap.size, 0, none⟩ b (UInt8.ofNat b) (by rw [u8_of _ hb8]) rfl (by simp) ?_) | go_in)
      intro v2 w2 g1 g2 g3
      have g1 : w2.ownsRow 0 5 1 v2 (5 + j - 1 + 1) ((be (5 + j - 1 + 1) (L / 256 ^ 0)).map byteV) := by rw [← HB.out, List.map_append]; first | exact g1 | simpa using g1
      have k1 : Chg (fun k => W.heap.size ≤ k) wr w2 := chg_grown (chg_alloc (chg_refl _ _) _) g2 (fun k hk _ => D3.out k hk)
      obtain ⟨g', cap', cur', rfl, _⟩ := own_at g1 (by omega)
      have e5 : 5 + j - 0 = 5 + j - 1 + 1 := by omega
      go_wp2
      go_roundw
      case rel =>
        refine ⟨0, g', cap', by omega, by go_num, by rw [e5], en_kept D1.out k1 (fun k hk h => by have := FT.out k hk; omega), ?_, ?_, chg_trans D4.out k1 (fun k hk h => absurd h (by omega))⟩
        · rw [e5]; exact g1
        · intro k hk
          rcases g3 k hk with h | h
          · exact D3.out k h
          · have := chg_size D4.out; simp at h; omega
      case measure => simp [intOf]
end Go.Proofs.Ytbmjehpkcelogaa
