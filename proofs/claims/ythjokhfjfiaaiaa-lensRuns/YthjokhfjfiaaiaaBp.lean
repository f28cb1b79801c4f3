/-
  Package bits, the writer: New, Put, Len, Bytes, for every number and every length: Put through its own method value, by the length of what is still to be put.
-/
import Derived.Test.YthjokhfjfiaaiaaBo
namespace Go.Proofs.Ythjokhfjfiaaiaa
open Go.ChangeShapes Go.WideShapes Go.ChangeAt Go.RowKit

theorem low_eq : ∀ n : Nat, n ≤ 8 → (((2 : Int) ^ n % 256 - 1) % 256) = ((2 ^ n - 1 : Nat) : Int) := by decide
theorem toEnd_any (at' r : Nat) (w : World) (h : at' ≤ 10000000) (hr : r = 8 - at' % 8) : Calls Try.prog 36 #[.int .i64 at'] w fun e w' => e = .returned (.int .i64 r) ∧ w = w' := by
  go_enter Try.func36, Try.ntmps36
  go_wp2
  go_ret
  exact ⟨ret_int (by omega), rfl⟩
theorem lowest_any (n L : Nat) (w : World) (h : n ≤ 8) (hL : L = 2 ^ n - 1) : Calls Try.prog 39 #[.int .i64 n] w fun e w' => e = .returned (.int .u8 L) ∧ w = w' := by
  have H : Hid (L = 2 ^ n - 1) := hL
  clear hL
  go_enter Try.func39, Try.ntmps39
  go_wp2
  go_ret
  exact ⟨ret_int (by rw [low_eq n h, H.out]), rfl⟩
theorem new_any (w : World) : Calls Try.prog 22 #[] w fun e w' => e = .returned (ptr w.heap.size) ∧ Wr w' w.heap.size (.slice none 0 0) 0 0 ∧ Chg (fun _ => False) w w' := by
  go_enter Try.func22, Try.ntmps22
  go_wp2
  go_ret
  exact ⟨rfl, ⟨blk_new _ _ _, World.ownsRow_nil _ _ _ _, by simp [Value.ownBlock], by decide⟩, chg_alloc (chg_refl _ _) _⟩
theorem conv_nil (w : World) : (convert 39 9 (.slice none 0 0)).run Try.prog w = .ok (.string (bs [])) w := by kernel_rfl
theorem own_string {w : World} {n : Nat} {v : Value} {l : List UInt8} (h : w.ownsRow 0 5 1 v n (l.map byteV)) :
    (convert 39 9 v).run Try.prog w = .ok (.string (bs l)) w := by
  have hlen : l.length = n := by have := h.1; simpa using this
  rcases h.2 with ⟨hv, hn0⟩ | ⟨g, cap, cur, hv, _, hgb, hcap, _, hsz, ht⟩
  · obtain rfl : l = [] := by simpa [hn0] using hlen
    subst hv
    exact conv_nil w
  · subst hv hlen
    exact run_convert_bytes_back w 39 9 5 ⟨g, 0, none⟩ cap l Try.underlying39 Try.underlying5 Try.underlying9 (fun j hj => by rw [Addr.add_lit, Nat.zero_add]; exact own_cell8 hgb (by simpa using ht) j hj rfl)
theorem bytes_any (A : Nat) (v : Value) (sz N : Nat) (w : World) (h : Wr w A v sz N) : Calls Try.prog 25 #[ptr A] w fun e w' => e = .returned (.string (bs (byt N (byc sz)))) ∧ w = w' := by
  have c0 : w.cell? ⟨A, 0, none⟩ = some v := by rw [blk_cell h.1]; rfl
  have hcv := own_string h.2.1
  unfold ptr
  go_enter Try.func25, Try.ntmps25
  go_wp2
  go_ret
  exact ⟨rfl, rfl⟩

set_option maxRecDepth 100000 in
set_option maxHeartbeats 1000000 in
theorem fill_any0 (A q : Nat) (v : Value) (l : List UInt8) (sz x n : Nat) (W : World) (hx : x < 256) (hsz : sz ≤ 1000000)
  (hb : Blk W A #[v, .int .i64 sz] 76) (hown : W.ownsRow 0 5 1 v q (l.map byteV)) (hlq : l.length = q)
  (hvA : v.ownBlock ≠ some A) (hq : q ≤ 1000000) (hn : n ≤ 8)
  (hsp : (sz : Int) % 8 = 0) (hbx : bits BinOp.or IntKind.u8 0 x = (x : Int)) :
    Calls Try.prog 38 #[ptr A, .int .u8 x, .int .i64 n] W fun e W' => e = .returned (.tuple #[]) ∧
      ∃ v', Blk W' A #[v', .int .i64 ((sz : Int) + n)] 76 ∧ W'.ownsRow 0 5 1 v' (q + 1) ((l ++ [UInt8.ofNat x]).map byteV) ∧ v'.ownBlock ≠ some A ∧ Chg (foot A v) W W' ∧ Moved W v v' := by
  unfold ptr
  obtain ⟨i0, hi, hz0, hz1, hz2⟩ := info_parts info5
  have hw : IntKind.i64.wrap (((q + 1 : Nat) : Int) - 1) = (q : Int) := by rw [IntKind.wrap_i64]; omega
  have c0 : W.cell? ⟨A, 0, none⟩ = some v := by rw [blk_cell hb]; rfl
  have c1 : W.cell? ⟨A, 1, none⟩ = some (.int .i64 sz) := by rw [blk_cell hb]; rfl
  go_enter Try.func38, Try.ntmps38
  go_wp2_with (first | (at_builtin; refine wpList_push8 _ rfl (.tmp 18) (.tmp 19) 39 rfl i0 Try.underlying39 hi hz0 hz1 hz2 v q l rfl (World.ownsRow.alloc hown _) hq ⟨W.heap.size, 0, none⟩ 0 0 rfl rfl (by simp) ?_) | go_in)
  intro v' w1 hown1 hgr1 hmv1
  have hb1 : Blk w1 A #[v, .int .i64 sz] 76 := (hgr1.block A (blk_lt (blk_alloc hb _)) (fun e => hvA e.symm)).trans (blk_alloc hb _)
  have hch : Chg (foot A v) W w1 := chg_grown (chg_alloc (chg_refl _ _) _) hgr1 (fun k hk _ => .inr hk)
  have hmv : Moved W v v' := fun k hk => (hmv1 k hk).imp id (fun h => by simp at h; omega)
  have hA : A < W.heap.size := blk_lt hb
  have hown2 : w1.ownsRow 0 5 1 v' (q + 1) ((l ++ [0]).map byteV) := by simpa using hown1
  clear hown1
  obtain ⟨g, cap, cur, rfl, hcap, hg, hcs, ht, hl1⟩ := own_at8 hown2 (by omega)
  have hgA : ¬ g = A := by
    intro e; rcases hmv g rfl with h | h
    · exact hvA (by rw [h, e])
    · omega
  have hAg : ¬ A = g := fun e => hgA e.symm
  have d0 : w1.cell? ⟨A, 0, none⟩ = some v := by rw [blk_cell hb1]; rfl
  have e0 := blk_free hb1 0
  have e1 := blk_free hb1 1
  have hb2 := blk_set hb1 0 (.slice (some ⟨g, 0, none⟩) (q + 1) cap)
  have hg2 := blk_set_other hg ⟨A, 0, none⟩ (.slice (some ⟨g, 0, none⟩) (q + 1) cap) hgA
  have cq : (w1.setCell ⟨A, 0, none⟩ (.slice (some ⟨g, 0, none⟩) (q + 1) cap)).cell? ⟨g, q, none⟩ = some (.int .u8 0) := by
    rw [blk_cell hg2, ← blk_cell hg, own_cell8 hg ht q (by simp; omega) hl1]; simp [← hlq, byteV]
  have cA0 : (w1.setCell ⟨A, 0, none⟩ (.slice (some ⟨g, 0, none⟩) (q + 1) cap)).cell? ⟨A, 0, none⟩ = some (.slice (some ⟨g, 0, none⟩) (q + 1) cap) := by rw [blk_cell hb2]; rfl
  have cA1 : (w1.setCell ⟨A, 0, none⟩ (.slice (some ⟨g, 0, none⟩) (q + 1) cap)).cell? ⟨A, 1, none⟩ = some (.int .i64 sz) := by rw [blk_cell hb2]; rfl
  have fg := blk_free hg q
  have own3 : Hid (((w1.setCell ⟨A, 0, none⟩ (.slice (some ⟨g, 0, none⟩) (q + 1) cap)).setCell ⟨g, q, none⟩ (.int .u8 x)).ownsRow 0 5 1 (.slice (some ⟨g, 0, none⟩) (q + 1) cap) (q + 1) ((l ++ [UInt8.ofNat x]).map byteV)) := by
    have := own_set8 (own_kept hown2 (chg_set (S := (· = A)) (chg_refl _ _) ⟨A, 0, none⟩ (.slice (some ⟨g, 0, none⟩) (q + 1) cap) (fun _ => rfl)) (fun k hk e => by simp [Value.ownBlock] at hk; omega)) q (UInt8.ofNat x) x (by rw [u8_of _ hx])
    rw [List.set_append_right _ _ (by omega), hlq, Nat.sub_self] at this
    exact this
  go_wp2
  go_region
  have cB1 : ((w1.setCell ⟨A, 0, none⟩ (.slice (some ⟨g, 0, none⟩) (q + 1) cap)).setCell ⟨g, q, none⟩ (.int .u8 x)).cell? ⟨A, 1, none⟩ = some (.int .i64 sz) := by rw [blk_cell (blk_set_other hb2 ⟨g, q, none⟩ (.int .u8 x) hAg)]; rfl
  go_wp2
  go_end0
  refine ⟨rfl, .slice (some ⟨g, 0, none⟩) (q + 1) cap, ?_, ?_, ?_, ?_, hmv⟩
  · exact blk_set (blk_set_other hb2 ⟨g, q, none⟩ (.int .u8 x) hAg) 1 (.int .i64 ((sz : Int) + n))
  · exact own_kept (S := (· = A)) own3.out (chg_drew (chg_set (chg_refl _ _) ⟨A, 1, none⟩ _ (fun _ => rfl))) (fun k hk e => by simp [Value.ownBlock] at hk; omega)
  · simp [Value.ownBlock]; exact hgA
  · refine chg_set (chg_set (chg_set hch ⟨A, 0, none⟩ _ (fun _ => .inl rfl)) ⟨g, q, none⟩ _ (fun hlt => ?_)) ⟨A, 1, none⟩ _ (fun _ => .inl rfl)
    rcases hmv g rfl with h | h
    · exact .inr h
    · exact absurd hlt (by simp; omega)

set_option maxRecDepth 100000 in
set_option maxHeartbeats 1000000 in
theorem fill_any1 (A g cap q p T : Nat) (sz x n : Nat) (Y : Int) (W : World) (hsz : sz ≤ 1000000) (hp0 : 0 < p) (hp8 : p < 8)
  (c0 : W.cell? ⟨A, 0, none⟩ = some (.slice (some ⟨g, 0, none⟩) (q + 1) cap))
  (c1 : W.cell? ⟨A, 1, none⟩ = some (.int .i64 sz))
  (f1 : W.frozen? ⟨A, 1, none⟩ = false) (hq : q ≤ 1000000) (hn : n ≤ 8) (hgA : ¬ g = A)
  (cl : W.cell? ⟨g, q, none⟩ = some (.int .u8 (T : Int)))
  (fl : W.frozen? ⟨g, q, none⟩ = false) (hsp : (sz : Int) % 8 = (p : Int)) (hb : bits BinOp.or IntKind.u8 T (x * 2 ^ p % 256) = Y) :
    Calls Try.prog 38 #[ptr A, .int .u8 x, .int .i64 n] W fun e W' => e = .returned (.tuple #[]) ∧ W' = ((W.setCell ⟨g, q, none⟩ (.int .u8 Y)).setCell ⟨A, 1, none⟩ (.int .i64 ((sz : Int) + n))).drew := by
  unfold ptr
  have hz : ¬ (p : Int) = 0 := by omega
  have hw : IntKind.i64.wrap (((q + 1 : Nat) : Int) - 1) = (q : Int) := by rw [IntKind.wrap_i64]; omega
  go_enter Try.func38, Try.ntmps38
  go_wp2
  go_region
  have d1 : (W.setCell ⟨g, q, none⟩ (.int .u8 Y)).cell? ⟨A, 1, none⟩ = some (.int .i64 sz) := by rw [World.cell?_setCell_other _ _ _ _ (by intro e; injection e; omega)]; exact c1
  go_wp2
  go_end0
  exact ⟨rfl, rfl⟩

/-- What a Put of m bits leaves. -/
def PutPost (A : Nat) (v : Value) (sz N x m : Nat) (W : World) (e : Ending) (W' : World) : Prop :=
  e = .returned (.tuple #[]) ∧ ∃ v', Wr W' A v' (sz + m) (N + x % 2 ^ m * 2 ^ sz) ∧ Chg (foot A v) W W' ∧ Moved W v v'

theorem fill_any (A : Nat) (v : Value) (sz N x n : Nat) (W : World) (h : Wr W A v sz N) (hx : x < 2 ^ n) (hn : 0 < n) (hp : sz % 8 + n ≤ 8) (hsz : sz ≤ 1000000) :
    Calls Try.prog 38 #[ptr A, .int .u8 x, .int .i64 n] W fun e W' => e = .returned (.tuple #[]) ∧ ∃ v', Wr W' A v' (sz + n) (N + x * 2 ^ sz) ∧ Chg (foot A v) W W' ∧ Moved W v v' := by
  obtain ⟨hb, hown, hne, hN⟩ := h
  obtain ⟨k1, k2, k3⟩ := fill_bytes N sz x n hN hx hn hp
  have hT := top_lt N sz hN
  have hx8 : x < 256 := Nat.lt_of_lt_of_le hx (pow_le_of (a := n) (b := 8) (by omega))
  have hN' : N + x * 2 ^ sz < 2 ^ (sz + n) := by have := put_lt N sz x n hN; rwa [Nat.mod_eq_of_lt hx] at this
  by_cases h0 : sz % 8 = 0
  · have hq : byc sz = sz / 8 := by unfold byc; omega
    rw [hq] at hown
    rw [h0, Nat.pow_zero, Nat.lt_one_iff] at hT
    rw [hT, h0, Nat.pow_zero, Nat.mul_one, Nat.zero_add] at k3
    refine (fill_any0 A (sz / 8) v (byt N (sz / 8)) sz x n W hx8 hsz hb hown (byt_len _ _) hne (by omega) (by omega) (by omega) (by rw [show (0 : Int) = ((0 : Nat) : Int) from rfl, u8_or_nat _ _ (by decide) hx8, Nat.zero_or])).mono ?_
    rintro e W' ⟨rfl, v', a1, a2, a3, a4, a5⟩
    exact ⟨rfl, v', ⟨by simpa using a1, by rw [k1, k3]; exact a2, a3, hN'⟩, a4, a5⟩
  · have hq : byc sz = sz / 8 + 1 := by unfold byc; omega
    rw [hq] at hown
    obtain ⟨g, cap, cur, rfl, hcap, hg, hcs, ht, hl⟩ := own_at8 hown (by omega)
    have hgA : ¬ g = A := fun e => hne (by rw [e]; rfl)
    have hT8 : N / 256 ^ (sz / 8) < 256 := Nat.lt_of_lt_of_le hT (pow_le_of (a := sz % 8) (b := 8) (by omega))
    have cl := own_cell8 hg ht (sz / 8) (by rw [byt_len]; omega) hl
    rw [byt_get, byteV, Nat.mod_eq_of_lt hT8, u8_of _ hT8] at cl
    have hor : bits BinOp.or IntKind.u8 ((N / 256 ^ (sz / 8) : Nat) : Int) ((x : Int) * 2 ^ (sz % 8) % 256) = ((N / 256 ^ (sz / 8) + x * 2 ^ (sz % 8) : Nat) : Int) := by
      have e : (x : Int) * 2 ^ (sz % 8) % 256 = ((x * 2 ^ (sz % 8) : Nat) : Int) := by
        rw [show (x : Int) * 2 ^ (sz % 8) = ((x * 2 ^ (sz % 8) : Nat) : Int) from by simp]; exact Int.emod_eq_of_lt (Int.natCast_nonneg _) (Int.ofNat_lt.2 (Nat.lt_of_le_of_lt (Nat.le_add_left _ _) k2))
      rw [e, u8_or_nat _ _ hT8 (Nat.lt_of_le_of_lt (Nat.le_add_left _ _) k2), or_hi _ _ _ hT]
    refine (fill_any1 A g cap (sz / 8) (sz % 8) (N / 256 ^ (sz / 8)) sz x n _ W hsz (by omega) (by omega) (by rw [blk_cell hb]; rfl) (by rw [blk_cell hb]; rfl) (blk_free hb 1) (by omega) (by omega) hgA cl (blk_free hg _) (by omega) hor).mono ?_
    rintro e W' ⟨rfl, rfl⟩
    have own2 := own_set8 hown (sz / 8) (UInt8.ofNat (N / 256 ^ (sz / 8) + x * 2 ^ (sz % 8))) _ (show ((N / 256 ^ (sz / 8) + x * 2 ^ (sz % 8) : Nat) : Int) = _ from by rw [u8_of _ k2])
    refine ⟨rfl, .slice (some ⟨g, 0, none⟩) (sz / 8 + 1) cap, ⟨?_, ?_, hne, hN'⟩, ?_, fun k hk => .inl hk⟩
    · have := blk_set (blk_set_other hb ⟨g, sz / 8, none⟩ (.int .u8 ((N / 256 ^ (sz / 8) + x * 2 ^ (sz % 8) : Nat) : Int)) (fun e => hgA e.symm)) 1 (.int .i64 ((sz : Int) + n))
      refine blk_drew ?_
      simpa using this
    · rw [k1, k3]
      rw [byt_snoc, List.set_append_right _ _ (by rw [byt_len]; exact Nat.le_refl _), byt_len, Nat.sub_self] at own2
      exact own_kept (S := (· = A)) own2 (chg_drew (chg_set (chg_refl _ _) ⟨A, 1, none⟩ _ (fun _ => rfl))) (fun k hk e => by simp [Value.ownBlock] at hk; omega)
    · exact chg_drew (chg_set (chg_set (chg_refl _ _) ⟨g, sz / 8, none⟩ _ (fun _ => .inr rfl)) ⟨A, 1, none⟩ _ (fun _ => .inl rfl))

end Go.Proofs.Ythjokhfjfiaaiaa
