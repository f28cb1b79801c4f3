/-
  The reference's row of bits: Put, for every number and every length; the reference's row of bits: its bytes.
-/
import Derived.Test.YthjokhfjfiaaiaaBw
import Derived.Deep.RegionLaw
import Derived.OwnWalk
namespace Go.Proofs.Ythjokhfjfiaaiaa
open Go.ChangeShapes Go.WideShapes Go.ChangeAt Go.RowKit
open Go.ChangeMaps (open_string shut_string)
theorem run_push8 {P : Program} (w : World) (t ty : TypeId)
    (i : TypeInfo) (h1 : P.underlying t = some (.slice 5)) (h2 : P.info? 5 = some i) (h3 : i.zero = some (.int .u8 0)) (h4 : i.size = 1) (h5 : i.bytes = 1)
    (v : Value) (n : Nat) (l : List UInt8) (hown : w.ownsRow 0 5 1 v n (l.map byteV)) (hl : n ≤ 1000000)
    (ad : Addr) (z : Int) (c : UInt8) (hz : z = (c.toNat : Int)) (hc : w.cell? ad = some (.int .u8 z)) :
    ∃ v' w', (Builtin.append_ #[t, t] ty #[v, .slice (some ad) 1 1]).run P w = .ok v' w' ∧ w'.ownsRow 0 5 1 v' (n + 1) ((l ++ [c]).map byteV) ∧ w.grownBy w' v.ownBlock ∧ Moved w v v' := by
  subst hz
  have hmap : (l ++ [c]).map byteV = l.map byteV ++ [.int .u8 (c.toNat : Int)] := by simp [byteV]
  have hcn : ∀ j u, [Value.int .u8 (c.toNat : Int)][j]? = some u → w.cell? (ad.add j) = some u := by
    intro j u hj
    match j, hj with
    | 0, hj => simp at hj; subst hj; simpa [Addr.add] using hc
  rcases hown.2 with ⟨hv, hn0⟩ | ⟨g, cap, cur, hv, _, hgb, hcap, _, hsz, ht⟩
  · subst hn0
    have hl0 : l = [] := by have := hown.1; simpa using this
    subst hl0
    obtain ⟨v', w', r0, r1, r2, _⟩ := run_append_own (P := P) w w.heap.size t ty 5 i (.int .u8 0) 1 1 h1 h2 h3 h4 h5 rfl (by decide) v 0 [] (by rw [hv]; exact World.ownsRow_nil _ _ _ _) ad 1 1 _ rfl hcn (by intro u hu; simp at hu; subst hu; rfl) (by simp only [maxLen]; omega) (by omega) (Nat.le_refl _)
    exact ⟨v', w', r0, by rw [hmap]; exact own_low8 r1, r2, fun k hk => .inr (r1.lt k hk).1⟩
  · have hlen : l.length = n := by have := hown.1; simpa using this
    subst hv
    have holds : ∀ j u, (l.map byteV)[j]? = some u → w.cell? ((⟨g, 0, none⟩ : Addr).add j) = some u := fun j u hj => hown.cells (g := g) rfl j u hj
    by_cases hr : n + 1 ≤ cap
    · have hrun := run_append_room_cells (P := P) w t ty 5 i h1 h2 g 0 n cap ad 1 1 [.int .u8 (c.toNat : Int)] (by simp [h4]) hcn (by intro u hu; simp at hu; subst hu; rfl) hr
        (by intro j hj; simp at hj; subst hj; rw [blk_cell hgb]; simp [h4]; omega) (by intro j hj; exact blk_free hgb _)
      refine ⟨_, _, hrun, ?_⟩
      simp only [h4, Nat.mul_one, Nat.zero_add, World.setCells]
      refine ⟨⟨by simp; omega, .inr ⟨g, cap, cur.setIfInBounds n (.int .u8 (c.toNat : Int)), rfl, Nat.zero_le _, ?_, hr, by omega, by simpa using hsz, ?_⟩⟩, ⟨rfl, rfl, rfl, by rw [Go.Deep.nblk_setCell]; exact Nat.le_refl _, fun k _ hk => Below.heap_setCell _ _ _ _ (fun e => hk (by rw [e]; rfl))⟩, fun k hk => .inl hk⟩
      · have := blk_set hgb n (.int .u8 (c.toNat : Int))
        simpa [Blk] using this
      · rw [Nat.mul_one] at ht ⊢
        have hnc : n < cur.toList.length := by simp; omega
        rw [Array.toList_setIfInBounds, List.take_set, List.take_succ_eq_append_getElem hnc, ht, hmap, List.set_append_right _ _ (by simp; omega)]
        simp [hlen]
    · obtain ⟨v', w', r0, r1, r2⟩ := run_append_arg_grows (P := P) w t ty 5 i (.int .u8 0) 1 1 h1 h2 h3 h4 h5 rfl (by decide) ⟨g, 0, none⟩ n cap (l.map byteV) (by simp; omega) holds ad 1 1 _ rfl hcn (by omega) (by simp only [maxLen]; omega) (by omega)
      exact ⟨v', w', r0, by rw [hmap]; exact own_low8 r1, ⟨r2.os, r2.tape, r2.output, r2.size, fun k hk _ => r2.block k hk (by simp)⟩, fun k hk => .inr (r1.lt k hk).1⟩

/-- One byte behind a row, as one step of a region that draws. -/
theorem step_push8 {P : Program} {ops : Array Oper} {o : Oper} {a : Act} {w : World} {K : Act → World → Prop} {Q : Exit → Act → World → Prop} {E : Prop}
    (hg : o.guard = none) (s x : Operand) (t : TypeId) (hop : o.op = Op.call { callee := Callee.builtin Builtin.append, args := #[s, x], argTypes := #[t, t] })
    (i : TypeInfo) (h1 : P.underlying t = some (.slice 5)) (h2 : P.info? 5 = some i) (h3 : i.zero = some (.int .u8 0)) (h4 : i.size = 1) (h5 : i.bytes = 1)
    (v : Value) (n : Nat) (l : List UInt8) (hs : a.eval s = v) (hown : w.ownsRow 0 5 1 v n (l.map byteV)) (hl : n ≤ 1000000)
    (ad : Addr) (z : Int) (c : UInt8) (hz : z = (c.toNat : Int)) (hx : a.eval x = .slice (some ad) 1 1) (hc : w.cell? ad = some (.int .u8 z))
    (hK : ∀ v' w', w'.ownsRow 0 5 1 v' (n + 1) ((l ++ [c]).map byteV) → w.grownBy w' v.ownBlock → Moved w v v' → K (a.put o.dst v') w') :
    if Region.wanted o (yielded ops a.tmps) = true then Oper.wp P o a w K Q else E := by
  have hw : Region.wanted o (yielded ops a.tmps) = true := by simp [Region.wanted, hg]
  rw [if_pos hw]
  obtain ⟨v', w', hrun, r1, r2, r3⟩ := run_push8 (P := P) w t o.type i h1 h2 h3 h4 h5 v n l hown hl ad z c hz hc
  unfold Oper.wp
  simp [execOp, hop, resolve, invoke, builtin, hs, hx, hrun, Result.andThen]
  exact hK v' w' r1 r2 r3

/-- Block A is the reference's row of sz bits, the number N; its bits lie in v. -/
def Ro (W : World) (A : Nat) (v : Value) (sz N : Nat) : Prop :=
  Blk W A #[v] 60 ∧ W.ownsRow 0 5 1 v sz ((bit N sz).map byteV) ∧ v.ownBlock ≠ some A ∧ N < 2 ^ sz

def RpRel (A : Nat) (v : Value) (sz N x m : Nat) (W : World) (iv : Value) (wr : World) : Prop :=
  ∃ (i : Nat) (v' : Value), i ≤ m ∧ iv = .int .i64 i ∧ Ro wr A v' (sz + i) (N + x % 2 ^ i * 2 ^ sz) ∧ Chg (foot A v) W wr ∧ Moved W v v'

theorem and_one (y : Nat) (h : y < 18446744073709551616) : bits .and .u64 (y : Int) 1 = ((y % 2 : Nat) : Int) := by
  rw [show (1 : Int) = ((1 : Nat) : Int) from rfl, u64_and_nat _ _ h (by decide), Nat.and_one_is_mod]

theorem push_facts {w1 w2 : World} {A : Nat} {v1 : Value} (hb1 : Blk w1 A #[v1] 60) (d3 : v1.ownBlock ≠ some A) (g2 : w1.grownBy w2 v1.ownBlock) :
    w2.cell? ⟨A, 0, none⟩ = some v1 ∧ w2.frozen? ⟨A, 0, none⟩ = false ∧ Hid (Blk w2 A #[v1] 60) := by
  have hb : Blk w2 A #[v1] 60 := (g2.block A (blk_lt hb1) (fun e => d3 e.symm)).trans hb1
  exact ⟨by rw [blk_cell hb]; rfl, blk_free hb 0, hb⟩

theorem ro_step {W wr w1 w2 : World} {A n : Nat} {v v1 v2 : Value} {xs : List Value} (d1 : Blk wr A #[v1] 60) (d3 : v1.ownBlock ≠ some A) (d5 : Chg (foot A v) W wr) (d6 : Moved W v v1)
    (h1 : Chg (fun _ => False) wr w1) (g7 : Blk w2 A #[v1] 60) (G1 : w2.ownsRow 0 5 1 v2 n xs) (G2 : w1.grownBy w2 v1.ownBlock) (G3 : Moved w1 v1 v2) :
    Blk (w2.setCell ⟨A, 0, none⟩ v2) A #[v2] 60 ∧ (w2.setCell ⟨A, 0, none⟩ v2).ownsRow 0 5 1 v2 n xs ∧ v2.ownBlock ≠ some A ∧ Chg (foot A v) W (w2.setCell ⟨A, 0, none⟩ v2) ∧ Moved W v v2 := by
  have hA : A < w1.heap.size := Nat.lt_of_lt_of_le (blk_lt d1) (chg_size h1)
  have hne : v2.ownBlock ≠ some A := fun e => by
    rcases G3 A e with h | h
    · exact d3 h
    · omega
  have c1 : Chg (foot A v) W w1 := chg_trans d5 h1 (fun _ _ h => h.elim)
  have c2 : Chg (foot A v) W w2 := chg_grown c1 G2 (fun k hk hlt => by
    rcases d6 k hk with h | h
    · exact .inr h
    · omega)
  refine ⟨by simpa using blk_set g7 0 v2, own_kept (S := (· = A)) G1 (chg_set (chg_refl _ _) _ _ (fun _ => rfl)) (fun k hk e => hne (by rw [hk, e])), hne, chg_set c2 _ _ (fun _ => .inl rfl), fun k hk => ?_⟩
  rcases G3 k hk with h | h
  · exact d6 k h
  · exact .inr (Nat.le_trans (chg_size c1) h)

set_option maxRecDepth 100000 in
set_option maxHeartbeats 1000000 in
theorem rput_walk (A : Nat) (v : Value) (sz N x m : Nat) (n t : Int) (W : World) (h : Ro W A v sz N) (hsz : sz ≤ 100000) (hx : x < 18446744073709551616)
    (e1 : (if (64 : Int) < n then 64 else n) = t) (e2 : (if (0 : Int) < t then t else 0) = (m : Int)) (hm : m ≤ 64) :
    Calls Try.prog 26 #[ptr A, .int .u64 x, .int .i64 n] W fun e W' => e = .returned (.tuple #[]) ∧ ∃ v', Ro W' A v' (sz + m) (N + x % 2 ^ m * 2 ^ sz) ∧ Chg (foot A v) W W' ∧ Moved W v v' := by
  unfold ptr
  obtain ⟨i0, hi0, hz0, hz1, hz2⟩ := info_parts info5
  go_enter Try.func26, Try.ntmps26
  go_wp2_with fail
  try simp only [e1, e2]
  clear e1 e2
  go_loopw [6] (fun iv wr => RpRel A v sz N x m W iv wr) (fun iv _ => m - (intOf iv).toNat)
  case atStart => exact ⟨0, v, by omega, rfl, by simpa [Nat.mod_one] using h, chg_refl _ _, fun k hk => .inl hk⟩
  case round =>
    clear h
    obtain ⟨i, v1, hi, rfl, ⟨d1, d2, d3, d4⟩, d5, d6⟩ := hrel
    by_cases hlt : i < m
    · have c0 : wr.cell? ⟨A, 0, none⟩ = some v1 := by rw [blk_cell d1]; rfl
      have f0 := blk_free d1 0
      have hd : ((x : Int) / 2 ^ i) = ((x / 2 ^ i : Nat) : Int) := by simp
      have hband := and_one (x / 2 ^ i) (Nat.lt_of_le_of_lt (Nat.div_le_self _ _) hx)
      have hz : x / 2 ^ i % 2 < 2 := Nat.mod_lt _ (by decide)
      have HB := bit_put (N + x % 2 ^ i * 2 ^ sz) (sz + i) (x / 2 ^ i % 2) d4
      have HN : Hid (N + x % 2 ^ (i + 1) * 2 ^ sz = N + x % 2 ^ i * 2 ^ sz + x / 2 ^ i % 2 * 2 ^ (sz + i)) := by
        show _ = _
        rw [mod_succ, Nat.add_mul, ← Nat.add_assoc, Nat.mul_assoc, ← Nat.pow_add, Nat.add_comm i]
      generalize x / 2 ^ i = y at *
      rw [Nat.mod_mod] at HB
      have hN' : Hid (N + x % 2 ^ i * 2 ^ sz + y % 2 * 2 ^ (sz + i) < 2 ^ (sz + i + 1)) := by
        have := put_lt _ _ y 1 d4
        rw [Nat.pow_one] at this
        exact this
      generalize y % 2 = b at *
      generalize N + x % 2 ^ i * 2 ^ sz = M at *
      have HB' : Hid (bit (M + b * 2 ^ (sz + i)) (sz + i + 1) = bit M (sz + i) ++ [UInt8.ofNat b]) := HB
      clear HB d4
      have hu8 : IntKind.u8.wrap (b : Int) = (b : Int) := by rw [IntKind.wrap_u8]; omega
      have hlt1 := blk_lt d1
      go_wp2_with fail
      go_region_law (refine step_push8 rfl (.tmp 19) (.tmp 25) 39 rfl i0 Try.underlying39 hi0 hz0 hz1 hz2 v1 (sz + i) (bit M (sz + i)) rfl (World.ownsRow.alloc d2 _) (by omega) ⟨wr.heap.size, 0, none⟩ b (UInt8.ofNat b) (by rw [u8_of _ (by omega)]) rfl (by simp) ?_; intro v2 w2 g1 g2 g3; obtain ⟨g5, g6, g7⟩ := push_facts (blk_drew (blk_alloc d1 _)) d3 g2; have G1 := Hid.intro g1; have G2 := Hid.intro g2; have G3 := Hid.intro g3; obtain ⟨g, cap, cur, rfl, _, _, _, _, _⟩ := own_at8 g1 (Nat.succ_pos _); clear g1 g2 g3)
      all_goals
        obtain ⟨k1, k2, k3, k4, k5⟩ := ro_step d1 d3 d5 d6 (chg_drew (chg_alloc (chg_refl _ wr) _)) g7.out G1.out G2.out G3.out
        have hro : Ro (w2.setCell ⟨A, 0, none⟩ (.slice (some ⟨g, 0, none⟩) (sz + i + 1) cap)) A (.slice (some ⟨g, 0, none⟩) (sz + i + 1) cap) (sz + (i + 1)) (N + x % 2 ^ (i + 1) * 2 ^ sz) := by
          rw [HN.out]
          exact ⟨k1, by rw [← Nat.add_assoc, HB'.out]; exact k2, k3, hN'.out⟩
        clear k1 k2 k3 g5 g6 G1 G2 G3 d1 d2
        generalize w2.setCell ⟨A, 0, none⟩ (.slice (some ⟨g, 0, none⟩) (sz + i + 1) cap) = w3 at *
        go_wp2
        go_roundw
        case rel => exact ⟨i + 1, _, by omega, by go_num, hro, k4, k5⟩
        case measure => simp [intOf]; omega
    · obtain rfl : i = m := by omega
      go_wp2
      go_end0
      exact ⟨rfl, v1, ⟨d1, d2, d3, d4⟩, d5, d6⟩

theorem rput_any (A : Nat) (v : Value) (sz N x : Nat) (n : Int) (W : World) (h : Ro W A v sz N) (hsz : sz ≤ 100000) (hx : x < 18446744073709551616) :
    Calls Try.prog 26 #[ptr A, .int .u64 x, .int .i64 n] W fun e W' => e = .returned (.tuple #[]) ∧ ∃ v', Ro W' A v' (sz + cl n) (N + x % 2 ^ cl n * 2 ^ sz) ∧ Chg (foot A v) W W' ∧ Moved W v v' :=
  rput_walk A v sz N x (cl n) n (if (64 : Int) < n then 64 else n) W h hsz hx rfl (by unfold cl; (repeat' split) <;> omega) (cl_le n)

def RbRel (A : Nat) (v : Value) (sz N q G : Nat) (W : World) (iv : Value) (wr : World) : Prop :=
  ∃ (i : Nat), i ≤ sz ∧ iv = .int .i64 i ∧ wr.ownsRow 0 5 1 (.slice (some ⟨G, 0, none⟩) q q) q ((byt (N % 2 ^ i) q).map byteV) ∧ Ro wr A v sz N ∧ Chg (fun _ => False) W wr

theorem ro_kept {W W' : World} {S : Nat → Prop} {A : Nat} {v : Value} {sz N : Nat} (h : Ro W A v sz N) (g : Chg S W W') (hS : ∀ k, foot A v k → ¬ S k) : Ro W' A v sz N :=
  ⟨blk_kept h.1 g (hS A (.inl rfl)), own_kept h.2.1 g (fun k hk => hS k (.inr hk)), h.2.2.1, h.2.2.2⟩
theorem ro_lt {W : World} {A : Nat} {v : Value} {sz N : Nat} (h : Ro W A v sz N) (k : Nat) (hk : foot A v k) : k < W.heap.size :=
  hk.elim (fun e => e ▸ blk_lt h.1) (fun e => (h.2.1.lt k e).2)
/-- How many bits there are is the row's length. -/
theorem ro_val {W : World} {A : Nat} {v : Value} {sz N : Nat} (h : Ro W A v sz N) : ∃ a cap, v = .slice a sz cap := by
  rcases h.2.1.2 with ⟨hv, h0⟩ | ⟨g, cap, cur, hv, _⟩
  · exact ⟨none, 0, by rw [hv, h0]⟩
  · exact ⟨_, cap, hv⟩

theorem made_zero (n : Nat) : (madeCells (Value.int .u8 0).cells (n * 1)).toList = (byt 0 n).map byteV := by
  rw [show (Value.int .u8 0).cells = #[Value.int .u8 0] from rfl, Nat.mul_one, toList_madeCells_one]
  refine List.ext_getElem (by simp [byt_len]) fun j h1 h2 => ?_
  simp [byt, byteV]

theorem byte_or (N i : Nat) : bits .or .u8 ((N % 2 ^ i / 256 ^ (i / 8) % 256 : Nat) : Int) (((N / 2 ^ i % 2 : Nat) : Int) * 2 ^ (i % 8) % 256) = ((N % 2 ^ i / 256 ^ (i / 8) % 256 + N / 2 ^ i % 2 * 2 ^ (i % 8) : Nat) : Int) ∧
    N % 2 ^ i / 256 ^ (i / 8) % 256 + N / 2 ^ i % 2 * 2 ^ (i % 8) < 256 := by
  have hm : N % 2 ^ i < 2 ^ i := Nat.mod_lt _ (Nat.pow_pos (by decide))
  have ht := top_lt _ _ hm
  have h3 : 2 ^ (i % 8) ≤ 2 ^ 7 := pow_le_of (by omega)
  have h4 : N / 2 ^ i % 2 * 2 ^ (i % 8) ≤ 1 * 2 ^ (i % 8) := Nat.mul_le_mul_right _ (by omega)
  have h5 : (2 : Nat) ^ 7 = 128 := rfl
  have h6 : N % 2 ^ i / 256 ^ (i / 8) % 256 = N % 2 ^ i / 256 ^ (i / 8) := Nat.mod_eq_of_lt (by omega)
  rw [h6]
  have hlt : N / 2 ^ i % 2 * 2 ^ (i % 8) < 256 := by omega
  refine ⟨?_, by omega⟩
  have e : ((N / 2 ^ i % 2 : Nat) : Int) * 2 ^ (i % 8) % 256 = ((N / 2 ^ i % 2 * 2 ^ (i % 8) : Nat) : Int) := by
    rw [show ((N / 2 ^ i % 2 : Nat) : Int) * 2 ^ (i % 8) = ((N / 2 ^ i % 2 * 2 ^ (i % 8) : Nat) : Int) from by simp]; exact Int.emod_eq_of_lt (Int.natCast_nonneg _) (Int.ofNat_lt.2 hlt)
  rw [e, u8_or_nat _ _ (by omega) hlt, or_hi _ _ _ ht]

set_option maxRecDepth 100000 in
set_option maxHeartbeats 1000000 in
theorem rbytes_any (A : Nat) (v : Value) (sz N : Nat) (W : World) (h : Ro W A v sz N) (hsz : sz ≤ 100000) :
    Calls Try.prog 27 #[ptr A] W fun e W' => e = .returned (.string (bs (byt N (byc sz)))) ∧ Chg (fun _ => False) W W' := by
  obtain ⟨i0, hi0, hz0, hz1, hz2⟩ := info_parts info5
  obtain ⟨av, cap, rfl⟩ := ro_val h
  have c0 : W.cell? ⟨A, 0, none⟩ = some (.slice av sz cap) := by rw [blk_cell h.1]; rfl
  obtain ⟨q, hq⟩ : ∃ q : Nat, q = byc sz := ⟨_, rfl⟩
  have hq1 : ((sz : Int) + 7) / 8 = (q : Int) := by rw [hq]; unfold byc; omega
  have HQ : Hid (q = byc sz) := hq
  have hq2 : q ≤ 20000 := by rw [hq]; unfold byc; omega
  have hq3 : sz ≤ 8 * q := by rw [hq]; unfold byc; omega
  rw [← hq]
  clear hq
  unfold ptr
  go_enter Try.func27, Try.ntmps27
  go_wp2_with (at_make; refine wpList_make_full _ rfl (.tmp 11) (.tmp 11) 39 rfl 0 5 i0 (.int .u8 0) 1 Try.underlying39 hi0 hz0 hz1 .i64 .i64 _ _ q rfl rfl hq1 hq1 (by rw [hz2]; omega) (by simp only [maxLen]; omega) (Nat.zero_le _) ?_)
  intro w1 m1 m2
  have n1 : Chg (fun _ => False) W w1 := chg_grown (chg_refl _ _) m2 (fun k hk => by cases hk)
  have o1 : w1.ownsRow 0 5 1 (.slice (some ⟨W.heap.size, 0, none⟩) q q) q ((byt (N % 2 ^ 0) q).map byteV) := by
    have := made_zero q
    rw [show (Value.int .u8 0).cells = #[Value.int .u8 0] from rfl, Nat.mul_one] at this
    rw [this] at m1
    simpa [Nat.mod_one] using m1
  have h1 := ro_kept h n1 (fun _ _ h => h)
  have hG : Hid (∀ k, foot A (.slice av sz cap) k → ¬ (k = W.heap.size)) := fun k hk e => by have := ro_lt h k hk; omega
  have hGW : Hid (W.heap.size ≤ W.heap.size) := Nat.le_refl _
  clear m1 m2 h c0
  generalize hGG : W.heap.size = G at o1 hG ⊢
  have HG : Hid (W.heap.size = G) := hGG
  clear hGG hGW
  go_wp2_with fail
  try simp only [hq1]
  clear hq1
  go_loopw [4] (fun iv wr => RbRel A (.slice av sz cap) sz N q G W iv wr) (fun iv _ => sz - (intOf iv).toNat)
  case atStart => exact ⟨0, by omega, rfl, o1, h1, n1⟩
  case round =>
    clear o1 h1 n1
    obtain ⟨i, hi, rfl, d1, d2, d3⟩ := hrel
    have c0 : wr.cell? ⟨A, 0, none⟩ = some (.slice av sz cap) := by rw [blk_cell d2.1]; rfl
    by_cases hlt : i < sz
    · obtain ⟨g, cap', cur, hv, hc, hg, hcs, ht, hl⟩ := own_at8 d2.2.1 (by omega)
      injection hv with e1 _ e3
      subst e1 e3
      obtain ⟨g', cap'', cur', hv', hc', hg', hcs', ht', hl'⟩ := own_at8 d1 (by omega)
      injection hv' with e1 _ e3
      injection e1 with e1
      injection e1 with e1
      subst e1 e3
      have cb := own_cell8 hg ht i (by rw [bit_len]; exact hlt) hl
      rw [bit_get, byteV, u8_of _ (by omega)] at cb
      have cg := own_cell8 hg' ht' (i / 8) (by rw [byt_len]; omega) hl'
      rw [byt_get, byteV, u8_of _ (by omega)] at cg
      have fg := blk_free hg' (i / 8)
      obtain ⟨hor, hT⟩ := byte_or N i
      have hset := own_set8 d1 (i / 8) (UInt8.ofNat (N % 2 ^ i / 256 ^ (i / 8) % 256 + N / 2 ^ i % 2 * 2 ^ (i % 8))) _ (show ((N % 2 ^ i / 256 ^ (i / 8) % 256 + N / 2 ^ i % 2 * 2 ^ (i % 8) : Nat) : Int) = _ from by rw [u8_of _ hT])
      rw [← byt_set] at hset
      have HSET := Hid.intro hset
      have hT1 : N % 2 ^ i / 256 ^ (i / 8) % 256 < 256 := Nat.mod_lt _ (by decide)
      have hb2 : N / 2 ^ i % 2 < 2 := Nat.mod_lt _ (by decide)
      clear hset d1 ht ht' hl hl' hc hc' hcs hcs' hT
      generalize N % 2 ^ i / 256 ^ (i / 8) % 256 + N / 2 ^ i % 2 * 2 ^ (i % 8) = Y at *
      generalize N % 2 ^ i / 256 ^ (i / 8) % 256 = T at *
      generalize N / 2 ^ i % 2 = b at *
      have l8 : i / 8 < q := by omega
      have p8 : i % 8 < 8 := by omega
      have q1 : (i : Int) / 8 = ((i / 8 : Nat) : Int) := by omega
      have q2 : (i : Int) % 8 = ((i % 8 : Nat) : Int) := by omega
      generalize i / 8 = qq at *
      generalize i % 8 = pp at *
      go_wp2_with fail
      go_region
      have o2 : (wr.setCell ⟨G, qq, none⟩ (.int .u8 Y)).drew.ownsRow 0 5 1 (.slice (some ⟨G, 0, none⟩) q q) q ((byt (N % 2 ^ (i + 1)) q).map byteV) := HSET.out
      have r2 := ro_kept (S := (· = G)) d2 (chg_drew (chg_set (chg_refl _ _) ⟨G, qq, none⟩ (.int .u8 (Y : Int)) (fun _ => rfl))) hG.out
      have k2 : Chg (fun _ => False) W (wr.setCell ⟨G, qq, none⟩ (.int .u8 Y)).drew := chg_drew (chg_set d3 ⟨G, qq, none⟩ _ (fun hlt => by have := HG.out; simp at hlt; omega))
      clear HSET d2 d3 c0 cb cg fg hg hg'
      generalize (wr.setCell ⟨G, qq, none⟩ (.int .u8 Y)).drew = w3 at *
      go_wp2
      go_roundw
      case rel => exact ⟨i + 1, by omega, by go_num, o2, r2, k2⟩
      case measure => simp [intOf]; omega
    · obtain rfl : i = sz := by omega
      rw [Nat.mod_eq_of_lt d2.2.2.2] at d1
      have hcv := own_string d1
      go_wp2
      go_ret
      exact ⟨rfl, d3⟩
end Go.Proofs.Ythjokhfjfiaaiaa
