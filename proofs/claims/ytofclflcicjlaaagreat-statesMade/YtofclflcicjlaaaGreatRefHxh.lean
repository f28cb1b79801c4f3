/-
  Package bits, Rest, and the methods of nil; objects that a call owns, two of them apart, Put for an owner; the document's example; the reference's bits of bytes, the number of bits, its reader made; the reference's Get, for every reader and every length; the reference's Rest, for every reader.
-/
import Derived.Test.YtofclflcicjlaaaGreatBuh
import Derived.Test.YtofclflcicjlaaaGreatTyh
import Derived.Test.YtofclflcicjlaaaGreatLy
import Derived.Test.YtofclflcicjlaaaGreatSc
import Derived.Test.YtofclflcicjlaaaGreatSg
import Derived.WalkKit
import Derived.ProofKit
import Derived.OpenShut
import Derived.ArgAppend
import Derived.Laws.IdiomStrings
import Derived.Deep.Heap
import Derived.Laws.BitsAllLaws
import Derived.WalkSmall
import Derived.Deep.QuietTactic
import Derived.BigQuiet
import Derived.Deep.RegionLaw
import Derived.OwnWalk
import Derived.Deep.RegionWith
namespace Go.Proofs.YtofclflcicjlaaaGreat
set_option maxRecDepth 100000
open Go.ChangeShapes Go.WideShapes Go.ChangeAt Go.RowKit
open Go.ChangeMaps (open_string shut_string)

theorem nat_beq (y : Nat) : ((y : Int) == 0) = decide (y = 0) := by by_cases h : y = 0 <;> simp [h]

theorem rest_far (A : Nat) (s : ByteArray) (a : Nat) (W : World) (h : Rd W A s a) (hs : s.size ≤ 100000) (ha : a + 8 ≤ 8 * s.size) :
    Calls Tryz.prog 64 #[ptr A] W fun e W' => e = .returned (.bool false) ∧ W' = W.drew := by
  obtain ⟨m, hm'⟩ : ∃ m : Nat, m = 8 * s.size - a := ⟨_, rfl⟩
  have LL := left_any A s a W h hs (by omega) m hm'
  have hnm : 8 ≤ m := by omega
  clear hm'
  unfold ptr at *
  go_enter Tryz.func64, Tryz.ntmps64
  go_wp2_with (first | (go_at_call 90; refine LL.mono ?_; rintro e w1 ⟨rfl, rfl⟩))
  go_ret
  exact ⟨rfl, rfl⟩

theorem rest_near (A : Nat) (s : ByteArray) (a : Nat) (W : World) (h : Rd W A s a) (hs : s.size ≤ 100000) (ha : a ≤ 8 * s.size) (ha8 : 8 * s.size < a + 8) :
    Calls Tryz.prog 64 #[ptr A] W fun e W' => e = .returned (.bool (decide (got (le s.data.toList) a (8 * s.size - a) = 0))) ∧ Chg (fun _ => False) W W' := by
  obtain ⟨m, hm'⟩ : ∃ m : Nat, m = 8 * s.size - a := ⟨_, rfl⟩
  have LL := left_any A s a W h hs (by omega) m hm'
  have c0 : W.cell? ⟨A, 0, none⟩ = some (.string s) := by rw [blk_cell h]; rfl
  have c1 : W.cell? ⟨A, 1, none⟩ = some (.int .i64 a) := by rw [blk_cell h]; rfl
  have hnm : m < 8 := by omega
  have HM : Hid (m = 8 * s.size - a) := hm'
  rw [← hm']
  clear hm'
  unfold ptr at *
  go_enter Tryz.func64, Tryz.ntmps64
  go_wp2_with fail
  refine LL.mono ?_
  rintro e w1 ⟨rfl, rfl⟩
  go_wp2_with fail
  have hR : Rd (W.alloc (Obj.cells #[Value.string s, Value.int IntKind.i64 a] 162)).drew W.heap.size s a := blk_drew (blk_new W _ _)
  have hch : Chg (fun _ => False) W (W.alloc (Obj.cells #[Value.string s, Value.int IntKind.i64 a] 162)).drew := chg_drew (chg_alloc (chg_refl _ _) _)
  generalize (W.alloc (Obj.cells #[Value.string s, Value.int IntKind.i64 a] 162)).drew = W1 at *
  generalize hA : W.heap.size = A1 at hR ⊢
  have HA : Hid (W.heap.size = A1) := hA
  clear hA
  refine (left_any A1 s a W1 hR hs ha m HM.out).mono ?_
  rintro e w1 ⟨rfl, rfl⟩
  go_wp2_with fail
  refine (get_nat A1 s hs m a W1.drew (rd_drew hR) (by have := HM.out; omega) (by omega)).mono ?_
  rintro e w2 ⟨rfl, k1, k2⟩
  go_wp2
  go_ret
  refine ⟨?_, chg_trans hch (chg_trans (chg_drew (chg_refl (fun x => x = A1) W1)) k2 (fun _ _ h => h)) ?_⟩
  · show Ending.returned (.bool ((got (le s.data.toList) a m : Int) == 0)) = _
    rw [nat_beq]
  · intro k hk e
    have := HA.out
    omega

/-- Whether nothing but noughts, fewer than eight, are left. -/
def rs (s : ByteArray) (a : Nat) : Bool := decide (8 * s.size < a + 8) && decide (got (le s.data.toList) a (8 * s.size - a) = 0)
theorem rest_any (A : Nat) (s : ByteArray) (a : Nat) (W : World) (h : Rd W A s a) (hs : s.size ≤ 100000) (ha : a ≤ 8 * s.size) :
    Calls Tryz.prog 64 #[ptr A] W fun e W' => e = .returned (.bool (rs s a)) ∧ Chg (fun _ => False) W W' := by
  by_cases h8 : 8 * s.size < a + 8
  · refine (rest_near A s a W h hs ha h8).mono ?_
    rintro e w1 ⟨rfl, k⟩
    exact ⟨by rw [rs, decide_eq_true h8, Bool.true_and], k⟩
  · refine (rest_far A s a W h hs (by omega)).mono ?_
    rintro e w1 ⟨rfl, rfl⟩
    exact ⟨by rw [rs, decide_eq_false h8, Bool.false_and], chg_refl _ _⟩
theorem rest_own {w W : World} (A : Nat) (s : ByteArray) (a : Nat) (h : Rd W A s a) (hb : Below w.heap.size w W) (hs : s.size ≤ 100000) (ha : a ≤ 8 * s.size) (b : Bool) (hr : rs s a = b) :
    Calls Tryz.prog 64 #[ptr A] W fun e W' => e = .returned (.bool b) ∧ Rd W' A s a ∧ Below w.heap.size w W' ∧ Chg (fun _ => False) W W' := by
  subst hr
  refine (rest_any A s a W h hs ha).mono ?_
  rintro e W' ⟨rfl, k2⟩
  exact ⟨rfl, blk_kept h k2 (fun h => h), below_no hb k2, k2⟩

/-- A slice of n bits, those of X from the place a on. -/
def Bts (W : World) (v : Value) (X a n : Nat) : Prop :=
  ∃ s cap, v = .slice s n cap ∧ ∀ j, j < n → ∃ ad : Addr, s = some ad ∧ W.cell? (ad.add j) = some (.int .u8 (got X (a + j) 1 : Nat))

def NmRel (X a n : Nat) (nv iv : Value) : Prop := ∃ i : Nat, i ≤ n ∧ iv = .int .i64 i ∧ nv = .int .u64 (got X a i : Nat)

set_option maxRecDepth 100000 in
theorem number_any (v : Value) (X a n : Nat) (W : World) (hn : n ≤ 64) (h : Bts W v X a n) :
    Calls Tryz.prog 66 #[v] W fun e W' => e = .returned (.int .u64 (got X a n : Nat)) ∧ W = W' := by
  obtain ⟨s, cap, rfl, hc⟩ := h
  have HC := Hid.intro hc
  clear hc
  go_enter Tryz.func66, Tryz.ntmps66
  go_wp2
  go_loop [3, 4] (fun nv iv => NmRel X a n nv iv) (fun _ iv => n - (intOf iv).toNat)
  case atStart => exact ⟨0, by omega, rfl, by rw [got_zero]; rfl⟩
  case round =>
    obtain ⟨i, hi, rfl, rfl⟩ := hrel
    by_cases hlt : i < n
    · obtain ⟨ad, rfl, hc⟩ := HC.out i hlt
      have hj := u64_join (got X a i) (got X (a + i) 1) i 1 (got_lt _ _ _) (got_lt _ _ _) (by omega)
      rw [← got_two, ← IntKind.wrap_u64] at hj
      have hb := got_lt X (a + i) 1
      have hb2 : got X (a + i) 1 < 2 := by simpa using hb
      clear hb
      generalize got X (a + i) 1 = b at *
      generalize hz : got X a (i + 1) = z at *
      have HZ := Hid.intro hz
      clear hz
      go_wp2
      go_round
      case rel => exact ⟨i + 1, by omega, by go_num, by rw [HZ.out]⟩
      case measure => simp [intOf]; omega
    · obtain rfl : i = n := by omega
      go_wp2
      go_ret
      exact ⟨rfl, rfl⟩

/-- A row of k bits of X that the call has made. -/
def Bs (W W' : World) (v : Value) (X k : Nat) : Prop := W'.ownsRow 0 5 1 v k ((bit X k).map byteV) ∧ Chg (fun _ => False) W W' ∧ Moved W (.slice none 0 0) v
def BoRel (s : ByteArray) (W : World) (lv iv : Value) (wr : World) : Prop := ∃ i : Nat, i ≤ s.size ∧ iv = .int .i64 i ∧ Bs W wr lv (le s.data.toList) (8 * i)
def BiRel (s : ByteArray) (i : Nat) (W : World) (lv kv : Value) (wr : World) : Prop := ∃ k : Nat, k ≤ 8 ∧ kv = .int .i64 k ∧ Bs W wr lv (le s.data.toList) (8 * i + k)

theorem and_one8 (y : Nat) (h : y < 256) : bits .and .u8 (y : Int) 1 = ((y % 2 : Nat) : Int) := by
  rw [show (1 : Int) = ((1 : Nat) : Int) from rfl, u8_and_nat _ _ h (by decide), Nat.and_one_is_mod]

theorem bs_push {W wr w1 w2 : World} {v v' : Value} {X k : Nat} {b : Nat} (h : Bs W wr v X k) (h1 : Chg (fun _ => False) wr w1) (hb : b = X / 2 ^ k % 2)
    (g1 : w2.ownsRow 0 5 1 v' (k + 1) ((bit X k ++ [UInt8.ofNat b]).map byteV)) (g2 : w1.grownBy w2 v.ownBlock) (g3 : Moved w1 v v') : Bs W w2 v' X (k + 1) := by
  have c1 : Chg (fun _ => False) W w1 := chg_trans h.2.1 h1 (fun _ _ h => h)
  have key : ∀ k, v.ownBlock = some k → W.heap.size ≤ k := fun k hk => (h.2.2 k hk).elim (fun e => by simp [Value.ownBlock] at e) id
  refine ⟨by rw [bit_snoc, ← hb]; exact g1, chg_grown c1 g2 (fun k hk hlt => by have := key k hk; omega), fun k hk => .inr ?_⟩
  rcases g3 k hk with e | e
  · exact key k e
  · exact Nat.le_trans (chg_size c1) e

set_option maxRecDepth 100000 in
set_option maxHeartbeats 1000000 in
theorem bits_any (s : ByteArray) (W : World) (hs : s.size ≤ 10000) :
    Calls Tryz.prog 65 #[.string s] W fun e W' => ∃ v, e = .returned v ∧ Bs W W' v (le s.data.toList) (8 * s.size) := by
  obtain ⟨i0, hi0, hz0, hz1, hz2⟩ := info_parts info5
  go_enter Tryz.func65, Tryz.ntmps65
  go_wp2
  go_loopw [3, 4] (fun lv iv wr => BoRel s W lv iv wr) (fun _ iv _ => s.size - (intOf iv).toNat)
  case atStart => exact ⟨0, by omega, rfl, World.ownsRow_nil _ _ _ _, chg_refl _ _, fun k hk => .inl hk⟩
  case round =>
    obtain ⟨i, hi, rfl, d1⟩ := hrel
    by_cases hlt : i < s.size
    · go_wp2
      go_loopw [3, 5] (fun lv kv wr => BiRel s i W lv kv wr) (fun _ kv _ => 8 - (intOf kv).toNat)
      case atStart => exact ⟨0, by omega, rfl, d1⟩
      case round =>
        clear d1
        obtain ⟨k, hk, rfl, d1⟩ := hrel
        by_cases hk8 : k < 8
        · have hG := got_byte s.data.toList (8 * i + k) 1 (by rw [len_data]; omega) (by omega)
          have hG2 : Hid ((le s.data.toList) / 2 ^ (8 * i + k) % 2 = s[i].toNat / 2 ^ k % 2) := by
            show _ = _
            unfold got at hG
            have hG3 : le s.data.toList / 2 ^ (8 * i + k) % 2 = s.data[i].toNat / 2 ^ k % 2 := by simpa [show (8 * i + k) / 8 = i from by omega, show (8 * i + k) % 8 = k from by omega] using hG
            exact hG3
          have hc := UInt8.toNat_lt s[i]
          have hd : ((s[i].toNat : Int) / 2 ^ k) = ((s[i].toNat / 2 ^ k : Nat) : Int) := by simp
          have hband := and_one8 (s[i].toNat / 2 ^ k) (Nat.lt_of_le_of_lt (Nat.div_le_self _ _) hc)
          clear hG
          generalize hb : s[i].toNat / 2 ^ k % 2 = b at hG2 hband
          have hb2 : b < 2 := by rw [← hb]; exact Nat.mod_lt _ (by decide)
          clear hb
          generalize s[i].toNat / 2 ^ k = y at *
          go_wp2_with (at_builtin; refine wpList_push8 _ rfl (.tmp 16) (.tmp 23) 48 rfl i0 Tryz.underlying48 hi0 hz0 hz1 hz2 u3 (8 * i + k) (bit (le s.data.toList) (8 * i + k)) rfl (World.ownsRow.alloc d1.1 _) (by omega) ⟨wr.heap.size, 0, none⟩ b (UInt8.ofNat b) (by rw [u8_of _ (by omega)]) rfl (by simp) ?_)
          intro v' w2 g1 g2 g3
          have d2 : Bs W w2 v' (le s.data.toList) (8 * i + k + 1) := bs_push d1 (chg_alloc (chg_refl _ _) _) hG2.out.symm (by simpa using g1) g2 g3
          clear g1 g2 g3 d1 hG2 hband hd
          go_wp2
          go_roundw
          case rel => exact ⟨k + 1, by omega, by go_num, d2⟩
          case measure => simp [intOf]; omega
        · obtain rfl : k = 8 := by omega
          go_wp2
          go_roundw
          case rel => exact ⟨i + 1, by omega, by go_num, d1⟩
          case measure => simp [intOf]; omega
    · obtain rfl : i = s.size := by omega
      go_wp2
      go_ret
      exact ⟨u3, rfl, d1⟩

/-- Block A is the reference's walk through the bits of X, L of them, a taken. -/
def Wkh (W : World) (A : Nat) (v : Value) (X L a : Nat) : Prop :=
  Blk W A #[v, .int .i64 a] 133 ∧ W.ownsRow 0 5 1 v L ((bit X L).map byteV) ∧ v.ownBlock ≠ some A

theorem own_val {W : World} {v : Value} {n : Nat} {xs : List Value} (h : W.ownsRow 0 5 1 v n xs) : ∃ a cap, v = .slice a n cap := by
  rcases h.2 with ⟨hv, h0⟩ | ⟨g, cap, cur, hv, _⟩
  · exact ⟨none, 0, by rw [hv, h0]⟩
  · exact ⟨_, cap, hv⟩

theorem rfrom_any (s : ByteArray) (W : World) (hs : s.size ≤ 10000) :
    Calls Tryz.prog 35 #[.string s] W fun e W' => ∃ A v, e = .returned (ptr A) ∧ Wkh W' A v (le s.data.toList) (8 * s.size) 0 ∧ W.heap.size ≤ A ∧ (∀ k, v.ownBlock = some k → W.heap.size ≤ k) ∧ Chg (fun _ => False) W W' := by
  go_enter Tryz.func35, Tryz.ntmps35
  go_wp2_with fail
  refine (bits_any s W hs).mono ?_
  rintro e w1 ⟨v, rfl, d1, d2, d3⟩
  have hv : ∀ k, v.ownBlock = some k → W.heap.size ≤ k := fun k hk => (d3 k hk).elim (fun e => by simp [Value.ownBlock] at e) id
  have HV := Hid.intro hv
  clear hv
  obtain ⟨a, cap, rfl⟩ := own_val d1
  go_wp2
  go_ret
  refine ⟨w1.heap.size, _, rfl, ⟨blk_new _ _ _, World.ownsRow.alloc d1 _, fun e => ?_⟩, chg_size d2, HV.out, chg_alloc d2 _⟩
  have := (d1.lt _ e).2
  omega

def agg3 (n e : Nat) : Value := .agg #[.int .u64 n, .int .i64 0, .int .i64 e]

set_option maxRecDepth 100000 in
theorem rget_arg (A : Nat) (n : Int) (W : World) (h : n < 0 ∨ 64 < n) :
    Calls Tryz.prog 37 #[ptr A, .int .i64 n] W fun e W' => e = .returned (agg3 0 1) ∧ Chg (fun _ => False) W W' := by
  unfold ptr
  rcases h with h | h
  · go_enter Tryz.func37, Tryz.ntmps37
    go_wp2
    exact bodyPost_ret (v := agg3 0 1) (by simp [results, Tryz.results37, go_sem, agg3]) rfl ⟨rfl, chg_alloc (chg_refl _ _) _⟩
  · have h0 : ¬ n < 0 := by omega
    go_enter Tryz.func37, Tryz.ntmps37
    go_wp2
    exact bodyPost_ret (v := agg3 0 1) (by simp [results, Tryz.results37, go_sem, agg3]) rfl ⟨rfl, chg_alloc (chg_refl _ _) _⟩

set_option maxRecDepth 100000 in
theorem rget_more (A : Nat) (v : Value) (X L a n : Nat) (W : World) (h : Wkh W A v X L a) (ha : a ≤ L) (_hL : L ≤ 100000) (hn : n ≤ 64) (hm : L < a + n) :
    Calls Tryz.prog 37 #[ptr A, .int .i64 n] W fun e W' => e = .returned (agg3 0 2) ∧ Chg (fun _ => False) W W' := by
  obtain ⟨h1, h2, h3⟩ := h
  obtain ⟨av, cap, rfl⟩ := own_val h2
  have c0 : W.cell? ⟨A, 0, none⟩ = some (.slice av L cap) := by rw [blk_cell h1]; rfl
  have c1 : W.cell? ⟨A, 1, none⟩ = some (.int .i64 a) := by rw [blk_cell h1]; rfl
  have hlt := blk_lt h1
  have w1 : IntKind.i64.wrap ((L : Int) - a) = (L : Int) - a := by rw [IntKind.wrap_i64]; omega
  have hd : decide ((L : Int) - a < n) = true := decide_eq_true (by omega)
  unfold ptr
  go_enter Tryz.func37, Tryz.ntmps37
  go_wp2
  go_region
  go_wp2
  exact bodyPost_ret (v := agg3 0 2) (by simp [results, Tryz.results37, go_sem, agg3]) rfl ⟨rfl, chg_drew (chg_alloc (chg_refl _ _) _)⟩


theorem bts_row {W : World} {g L cap : Nat} {cur : Array Value} {X : Nat} (hg : Blk W g cur 5) (ht : cur.toList.take L = (bit X L).map byteV) (a n : Nat) (hm : a + n ≤ L) : Bts W (.slice (some ⟨g, a, none⟩) n cap) X a n := by
  refine ⟨_, _, rfl, fun j hj => ⟨_, rfl, ?_⟩⟩
  rw [Addr.add_lit]
  show W.cell? ⟨g, a + j, none⟩ = _
  rw [own_cell8 hg ht (a + j) (by rw [bit_len]; omega) (bit_len _ _), bit_get, byteV, u8_of _ (by omega)]
  unfold got
  rw [Nat.pow_one]
theorem bts_kept {W W' : World} {v : Value} {X a n : Nat} (h : Bts W v X a n) (c : Chg (fun _ => False) W W') : Bts W' v X a n := by
  obtain ⟨s, cap, rfl, hc⟩ := h
  refine ⟨s, cap, rfl, fun j hj => ?_⟩
  obtain ⟨ad, hs, hcell⟩ := hc j hj
  exact ⟨ad, hs, by rw [World.cell?_of_block (c.2.2.2.2 _ (World.block_lt_of_cell? _ _ hcell) (fun h => h))]; exact hcell⟩

/-- What stands at the call of number: the slice of the bits that are asked for. -/
theorem cut_bits {W : World} {v : Value} {X L : Nat} (h : W.ownsRow 0 5 1 v L ((bit X L).map byteV)) : ∃ av cap, v = .slice av L cap ∧ L ≤ cap ∧ cap ≤ 9223372036854775807 ∧
    ∀ a n, a + n ≤ L → Bts W (.slice (if cap = a then av else av.map (·.add a)) n (cap - a)) X a n := by
  rcases h.2 with ⟨rfl, rfl⟩ | ⟨g, cap, cur, rfl, _, hgb, hcap, hcm, hcs, ht⟩
  · refine ⟨none, 0, rfl, Nat.le_refl _, by omega, fun a n hm => ⟨_, _, rfl, fun j hj => by omega⟩⟩
  · unfold maxLen at hcm
    refine ⟨_, cap, rfl, hcap, by omega, fun a n hm => ?_⟩
    by_cases hca : cap = a
    · exact ⟨_, _, rfl, fun j hj => by omega⟩
    · rw [if_neg hca]
      have := bts_row (cap := cap - a) hgb (by simpa using ht) a n hm
      simpa [Addr.add_lit] using this

theorem chg_get (W : World) (A : Nat) (x : Value) (o : Obj) : Chg (fun k => k = A) W ((W.setCell ⟨A, 1, none⟩ x).alloc o).drew.drew :=
  chg_drew (chg_drew (chg_alloc (chg_set (S := fun k => k = A) (chg_refl _ _) _ _ (fun _ => rfl)) _))

set_option maxRecDepth 100000 in
set_option maxHeartbeats 1000000 in
theorem rget_ok (A : Nat) (v : Value) (X L a n : Nat) (W : World) (h : Wkh W A v X L a) (hL : L ≤ 100000) (hn : n ≤ 64) (hm : a + n ≤ L) :
    Calls Tryz.prog 37 #[ptr A, .int .i64 n] W fun e W' => e = .returned (agg3 (got X a n) 0) ∧ Wkh W' A v X L (a + n) ∧ Chg (· = A) W W' := by
  obtain ⟨h1, h2, h3⟩ := h
  obtain ⟨av, cap, rfl, hcap, hcm, hbts⟩ := cut_bits h2
  have hbt := hbts a n hm
  have c0 : W.cell? ⟨A, 0, none⟩ = some (.slice av L cap) := by rw [blk_cell h1]; rfl
  have c1 : W.cell? ⟨A, 1, none⟩ = some (.int .i64 a) := by rw [blk_cell h1]; rfl
  have hlt := blk_lt h1
  have f1 := blk_free h1 1
  have w1 : IntKind.i64.wrap ((L : Int) - a) = (L : Int) - a := by rw [IntKind.wrap_i64]; omega
  have w2 : IntKind.i64.wrap ((a : Int) + n) = (a : Int) + n := by rw [IntKind.wrap_i64]; omega
  have hd : decide ((L : Int) - a < n) = false := decide_eq_false (by omega)
  have s0 : (0 : Int) ≤ a := by omega
  have s1 : (a : Int) ≤ (a : Int) + n := by omega
  have s2 : (a : Int) + n ≤ cap := by omega
  have s3 : ((a : Int) + n).toNat = a + n := by omega
  clear hbts
  by_cases hca : cap = a
  · have hca' := hca.symm
    subst hca'
    simp only [if_true, Nat.sub_self] at hbt
    have NM := fun (W' : World) (c : Chg (fun _ => False) W W') => number_any _ X a n W' hn (bts_kept hbt c)
    have HH := Hid.intro (And.intro h1 (And.intro h2 h3))
    clear hbt h1 h2 h3
    generalize got X a n = z at *
    unfold ptr
    go_enter Tryz.func37, Tryz.ntmps37
    go_wp2
    go_region
    go_wp2
    go_region_with (go_at_call 66; refine (NM _ (chg_drew (chg_drew (chg_alloc (chg_refl _ _) _)))).mono ?_; rintro e w5 ⟨rfl, rfl⟩)
    all_goals
      go_wp2
      have hch : Chg (· = A) W ((W.setCell ⟨A, 1, none⟩ (.int .i64 ((a : Int) + n))).alloc (.cells #[.int .u64 (z : Int), .int .i64 0, .int .i64 0] 87)).drew.drew := chg_get W A _ _
      refine bodyPost_ret (v := agg3 z 0) (by simp [results, Tryz.results37, go_sem, agg3]) rfl ⟨rfl, ⟨?_, own_kept HH.out.2.1 hch (fun k hk e => HH.out.2.2 (by rw [hk, e])), HH.out.2.2⟩, hch⟩
      exact blk_drew (blk_drew (blk_alloc (by simpa using blk_set HH.out.1 1 (.int .i64 ((a : Int) + n))) _))
  · simp only [hca, if_false] at hbt
    have NM := fun (W' : World) (c : Chg (fun _ => False) W W') => number_any _ X a n W' hn (bts_kept hbt c)
    have HH := Hid.intro (And.intro h1 (And.intro h2 h3))
    clear hbt h1 h2 h3
    generalize got X a n = z at *
    unfold ptr
    go_enter Tryz.func37, Tryz.ntmps37
    go_wp2
    go_region
    go_wp2
    go_region_with (go_at_call 66; refine (NM _ (chg_drew (chg_drew (chg_alloc (chg_refl _ _) _)))).mono ?_; rintro e w5 ⟨rfl, rfl⟩)
    all_goals
      go_wp2
      have hch : Chg (· = A) W ((W.setCell ⟨A, 1, none⟩ (.int .i64 ((a : Int) + n))).alloc (.cells #[.int .u64 (z : Int), .int .i64 0, .int .i64 0] 87)).drew.drew := chg_get W A _ _
      refine bodyPost_ret (v := agg3 z 0) (by simp [results, Tryz.results37, go_sem, agg3]) rfl ⟨rfl, ⟨?_, own_kept HH.out.2.1 hch (fun k hk e => HH.out.2.2 (by rw [hk, e])), HH.out.2.2⟩, hch⟩
      exact blk_drew (blk_drew (blk_alloc (by simpa using blk_set HH.out.1 1 (.int .i64 ((a : Int) + n))) _))


theorem rget_any (A : Nat) (v : Value) (X L a : Nat) (n : Int) (W : World) (h : Wkh W A v X L a) (ha : a ≤ L) (hL : L ≤ 100000) :
    Calls Tryz.prog 37 #[ptr A, .int .i64 n] W fun e W' => e = .returned (agg3 (got X a (gk L a n)) (ge L a n)) ∧ Wkh W' A v X L (a + gk L a n) ∧ Chg (· = A) W W' := by
  by_cases h1 : n < 0 ∨ 64 < n
  · have e1 : ge L a n = 1 := by unfold ge; rw [if_pos h1]
    have e2 : gk L a n = 0 := by unfold gk; rw [e1]; rfl
    rw [e1, e2, got_zero]
    refine (rget_arg A n W h1).mono ?_
    rintro e w1 ⟨rfl, k⟩
    exact ⟨rfl, ⟨blk_kept h.1 k (fun h => h), own_kept h.2.1 k (fun _ _ h => h), h.2.2⟩, chg_mono k (fun _ _ h => h.elim)⟩
  · obtain ⟨m, rfl⟩ := Int.eq_ofNat_of_zero_le (show 0 ≤ n by omega)
    by_cases h2 : L < a + m
    · have e1 : ge L a m = 2 := by unfold ge; rw [if_neg h1, if_pos (by omega)]
      have e2 : gk L a m = 0 := by unfold gk; rw [e1]; rfl
      rw [e1, e2, got_zero]
      refine (rget_more A v X L a m W h ha hL (by omega) h2).mono ?_
      rintro e w1 ⟨rfl, k⟩
      exact ⟨rfl, ⟨blk_kept h.1 k (fun h => h), own_kept h.2.1 k (fun _ _ h => h), h.2.2⟩, chg_mono k (fun _ _ h => h.elim)⟩
    · have e1 : ge L a m = 0 := by unfold ge; rw [if_neg h1, if_neg (by omega)]
      have e2 : gk L a m = m := by unfold gk; rw [e1]; rfl
      rw [e1, e2]
      exact rget_ok A v X L a m W h hL (by omega) (by omega)

theorem chg_drewNb (W : World) (k : Nat) : Chg (fun _ => False) W (W.drewN k) := ⟨rfl, rfl, rfl, Nat.le_refl _, fun _ _ _ => rfl⟩
theorem number_q {v : Value} (X a n : Nat) (W : World) (k : Nat) (hn : n ≤ 64) (h : Bts W v X a n) :
    Calls Tryz.prog 66 #[v] (W.drewN k) fun e W' => e = .returned (.int .u64 (got X a n : Nat)) ∧ W' = W.drewN k := by
  refine (number_any v X a n (W.drewN k) hn (bts_kept h (chg_drewNb W k))).mono ?_
  rintro e w1 ⟨rfl, rfl⟩
  exact ⟨rfl, rfl⟩

set_option maxRecDepth 100000 in
theorem rrest_far (A : Nat) (v : Value) (X L a : Nat) (W : World) (h : Wkh W A v X L a) (_hL : L ≤ 100000) (ha : a + 8 ≤ L) :
    Calls Tryz.prog 38 #[ptr A] W fun e W' => e = .returned (.bool false) ∧ Chg (fun _ => False) W W' := by
  obtain ⟨h1, h2, h3⟩ := h
  obtain ⟨av, cap, rfl, hcap, hcm, hbts⟩ := cut_bits h2
  have c0 : W.cell? ⟨A, 0, none⟩ = some (.slice av L cap) := by rw [blk_cell h1]; rfl
  have c1 : W.cell? ⟨A, 1, none⟩ = some (.int .i64 a) := by rw [blk_cell h1]; rfl
  have w1 : IntKind.i64.wrap ((L : Int) - a) = (L : Int) - a := by rw [IntKind.wrap_i64]; omega
  have hd : decide ((L : Int) - a < 8) = false := decide_eq_false (by omega)
  clear hbts h2 h3
  unfold ptr
  go_enter Tryz.func38, Tryz.ntmps38
  go_wp2
  go_region
  go_wp2
  go_ret
  exact ⟨rfl, chg_refl _ _⟩

set_option maxRecDepth 100000 in
theorem rrest_near (A : Nat) (v : Value) (X L a : Nat) (W : World) (h : Wkh W A v X L a) (hL : L ≤ 100000) (ha : a ≤ L) (ha8 : L < a + 8) :
    Calls Tryz.prog 38 #[ptr A] W fun e W' => e = .returned (.bool (decide (got X a (L - a) = 0))) ∧ Chg (fun _ => False) W W' := by
  obtain ⟨h1, h2, h3⟩ := h
  obtain ⟨av, cap, rfl, hcap, hcm, hbts⟩ := cut_bits h2
  have hbt := hbts a (L - a) (by omega)
  have c0 : W.cell? ⟨A, 0, none⟩ = some (.slice av L cap) := by rw [blk_cell h1]; rfl
  have c1 : W.cell? ⟨A, 1, none⟩ = some (.int .i64 a) := by rw [blk_cell h1]; rfl
  have w1 : IntKind.i64.wrap ((L : Int) - a) = (L : Int) - a := by rw [IntKind.wrap_i64]; omega
  have hd : decide ((L : Int) - a < 8) = true := decide_eq_true (by omega)
  have s0 : (0 : Int) ≤ a := by omega
  have s1 : (a : Int) ≤ L := by omega
  clear hbts h2 h3
  by_cases hca : cap = a
  · have hLa : a = L := by omega
    subst hLa
    subst hca
    simp only [if_true, Nat.sub_self] at hbt ⊢
    have NM := fun (k : Nat) => number_q X cap 0 W k (by omega) hbt
    clear hbt
    rw [← nat_beq]
    generalize got X cap 0 = z at *
    unfold ptr
    go_enter Tryz.func38, Tryz.ntmps38
    go_wp2
    go_quiet ((go_at_call 66; refine Calls.quiet_of_same (NM _)))
    go_wp2
    go_ret
    exact ⟨rfl, chg_drewNb _ _⟩
  · simp only [hca, if_false] at hbt
    have NM := fun (k : Nat) => number_q X a (L - a) W k (by omega) hbt
    clear hbt
    rw [← nat_beq]
    generalize got X a (L - a) = z at *
    unfold ptr
    go_enter Tryz.func38, Tryz.ntmps38
    go_wp2
    go_quiet ((go_at_call 66; refine Calls.quiet_of_same (NM _)))
    go_wp2
    go_ret
    exact ⟨rfl, chg_drewNb _ _⟩

theorem rrest_any (A : Nat) (v : Value) (s : ByteArray) (a : Nat) (W : World) (h : Wkh W A v (le s.data.toList) (8 * s.size) a) (hs : s.size ≤ 10000) (ha : a ≤ 8 * s.size) :
    Calls Tryz.prog 38 #[ptr A] W fun e W' => e = .returned (.bool (rs s a)) ∧ Chg (fun _ => False) W W' := by
  by_cases h8 : 8 * s.size < a + 8
  · refine (rrest_near A v _ _ a W h (by omega) ha h8).mono ?_
    rintro e w1 ⟨rfl, k⟩
    exact ⟨by rw [rs, decide_eq_true h8, Bool.true_and], k⟩
  · refine (rrest_far A v _ _ a W h (by omega) (by omega)).mono ?_
    rintro e w1 ⟨rfl, k⟩
    exact ⟨by rw [rs, decide_eq_false h8, Bool.false_and], k⟩
end Go.Proofs.YtofclflcicjlaaaGreat
