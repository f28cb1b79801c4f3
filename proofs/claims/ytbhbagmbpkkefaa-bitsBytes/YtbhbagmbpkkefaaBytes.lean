/-
  Whole bytes put are these bytes, and behind bits they stand further on, whatever the bytes.
-/
import Derived.Test.YtbhbagmbpkkefaaRows
import Derived.WalkKit
import Derived.ProofKit
import Derived.OpenShut
import Derived.BigQuiet
import Derived.Deep.QuietTactic
import Derived.Test.YtbhbagmbpkkefaaOwn
import Derived.ShutString
namespace Go.Proofs.Ytbhbagmbpkkefaa.bitsBytes
open Go.ChangeShapes Go.WideShapes Go.ChangeAt Go.RowKit
open Go.ChangeMaps (open_string shut_string)
set_option linter.unusedVariables false      -- a walk need not use every 'w<i>' (that an integer argument fits its kind)

theorem own : ownKnob Try.prog.godebug = none := by kernel_rfl

theorem le_take (l : List UInt8) (i : Nat) (h : i < l.length) : le (l.take (i + 1)) = le (l.take i) + l[i].toNat * 256 ^ i := by
  rw [List.take_succ_eq_append_getElem h, le_snoc, List.length_take, Nat.min_eq_left (by omega)]

theorem put_byte (l : List UInt8) (i k x : Nat) (h : i < l.length) (hx : x % 256 = l[i].toNat) : le (l.take i) * 2 ^ k + x % 2 ^ 8 * 2 ^ (k + 8 * i) = le (l.take (i + 1)) * 2 ^ k := by
  rw [le_take l i h, Nat.add_mul, Nat.pow_add, ← pow256, show (2 : Nat) ^ 8 = 256 from rfl, hx, Nat.mul_comm (2 ^ k) (256 ^ i), Nat.mul_assoc]

theorem got_shift (X k i : Nat) : got (X * 2 ^ k) (k + 8 * i) 8 = X / 256 ^ i % 256 := by
  unfold got
  rw [Nat.pow_add, ← Nat.div_div_eq_div_mul, Nat.mul_div_cancel _ (Nat.pow_pos (by decide)), ← pow256]

theorem got_over (N a n : Nat) (h : N < 2 ^ a) : got N a n = 0 := by
  unfold got; rw [Nat.div_eq_of_lt h, Nat.zero_mod]

theorem le_bytes (N sz : Nat) (h : N < 2 ^ sz) : le (byt N (byc sz)) = N := by rw [le_byt, Nat.mod_eq_of_lt (lt_byc N sz h)]

def ByRel (s : ByteArray) (k : Nat) (w : World) (A B : Nat) (iv : Value) (wr : World) : Prop :=
  ∃ (i : Nat) (va vb : Value), i ≤ s.size ∧ iv = .int .i64 i ∧ Wr wr A va (8 * i) (le (s.data.toList.take i)) ∧ Up w.heap.size A va ∧ Wr wr B vb (k + 8 * i) (le (s.data.toList.take i) * 2 ^ k) ∧ Up w.heap.size B vb ∧ Below w.heap.size w wr ∧ Apart A va B vb

def ByRel2 (s S : ByteArray) (k : Nat) (w : World) (A : Nat) (va : Value) (R : Nat) (iv : Value) (wr : World) : Prop :=
  ∃ (i : Nat), i ≤ s.size ∧ iv = .int .i64 i ∧ Wr wr A va (8 * s.size) (le s.data.toList) ∧ Rd wr R S (k + 8 * i) ∧ Below w.heap.size w wr

theorem err_z (e : Int) (w : World) (h1 : 0 ≤ e) (h2 : e ≤ 100) : Calls Try.prog 20 #[.int .i64 e] w fun x w' => x = .returned (.int .i64 e) ∧ w = w' := by
  go_enter Try.func20, Try.ntmps20
  go_wp2
  go_ret
  exact ⟨rfl, rfl⟩

theorem get_ok {w W : World} (A : Nat) (s : ByteArray) (a n : Nat) (h : Rd W A s a) (hu : w.heap.size ≤ A) (hb : Below w.heap.size w W) (hs : s.size ≤ 100000) (ha : a + n ≤ 8 * s.size) (hn : n ≤ 64) (y : Nat) (hy : got (le s.data.toList) a n = y) :
    Calls Try.prog 18 #[ptr A, .int .i64 n] W fun e W' => e = .returned (.tuple #[.int .u64 y, .int .i64 0]) ∧ Rd W' A s (a + n) ∧ Below w.heap.size w W' ∧ Chg (· = A) W W' := by
  subst hy
  refine (get_nat A s hs n a W h ha hn).mono ?_
  rintro e W' ⟨rfl, k1, k2⟩
  exact ⟨rfl, k1, below_one hb k2 hu, k2⟩

theorem big (s : ByteArray) (n : Nat) (h : 60 < s.size) (w : World) :
    Calls Try.prog 8 #[.string s, .int .u8 n] w fun e w' => e = .returned (.bool true) ∧ Below w.heap.size w w' := by
  go_enter Try.func8, Try.ntmps8
  go_wp2_with (go_at_call 10; refine (awake_own (Below.refl _ w)).mono ?_; rintro e w9 ⟨rfl, hb9⟩)
  go_ret
  exact ⟨rfl, by assumption⟩

set_option maxRecDepth 100000 in
set_option maxHeartbeats 1000000 in
theorem core (s : ByteArray) (n k : Nat) (hs : s.size ≤ 60) (hn : n < 256) (hk : k < 8) (hnk : (n : Int) % 8 = (k : Int)) (w : World) :
    Calls Try.prog 8 #[.string s, .int .u8 n] w fun e w' => e = .returned (.bool true) ∧ Below w.heap.size w w' := by
  go_enter Try.func8, Try.ntmps8
  go_wp2_with fail
  refine (new_own (Below.refl _ w)).mono ?_
  rintro e w1 ⟨A, rfl, s1, a1, a2, a3, _⟩
  unfold ptr
  go_wp2_with fail
  refine (new_own a3).mono ?_
  rintro e w2 ⟨B, rfl, s2, b1, b2, b3, b4⟩
  have a4 := wr_kept a1 b4 (fun _ _ h => h)
  have ap := apart_new (wr_lt a1) s2
  clear s1 s2 a1 a3 b4
  unfold ptr
  go_wp2_with fail
  refine (put_own B _ 0 0 0 k b1 b2 b3 (by omega) (by omega) (by omega) (by omega) k 0 (by rw [cl_nat k (by omega), Nat.zero_add]) (by simp)).mono ?_
  rintro e w3 ⟨rfl, vb, c1, c2, c3, c4, c5⟩
  have a5 := wr_kept a4 c4 ap
  have ap2 := apart_symm (apart_moved (apart_symm ap) c5 (wr_lt a4))
  clear b3 b1 b2 c4 c5 ap a4
  go_wp2_with fail
  try simp only [hnk]
  clear hnk
  go_loopw [8] (fun iv wr => ByRel s k w A B iv wr) (fun iv _ => s.size - (intOf iv).toNat)
  case atStart => exact ⟨0, _, _, by omega, rfl, a5, a2, by simpa [le] using c1, c2, c3, ap2⟩
  case round =>
    clear a5 a2 c1 c2 c3 ap2
    obtain ⟨i, va, vb, hi, rfl, d1, d2, d3, d4, d5, d6⟩ := hrel
    have hlen := len_data s
    by_cases hlt : i < s.size
    · have hc : s[i].toNat < 256 := UInt8.toNat_lt _
      have hor : bits .or .u64 (s[i].toNat : Int) 256 = ((s[i].toNat + 256 : Nat) : Int) := by
        rw [show (256 : Int) = ((256 : Nat) : Int) from rfl, u64_or_nat _ _ (by omega) (by omega), show (256 : Nat) = 1 * 2 ^ 8 from rfl, or_hi _ _ _ hc]
      have P1 := put_own A va (8 * i) _ s[i].toNat 8 d1 d2 d5 (by omega) (by omega) (by omega) (by omega) (8 * (i + 1)) (le (s.data.toList.take (i + 1))) (by rw [show cl 8 = 8 from rfl]; omega)
        (by have := put_byte s.data.toList i 0 s[i].toNat (by omega) (by rw [Nat.mod_eq_of_lt hc]; rfl); simpa [show cl 8 = 8 from rfl] using this)
      have P2 := fun W (h : Wr W B vb (k + 8 * i) (le (s.data.toList.take i) * 2 ^ k)) (hb : Below w.heap.size w W) => put_own B vb (k + 8 * i) _ (s[i].toNat + 256) 8 h d4 hb (by omega) (by omega) (by omega) (by omega) (k + 8 * (i + 1)) (le (s.data.toList.take (i + 1)) * 2 ^ k) (by rw [show cl 8 = 8 from rfl]; omega)
        (by rw [show cl 8 = 8 from rfl]; exact put_byte s.data.toList i k (s[i].toNat + 256) (by omega) (by rw [Nat.add_mod_right, Nat.mod_eq_of_lt hc]; rfl))
      clear hlen
      generalize s[i].toNat + 256 = z at *
      go_wp2_with fail
      refine P1.mono ?_
      rintro e w4 ⟨rfl, va', e1, e2, e3, e4, e5⟩
      have d3' := wr_kept d3 e4 (apart_symm d6)
      have d6' := apart_moved d6 e5 (wr_lt d3)
      go_wp2_with fail
      refine (P2 w4 d3' e3).mono ?_
      rintro e w5 ⟨rfl, vb', f1, f2, f3, f4, f5⟩
      go_wp2
      go_roundw
      case rel => exact ⟨i + 1, va', vb', by omega, by go_num, wr_kept e1 f4 d6', e2, f1, f2, f3, apart_symm (apart_moved (apart_symm d6') f5 (wr_lt e1))⟩
      case measure => simp [intOf]; omega
    · obtain rfl : i = s.size := by omega
      rw [List.take_of_length_le (by omega)] at d1 d3
      clear hlen hlt hi
      go_wp2_with fail
      refine (bytes_any B vb _ _ wr d3).mono ?_
      rintro e w4 ⟨rfl, rfl⟩
      have hS1 : (bs (byt (le s.data.toList * 2 ^ k) (byc (k + 8 * s.size)))).size = byc (k + 8 * s.size) := by rw [size_bs, byt_len]
      have hS2 : Hid (le (bs (byt (le s.data.toList * 2 ^ k) (byc (k + 8 * s.size)))).data.toList = le s.data.toList * 2 ^ k) := by
        show _ = _
        rw [bs_data, le_bytes _ _ d3.2.2.2]
      have hN : Hid (le s.data.toList * 2 ^ k < 2 ^ (k + 8 * s.size)) := d3.2.2.2
      generalize bs (byt (le s.data.toList * 2 ^ k) (byc (k + 8 * s.size))) = S at *
      have hS3 : 8 * S.size < k + 8 * s.size + 8 ∧ k + 8 * s.size ≤ 8 * S.size := by rw [hS1]; unfold byc; omega
      have hS4 : S.size ≤ 100 := by omega
      clear hS1 d3 d4 d6
      go_wp2_with fail
      refine (from_own S d5).mono ?_
      rintro e w4 ⟨R, rfl, r1, r2, r3, r4, r5⟩
      have hR : Hid (∀ k, foot A va k → ¬ (k = R)) := fun k hk e => by have := wr_lt d1 k hk; omega
      have d1' := wr_kept d1 r5 (fun _ _ h => h)
      clear d1 r1 r5 d5
      unfold ptr
      go_wp2_with fail
      refine (get_ok R S 0 k r2 r3 r4 (by omega) (by omega) (by omega) _ rfl).mono ?_
      rintro e w5 ⟨rfl, t1, t2, t3⟩
      have d1 := wr_kept d1' t3 hR.out
      generalize got (le S.data.toList) 0 k = y0
      clear d1' t3 r2 r4
      rw [Nat.zero_add] at t1
      go_wp2_with fail
      go_loopw [10] (fun iv wr => ByRel2 s S k w A va R iv wr) (fun iv _ => s.size - (intOf iv).toNat)
      case atStart => exact ⟨0, by omega, rfl, d1, t1, t2⟩
      case round =>
        clear d1 t1 t2
        obtain ⟨i, hi, rfl, d1, d3, d5⟩ := hrel
        by_cases hlt : i < s.size
        · have hy : Hid (got (le S.data.toList) (k + 8 * i) 8 = s[i].toNat) := by
            show _ = _
            rw [hS2.out, got_shift, le_get _ _ (by rw [len_data]; exact hlt)]; rfl
          have hc : s[i].toNat < 256 := UInt8.toNat_lt _
          generalize hyz : s[i].toNat = y at *
          go_wp2_with fail
          refine (get_ok R S (k + 8 * i) 8 d3 r3 d5 (by omega) (by omega) (by omega) y hy.out).mono ?_
          rintro e w6 ⟨rfl, e1, e2, e3⟩
          clear hy
          go_wp2_with (go_at_call 20; refine (err_z _ _ (by omega) (by omega)).mono ?_; rintro e w1 ⟨rfl, rfl⟩)
          go_roundw
          case rel => exact ⟨i + 1, by omega, by go_num, wr_kept d1 e3 hR.out, by rw [Nat.mul_add, ← Nat.add_assoc]; exact e1, e2⟩
          case measure => simp [intOf]; omega
        · obtain rfl : i = s.size := by omega
          have hB : bs (byt (le s.data.toList) (byc (8 * s.size))) = s := by
            rw [show byc (8 * s.size) = s.data.toList.length from by rw [len_data]; unfold byc; omega, byt_le, bs_list]
          have B1 := bytes_any A va _ _ wr d1
          rw [hB] at B1
          unfold ptr at B1
          clear hB
          go_wp2_with (go_at_call 14; refine B1.mono ?_; rintro e w1 ⟨rfl, rfl⟩)
          refine (rest_own R S (k + 8 * s.size) d3 d5 (by omega) (by omega) true (by
            rw [rs, decide_eq_true hS3.1, Bool.true_and, hS2.out, got_over _ _ _ hN.out]; rfl)).mono ?_
          rintro e w6 ⟨rfl, e1, e2, e3⟩
          go_wp2_with (go_at_call 10; refine (awake_own e2).mono ?_; rintro e w9 ⟨rfl, hb9⟩)
          go_ret
          exact ⟨rfl, by assumption⟩

theorem walk (a0 : ByteArray) (a1 : Int) (w0 : a0.size ≤ maxLen) (w1 : (Lit.int .u8 a1).wf = true) (w : World) :
    Calls Try.prog 8 #[.string a0, .int .u8 a1] w fun e w' => e = .returned (.bool true) ∧ Below w.heap.size w w' := by
  have n1 := bounds_u8 w1
  obtain ⟨n, rfl⟩ := Int.eq_ofNat_of_zero_le n1.1
  by_cases h : 60 < a0.size
  · exact big a0 n h w
  · exact core a0 n (n % 8) (by omega) (by omega) (by omega) (by omega) w

/-! ### THE ROW's STEP: WRITTEN OUT: LEAVE IT -/
set_option maxRecDepth 100000 in
theorem lifted (os : Os) (started : os.Started) (H : Type) (enc : TypeId × Value → H) :
    ReturnsInHanded {} Try.checked os 8 .any (Rows.bitsBytesSpec.pre6 enc Try.prog Try.f8 Rows.bitsBytesRow.domain false) (Rows.bitsBytesSpec.post enc Try.prog Try.f8 false true false false) := by
  refine returnsInHanded_of_change (C := Try.checked) own started (by kernel_rfl) Try.func8
    (ChangeSpec.witness6 (enc := enc) (C := Try.checked) false ⟨#[], #[.string ByteArray.empty, .int .u8 0], []⟩ 8 (by kernel_rfl) (by kernel_rfl) (by kernel_rfl) (by kernel_rfl)) ?_
  intro W base args ds gs before hval0 hW hcnd _
  have hval : ∀ (j : Nat) t v, Try.f8.params[j]? = some t → args[j]? = some v → Value.okWide Try.prog W .any base t v := hval0
  have hW' := hW
  obtain ⟨p, q, hA0, hV, rfl, hfz, hnd⟩ := hW
  have hA : DataW.TrodAll enc Try.prog W 0 (fun _ => true) true Try.f8.params.toList args.toList ds p := hA0
  rw [Try.params8] at hA hval
  obtain ⟨v0, vs0, d0, ds0, p0, q0, hargs, rfl, rfl, h0, r0⟩ := trodAll_cons hA
  obtain ⟨v1, vs1, d1, ds1, p1, q1, rfl, rfl, rfl, h1, r1⟩ := trodAll_cons r0
  obtain ⟨rfl, rfl, rfl⟩ := trodAll_nil r1
  obtain rfl : args = #[v0, v1] := by cases args; simp_all
  obtain ⟨rfl, rfl⟩ := trodVars_none hV
  obtain ⟨a0, rfl, rfl, rfl, w0⟩ := open_string Try.underlying9 (hval 0 9 v0 rfl rfl) h0
  obtain ⟨a1, rfl, rfl, rfl, w1⟩ := open_int Try.underlying5 (hval 1 5 v1 rfl rfl) h1
  clear hA0 hval0
  refine (walk a0 a1 w0 w1 W).mono fun e W' ⟨he, bel⟩ => ?_
  subst he
  exact ⟨_, rfl, _, _, _, [], _, [], hW', (trodAll_cons_mk (shut_bool Try.underlying4 _) trodAll_mk0), (trodAll_cons_mk (shut_string Try.underlying9 w0) (trodAll_cons_mk (shut_int Try.underlying5 w1) trodAll_mk0)), rfl, bel.frame _, fun h => by cases h⟩

theorem over : Rows.bitsBytesRow.holds Try.pinned (OpenSpec.ofChange Rows.bitsBytesSpec) :=
  OpenClaim.holds_of_wide 8 Try.f8 rfl rfl rfl rfl rfl rfl rfl ⟨rfl, rfl, rfl, rfl, rfl⟩ rfl rfl rfl rfl rfl (by kernel_rfl) Try.func8 (by kernel_rfl)
    (of_decide_eq_true (by kernel_rfl)) (by unfold Func.isWrapper; first | (rw [if_pos (by decide +kernel)]; kernel_rfl) | (rw [if_neg (by decide +kernel)]; exact ⟨rfl, rfl⟩))
    (fun os started H enc _ => lifted os started H enc)

/-- ████ THE STATEMENT ████ -/
theorem proved : Rows.BitsBytesSaid :=
  over
end Go.Proofs.Ytbhbagmbpkkefaa.bitsBytes

namespace Go.Proofs.Ytbhbagmbpkkefaa
theorem bitsBytes_holds : Rows.BitsBytesSaid := bitsBytes.proved
#print axioms bitsBytes_holds
end Go.Proofs.Ytbhbagmbpkkefaa
