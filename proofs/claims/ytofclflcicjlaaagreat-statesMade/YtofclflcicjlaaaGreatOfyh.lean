/-
  What the walks of package zig come to, as plain functions on numbers, and what holds of them: no Go in sight; each condition stands at its theorem; the reference's calls for layer 1 return what the plain functions say, for every number and part; nothing that was there turns; the reference's calls for layer 1 that take or tell parts return what the plain functions say, for every number and part; nothing that was there turns; which blocks a call may change; blocks and rows of the call's own; lists of whole numbers and of parts that can be read; rows that make lays, cells of rows set anew; how many parts are of each class, for every list of a thousand at the most.
-/
import Derived.Test.YtofclflcicjlaaaGreatPushh
import Derived.Test.YtofclflcicjlaaaGreatTyh
import Derived.Test.YtofclflcicjlaaaGreatLy
import Derived.Test.YtofclflcicjlaaaGreatSc
import Derived.Test.YtofclflcicjlaaaGreatSg
import Derived.BigRegion
import Derived.Lib.BitFns
import Derived.Laws.BitsAllLaws
import Derived.WalkSmall
import Derived.WalkKit
import Derived.ProofKit
import Derived.OpenShut
import Derived.Deep.QuietTactic
import Derived.BigQuiet
import Derived.Lib.Strings
import Derived.Lib.Slices
import Derived.Lib.Small
import Derived.Lib.Walk
import Derived.Deep.RegionHeld3
import Derived.Below
import Derived.Deep.Heap
import Derived.ArgAppend
import Derived.Maps.AppendAt
import Derived.Laws.IdiomStrings
import Derived.Deep.OwnRows
import Derived.Deep.RegionLaw
import Derived.Handy
import Derived.Deep.RegionWith
import Derived.OwnWalk
namespace Go.Proofs.YtofclflcicjlaaaGreat
set_option maxRecDepth 100000
open Go.ChangeShapes Go.WideShapes Go.ChangeAt Go.RowKit
open Go.ChangeMaps (open_string shut_string)

def zmap (v : Int) : Int := if v < 0 then -2 * v - 1 else 2 * v
def blen (u : Int) : Int := (Lib.bitLen u.toNat : Int)
def hi (c : Int) : Int := 2 ^ (c.toNat - 1)
def srest (u : Int) : Int := if u = 0 then 0 else u - hi (blen u)
def jok (c r : Int) : Bool := if c = 0 then decide (r = 0) else decide (1 ≤ c ∧ c ≤ 64 ∧ r < hi c)
theorem zmap_neg (v : Int) (h : v < 0) : zmap v = -2 * v - 1 := by simp [zmap, h]
theorem zmap_pos (v : Int) (h : ¬ v < 0) : zmap v = 2 * v := by simp [zmap, h]
theorem zmap_bd (v : Int) (h1 : -9223372036854775808 ≤ v) (h2 : v ≤ 9223372036854775807) : 0 ≤ zmap v ∧ zmap v ≤ 18446744073709551615 := by
  unfold zmap; split <;> omega
theorem hi_pos (c : Int) : 0 < hi c := Int.pow_pos (by omega)
theorem hi_le (c : Int) (h : c ≤ 64) : hi c ≤ 9223372036854775808 := by
  unfold hi
  have h1 : (2 : Int) ^ (c.toNat - 1) ≤ 2 ^ 63 := by exact_mod_cast Nat.pow_le_pow_right (by omega) (by omega : c.toNat - 1 ≤ 63)
  omega
theorem wrap_hi (c : Int) (h : c ≤ 64) : IntKind.u64.wrap (2 ^ (c.toNat - 1)) = hi c := by
  have h1 := hi_pos c
  have h2 := hi_le c h
  unfold hi at *
  simp only [IntKind.wrap, IntKind.bits, IntKind.signed]
  simp
  omega

theorem bitLen_spec : ∀ (n : Nat), 0 < n → n < 2 ^ 64 → 1 ≤ Lib.bitLen n ∧ Lib.bitLen n ≤ 64 ∧ 2 ^ (Lib.bitLen n - 1) ≤ n ∧ n < 2 ^ (Lib.bitLen n) := by
  intro n
  induction n using Nat.strongRecOn with
  | ind n ih =>
    intro h0 h1
    by_cases h : n = 1
    · subst h; decide
    · have hh := Lib.bitLen_half n (by omega) h1
      obtain ⟨a, b, c, d⟩ := ih (n / 2) (by omega) (by omega) (by omega)
      have e : Lib.bitLen n - 1 = Lib.bitLen (n / 2) - 1 + 1 := by omega
      have c' : 2 ^ (Lib.bitLen n - 1) ≤ n := by rw [e, Nat.pow_succ]; omega
      have d' : n < 2 ^ Lib.bitLen n := by rw [hh, Nat.add_comm, Nat.pow_succ]; omega
      refine ⟨by omega, ?_, c', d'⟩
      by_cases g : Lib.bitLen n ≤ 64
      · exact g
      · exfalso
        have : 2 ^ 64 ≤ 2 ^ (Lib.bitLen n - 1) := Nat.pow_le_pow_right (by omega) (by omega)
        omega

theorem blen_zero : blen 0 = 0 := by decide
theorem blen_spec (u : Int) (h0 : 0 < u) (h1 : u ≤ 18446744073709551615) : 1 ≤ blen u ∧ blen u ≤ 64 ∧ hi (blen u) ≤ u ∧ u < 2 * hi (blen u) := by
  obtain ⟨n, rfl⟩ := Int.eq_ofNat_of_zero_le (Int.le_of_lt h0)
  obtain ⟨a, b, c, d⟩ := bitLen_spec n (by omega) (by omega)
  unfold blen hi
  simp only [Int.toNat_natCast]
  refine ⟨by omega, by omega, by exact_mod_cast c, ?_⟩
  have e : Lib.bitLen n = Lib.bitLen n - 1 + 1 := by omega
  rw [e, Nat.pow_succ] at d
  exact_mod_cast (by omega : n < 2 * 2 ^ (Lib.bitLen n - 1))
theorem blen_bd (u : Int) (h0 : 0 ≤ u) (h1 : u ≤ 18446744073709551615) : 0 ≤ blen u ∧ blen u ≤ 64 := by
  by_cases h : u = 0
  · subst h; rw [blen_zero]; omega
  · have := blen_spec u (by omega) h1; omega

theorem refMap_any (v : Int) (w : World) (h1 : -9223372036854775808 ≤ v) (h2 : v ≤ 9223372036854775807) :
    Calls Tryz.prog 67 #[.int .i64 v] w fun e w' => e = .returned (.int .u64 (zmap v)) ∧ w' = w := by
  by_cases h : v < 0
  · have H : Hid (zmap v = -2 * v - 1) := zmap_neg v h
    go_enter Tryz.func67, Tryz.ntmps67
    go_wp2
    go_ret
    exact ⟨ret_int (by rw [H.out]; omega), rfl⟩
  · have H : Hid (zmap v = 2 * v) := zmap_pos v h
    go_enter Tryz.func67, Tryz.ntmps67
    go_wp2
    go_ret
    exact ⟨ret_int (by rw [H.out]), rfl⟩

theorem blen_half (x : Int) (h0 : 0 < x) (h1 : x ≤ 18446744073709551615) : blen x = 1 + blen (x / 2) := by
  unfold blen
  rw [Lib.bitLen_half x.toNat (by omega) (by omega)]
  have : (x / 2).toNat = x.toNat / 2 := by omega
  rw [this]; omega

set_option maxHeartbeats 400000 in
theorem length_any (u : Int) (w : World) (h1 : 0 ≤ u) (h2 : u ≤ 18446744073709551615) :
    Calls Tryz.prog 68 #[.int .u64 u] w fun e w' => e = .returned (.int .i64 (blen u)) ∧ w' = w := by
  have hb := blen_bd u h1 h2
  obtain ⟨L, hL⟩ : ∃ L, L = blen u := ⟨_, rfl⟩
  rw [← hL] at hb ⊢
  have HL : Hid (L = blen u) := hL
  clear hL
  go_enter Tryz.func68, Tryz.ntmps68
  go_wp2
  go_loop [0, 3] (fun s n => ∃ x k : Int, 0 ≤ x ∧ x ≤ 18446744073709551615 ∧ 0 ≤ k ∧ k + blen x = L ∧ s = .int .u64 x ∧ n = .int .i64 k) (fun s _ => (intOf s).toNat)
  case atStart => exact ⟨u, 0, h1, h2, by omega, by rw [HL.out]; omega, rfl, rfl⟩
  case round =>
    obtain ⟨x, k, x0, x1, k0, hk, rfl, rfl⟩ := hrel
    have HK : Hid (k + blen x = L) := hk
    have kb := blen_bd x x0 x1
    have kl : k ≤ 64 := by omega
    clear hk
    by_cases hx : 0 < x
    · have hh : Hid (blen x = 1 + blen (x / 2)) := blen_half x hx x1
      clear kb
      go_wp2
      go_round
      case rel => exact ⟨x / 2, k + 1, by omega, by omega, by omega, by have := HK.out; have := hh.out; omega, rfl, by go_num⟩
      case measure => simp [intOf]; omega
    · clear kb
      go_wp2
      go_ret
      refine ⟨ret_int ?_, rfl⟩
      have : x = 0 := by omega
      subst this
      have := HK.out
      rw [blen_zero] at this
      omega

theorem jokLow (c r : Int) (h0 : 0 ≤ c) (h1 : c < 2) (hr : 0 ≤ r) : jok c r = (r == 0) := by
  unfold jok
  by_cases e : c = 0
  · simp [e]; rfl
  · have : c = 1 := by omega
    subst this
    have : hi 1 = 1 := by decide
    rw [if_neg (by omega), this, Bool.eq_iff_iff]; simp; omega
theorem jokHigh (c r : Int) (h0 : 2 ≤ c) (h1 : c ≤ 64) (hr : 0 ≤ r) : jok c r = (r / 2 ^ (c.toNat - 1) == 0) := by
  have hp : (0 : Int) < 2 ^ (c.toNat - 1) := Int.pow_pos (by omega)
  unfold jok hi
  rw [if_neg (by omega), Bool.eq_iff_iff]
  simp only [decide_eq_true_eq, beq_iff_eq]
  constructor
  · intro h; exact Int.ediv_eq_zero_of_lt hr h.2.2
  · intro h; exact ⟨by omega, h1, by have := Int.lt_mul_of_ediv_lt hp (by omega : r / 2 ^ (c.toNat - 1) < 1); omega⟩
theorem jokOut (c r : Int) (h : c < 0 ∨ 64 < c) : jok c r = false := by
  unfold jok
  rw [if_neg (by omega)]; simp; omega
set_option maxHeartbeats 400000 in
theorem refSplit_any (v : Int) (w : World) (h1 : -9223372036854775808 ≤ v) (h2 : v ≤ 9223372036854775807) :
    Calls Tryz.prog 39 #[.int .i64 v] w fun e w' => e = .returned (.agg #[.int .i64 (blen (zmap v)), .int .u64 (srest (zmap v))]) ∧ Below w.heap.size w w' := by
  obtain ⟨b1, b2⟩ := zmap_bd v h1 h2
  by_cases h : zmap v = 0
  · have B : blen (zmap v) = 0 := by rw [h]; exact blen_zero
    have S : Hid (srest (zmap v) = 0) := by show srest (zmap v) = 0; rw [h]; simp [srest]
    clear h
    go_enter Tryz.func39, Tryz.ntmps39
    go_wp2_with (first | (go_at_call 67; refine (refMap_any _ _ h1 h2).mono ?_; rintro e w' ⟨rfl, rfl⟩) | (go_at_call 68; refine (length_any _ _ b1 b2).mono ?_; rintro e w' ⟨rfl, rfl⟩))
    rw [B, S.out]
    exact bodyPost_ret (v := .agg #[.int .i64 0, .int .u64 0]) (by simp [results, Tryz.results39, go_sem]) rfl ⟨rfl, (Below.refl _ _).alloc (Nat.le_refl _) _⟩
  · obtain ⟨p1, p2, p3, p4⟩ := blen_spec (zmap v) (by omega) b2
    have t : (blen (zmap v) == 0) = false := by simp; omega
    have S : Hid (srest (zmap v) = zmap v - hi (blen (zmap v))) := by show srest (zmap v) = _; simp [srest, h]
    have hp := hi_pos (blen (zmap v))
    have hw : IntKind.u64.wrap (2 ^ ((blen (zmap v)).toNat - 1)) = hi (blen (zmap v)) := wrap_hi _ p2
    clear h
    go_enter Tryz.func39, Tryz.ntmps39
    go_wp2_with (first | (go_at_call 67; refine (refMap_any _ _ h1 h2).mono ?_; rintro e w' ⟨rfl, rfl⟩) | (go_at_call 68; refine (length_any _ _ b1 b2).mono ?_; rintro e w' ⟨rfl, rfl⟩))
    rw [S.out]
    exact bodyPost_ret (v := .agg #[.int .i64 (blen (zmap v)), .int .u64 (zmap v - hi (blen (zmap v)))]) (by simp [results, Tryz.results39, go_sem]) rfl ⟨rfl, (Below.refl _ _).alloc (Nat.le_refl _) _⟩

set_option maxHeartbeats 400000 in
theorem mayPart_any (c r : Int) (w : World) (hr : 0 ≤ r) :
    Calls Tryz.prog 25 #[.agg #[.int .i64 c, .int .u64 r]] w fun e w' => e = .returned (.bool (jok c r)) ∧ w' = w.alloc (.cells #[.int .i64 c, .int .u64 r] 74) := by
  by_cases c1 : c < 0
  · have J : Hid (jok c r = false) := jokOut c r (.inl c1)
    go_enter Tryz.func25, Tryz.ntmps25
    go_wp2
    go_ret
    exact ⟨ret_bool J.out.symm, rfl⟩
  · by_cases c2 : 64 < c
    · have J : Hid (jok c r = false) := jokOut c r (.inr c2)
      go_enter Tryz.func25, Tryz.ntmps25
      go_wp2
      go_ret
      exact ⟨ret_bool J.out.symm, rfl⟩
    · by_cases c3 : c < 2
      · have J : Hid (jok c r = (r == 0)) := jokLow c r (by omega) c3 hr
        go_enter Tryz.func25, Tryz.ntmps25
        go_wp2
        go_ret
        exact ⟨ret_bool J.out.symm, rfl⟩
      · have J : Hid (jok c r = (r / 2 ^ (c.toNat - 1) == 0)) := jokHigh c r (by omega) (by omega) hr
        go_enter Tryz.func25, Tryz.ntmps25
        go_wp2
        go_ret
        exact ⟨ret_bool J.out.symm, rfl⟩
theorem info74 : (Tryz.prog.info? 74).map (fun i => (i.zero, i.size, i.bytes)) = some (some (.agg #[.int .i64 0, .int .u64 0]), 2, 16) := by kernel_rfl
theorem pvs_append (a b : List (Int × Int)) : pvs (a ++ b) = pvs a ++ pvs b := by simp [pvs]
def spl (z : Int) : Int × Int := (blen (zmap z), srest (zmap z))

def clp (ps : List (Int × Int)) (c : Nat) : Nat := ps.countP (fun p => p.1 == (c : Int))
def cnt (ps : List (Int × Int)) : List Int := (List.range 65).map (fun c => (clp ps c : Int))
theorem cnt_len (ps : List (Int × Int)) : (cnt ps).length = 65 := by simp [cnt]
theorem cnt_at (ps : List (Int × Int)) (c : Nat) (h : c < 65) : (cnt ps)[c]? = some (clp ps c : Int) := by
  unfold cnt; rw [List.getElem?_map, List.getElem?_range h]; rfl
theorem clp_le (ps : List (Int × Int)) (c : Nat) : clp ps c ≤ ps.length := List.countP_le_length
theorem cl_snoc (ps : List (Int × Int)) (p : Int × Int) (c : Nat) : clp (ps ++ [p]) c = clp ps c + (if p.1 = (c : Int) then 1 else 0) := by
  unfold clp; rw [List.countP_append, List.countP_singleton]; simp
theorem cnt_in (ps : List (Int × Int)) (p : Int × Int) (k : Nat) (hk : k < 65) (hp : p.1 = (k : Int)) : (cnt ps).set k ((clp ps k : Int) + 1) = cnt (ps ++ [p]) := by
  apply List.ext_getElem?
  intro i
  by_cases hi : i < 65
  · rw [cnt_at _ i hi, List.getElem?_set, cnt_len]
    by_cases e : k = i
    · subst e; rw [if_pos rfl, if_pos hk, cl_snoc, if_pos hp]; rfl
    · rw [if_neg e, cnt_at _ i hi, cl_snoc, if_neg (by rw [hp]; omega)]; rfl
  · rw [List.getElem?_eq_none (by rw [List.length_set, cnt_len]; omega), List.getElem?_eq_none (by rw [cnt_len]; omega)]
theorem cnt_out (ps : List (Int × Int)) (p : Int × Int) (hp : p.1 < 0 ∨ 65 ≤ p.1) : cnt (ps ++ [p]) = cnt ps := by
  unfold cnt
  apply List.map_congr_left
  intro c hc
  rw [List.mem_range] at hc
  rw [cl_snoc, if_neg (by omega)]; rfl
theorem cnt_nil : cnt [] = List.replicate 65 0 := by decide
theorem add_next (x : Addr) (i : Nat) : x.add (i * 2 + 1) = ⟨(x.add (i * 2)).block, (x.add (i * 2)).off + 1, none⟩ := by
  unfold Addr.add
  by_cases h : i * 2 = 0
  · simp [h]
  · simp [h]; omega
end Go.Proofs.YtofclflcicjlaaaGreat
