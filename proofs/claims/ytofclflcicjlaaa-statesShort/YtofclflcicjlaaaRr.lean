/-
  Package bits, Rest, and the methods of nil; objects that a call owns, two of them apart, Put for an owner; the document's example; the reference's bits of bytes, the number of bits, its reader made; the reference's Get, for every reader and every length; the reference's Rest, for every reader; bits in lists: codes with their highest bit first, rests with their lowest; the bits of bytes; laid ahead for layer 11; what is read by codes that begin no other one, bit by bit; parts by codes; laid ahead for layer 11; the tree of codes; the next bit of a reader; a class is found by its code; a part is read; rows of parts; what Get tells; may a part be put?; rows of bits as plain numbers: the bytes of a number, its bits, what is put behind and what is got: no Go in sight; each condition stands at its theorem; package bits, Rest, and the methods of nil; objects that a call owns, two of them apart, Put for an owner; the document's example; the reference's bits of bytes, the number of bits, its reader made; the reference's Get, for every reader and every length; the reference's Rest, for every reader.
-/
import Derived.Test.YtofclflcicjlaaaBuh
import Derived.Test.YtofclflcicjlaaaTyh
import Derived.Test.YtofclflcicjlaaaLy
import Derived.Test.YtofclflcicjlaaaC2
import Derived.Test.YtofclflcicjlaaaSg
import Derived.Test.YtofclflcicjlaaaPushh
import Derived.Test.YtofclflcicjlaaaBqh
import Derived.Test.YtofclflcicjlaaaOfyh
import Derived.Test.YtofclflcicjlaaaRpyh
import Derived.Test.YtofclflcicjlaaaSh
import Derived.Test.YtofclflcicjlaaaBd
import Derived.WalkKit
import Derived.ProofKit
import Derived.OpenShut
import Derived.ArgAppend
import Derived.Laws.IdiomStrings
import Derived.Deep.Heap
import Derived.Laws.BitsAllLaws
import Derived.WalkSmall
import Derived.Deep.QuietTactic
import Derived.BigQuiet
import Derived.Deep.RegionLaw
import Derived.OwnWalk
import Derived.Deep.RegionWith
import Derived.Deep.RegionHeld3
import Derived.Below
import Derived.Maps.AppendAt
import Derived.Deep.OwnRows
import Derived.Handy
import Derived.Laws.OwnMore
import Derived.Lib.AppendZeros
import Derived.Laws.IdiomCopy
import Derived.BigRegion
import Derived.Laws.MakeOwn
import Derived.Lib.BitFns
import Derived.Lib.Strings
import Derived.Lib.Slices
import Derived.Lib.Small
import Derived.Lib.Walk
import Derived.Deep.Draws
namespace Go.Proofs.Ytofclflcicjlaaa
open Go.ChangeShapes Go.WideShapes Go.ChangeAt Go.RowKit
open Go.ChangeMaps (open_string shut_string)
/-- Whether nothing but noughts, fewer than eight, are left. -/
def rs (s : ByteArray) (a : Nat) : Bool := decide (8 * s.size < a + 8) && decide (got (le s.data.toList) a (8 * s.size - a) = 0)

/-! ### bits in a list, the lowest of a byte first -/
/-- The number of bits. -/
def b2 : List Nat → Nat
  | [] => 0
  | x :: r => x + 2 * b2 r
theorem own_rp {W : World} {base e : Nat} {v : Value} {n : Nat} {ps : List (Int × Int)} (h : W.ownsRow base e 2 v n (pvs ps)) : ∃ a cap, v = .slice a n cap ∧ n ≤ cap ∧ cap ≤ maxLen ∧ RP W a n ps := by
  have hl : ps.length = n := by have := h.1; rw [pvs_len] at this; omega
  rcases h.2 with ⟨hv, hn⟩ | ⟨g, cap, cur, hv, _, hg, hc, hm, hs, ht⟩
  · exact ⟨none, 0, by rw [hv, hn], by omega, by decide, hl, fun h0 => by omega⟩
  · refine ⟨_, cap, hv, hc, hm, hl, fun _ => ⟨_, rfl, fun i hi => ⟨?_, ?_⟩⟩⟩
    · exact h.cells (g := g) (by rw [hv]; rfl) _ _ (pvs_fst ps i hi)
    · exact h.cells (g := g) (by rw [hv]; rfl) _ _ (pvs_snd ps i hi)
set_option maxRecDepth 100000
theorem size_bs (l : List UInt8) : (bs l).size = l.length := by simp [bs, ByteArray.size]
theorem bs_data (l : List UInt8) : (bs l).data.toList = l := rfl
theorem le_lt (l : List UInt8) : le l < 256 ^ l.length := by
  induction l with
  | nil => simp [le]
  | cons d l ih => simp only [le, List.length_cons, Nat.pow_succ]; have := d.toNat_lt; omega
theorem lt_byc (N sz : Nat) (h : N < 2 ^ sz) : N < 256 ^ byc sz := by
  rw [pow256]; exact Nat.lt_of_lt_of_le h (pow_le_of (by unfold byc; omega))

theorem nat_beq (y : Nat) : ((y : Int) == 0) = decide (y = 0) := by by_cases h : y = 0 <;> simp [h]

theorem rest_far (A : Nat) (s : ByteArray) (a : Nat) (W : World) (h : Rd W A s a) (hs : s.size ≤ 100000) (ha : a + 8 ≤ 8 * s.size) :
    Calls Try.prog 54 #[ptr A] W fun e W' => e = .returned (.bool false) ∧ W' = W.drew := by
  obtain ⟨m, hm'⟩ : ∃ m : Nat, m = 8 * s.size - a := ⟨_, rfl⟩
  have LL := left_any A s a W h hs (by omega) m hm'
  have hnm : 8 ≤ m := by omega
  clear hm'
  unfold ptr at *
  go_enter Try.func54, Try.ntmps54
  go_wp2_with (first | (go_at_call 75; refine LL.mono ?_; rintro e w1 ⟨rfl, rfl⟩))
  go_ret
  exact ⟨rfl, rfl⟩

theorem rest_near (A : Nat) (s : ByteArray) (a : Nat) (W : World) (h : Rd W A s a) (hs : s.size ≤ 100000) (ha : a ≤ 8 * s.size) (ha8 : 8 * s.size < a + 8) :
    Calls Try.prog 54 #[ptr A] W fun e W' => e = .returned (.bool (decide (got (le s.data.toList) a (8 * s.size - a) = 0))) ∧ Chg (fun _ => False) W W' := by
  obtain ⟨m, hm'⟩ : ∃ m : Nat, m = 8 * s.size - a := ⟨_, rfl⟩
  have LL := left_any A s a W h hs (by omega) m hm'
  have c0 : W.cell? ⟨A, 0, none⟩ = some (.string s) := by rw [blk_cell h]; rfl
  have c1 : W.cell? ⟨A, 1, none⟩ = some (.int .i64 a) := by rw [blk_cell h]; rfl
  have hnm : m < 8 := by omega
  have HM : Hid (m = 8 * s.size - a) := hm'
  rw [← hm']
  clear hm'
  unfold ptr at *
  go_enter Try.func54, Try.ntmps54
  go_wp2_with fail
  refine LL.mono ?_
  rintro e w1 ⟨rfl, rfl⟩
  go_wp2_with fail
  have hR : Rd (W.alloc (Obj.cells #[Value.string s, Value.int IntKind.i64 a] 139)).drew W.heap.size s a := blk_drew (blk_new W _ _)
  have hch : Chg (fun _ => False) W (W.alloc (Obj.cells #[Value.string s, Value.int IntKind.i64 a] 139)).drew := chg_drew (chg_alloc (chg_refl _ _) _)
  generalize (W.alloc (Obj.cells #[Value.string s, Value.int IntKind.i64 a] 139)).drew = W1 at *
  generalize hA : W.heap.size = A1 at hR ⊢
  have HA : Hid (W.heap.size = A1) := hA
  clear hA
  refine (left_any A1 s a W1 hR hs ha m HM.out).mono ?_
  rintro e w1 ⟨rfl, rfl⟩
  go_wp2_with fail
  refine (get_nat A1 s hs m a W1.drew (rd_drew hR) (by have := HM.out; omega) (by omega)).mono ?_
  rintro e w2 ⟨rfl, k1, k2⟩
  go_wp2
  go_ret
  refine ⟨?_, chg_trans hch (chg_trans (chg_drew (chg_refl (fun x => x = A1) W1)) k2 (fun _ _ h => h)) ?_⟩
  · show Ending.returned (.bool ((got (le s.data.toList) a m : Int) == 0)) = _
    rw [nat_beq]
  · intro k hk e
    have := HA.out
    omega

theorem rest_any (A : Nat) (s : ByteArray) (a : Nat) (W : World) (h : Rd W A s a) (hs : s.size ≤ 100000) (ha : a ≤ 8 * s.size) :
    Calls Try.prog 54 #[ptr A] W fun e W' => e = .returned (.bool (rs s a)) ∧ Chg (fun _ => False) W W' := by
  by_cases h8 : 8 * s.size < a + 8
  · refine (rest_near A s a W h hs ha h8).mono ?_
    rintro e w1 ⟨rfl, k⟩
    exact ⟨by rw [rs, decide_eq_true h8, Bool.true_and], k⟩
  · refine (rest_far A s a W h hs (by omega)).mono ?_
    rintro e w1 ⟨rfl, rfl⟩
    exact ⟨by rw [rs, decide_eq_false h8, Bool.false_and], chg_refl _ _⟩
theorem rest_own {w W : World} (A : Nat) (s : ByteArray) (a : Nat) (h : Rd W A s a) (hb : Below w.heap.size w W) (hs : s.size ≤ 100000) (ha : a ≤ 8 * s.size) (b : Bool) (hr : rs s a = b) :
    Calls Try.prog 54 #[ptr A] W fun e W' => e = .returned (.bool b) ∧ Rd W' A s a ∧ Below w.heap.size w W' ∧ Chg (fun _ => False) W W' := by
  subst hr
  refine (rest_any A s a W h hs ha).mono ?_
  rintro e W' ⟨rfl, k2⟩
  exact ⟨rfl, blk_kept h k2 (fun h => h), below_no hb k2, k2⟩
end Go.Proofs.Ytofclflcicjlaaa
