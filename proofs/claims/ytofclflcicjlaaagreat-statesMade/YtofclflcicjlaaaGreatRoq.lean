/-
  The size ahead of the states' bytes, and what is cut by it; the reader of states made of bytes.
-/
import Derived.Test.YtofclflcicjlaaaGreatSw
import Derived.Test.YtofclflcicjlaaaGreatRefBvw
import Derived.Test.YtofclflcicjlaaaGreatRefSb
import Derived.Test.YtofclflcicjlaaaGreatRefHxh
import Derived.WalkKit
import Derived.ProofKit
import Derived.OpenShut
import Derived.Deep.QuietTactic
import Derived.Deep.RegionWith
import Derived.Deep.RegionHeld3
import Derived.OwnWalk
import Derived.ChangeOld
import Derived.Below
import Derived.BigQuiet
namespace Go.Proofs.YtofclflcicjlaaaGreat
open Go.ChangeShapes Go.WideShapes Go.ChangeAt Go.RowKit
open Go.ChangeMaps (open_string shut_string)
set_option maxRecDepth 100000
set_option linter.unusedVariables false
theorem numF_in (f : Nat) : ∀ (i acc : Nat) (l : List UInt8), (numF f i acc l).2.1 ≤ i + l.length := by
  induction f with
  | zero => intro i acc l; simp [numF]
  | succ f ih =>
    intro i acc l
    cases l with
    | nil => simp [numF]
    | cons c l =>
      rw [numF, List.length_cons]
      split
      · unfold endd; split <;> simp
      · have := ih (i + 1) (acc + (c.toNat - 128) * 128 ^ i) l; omega
theorem numb_in (l : List UInt8) : (numb l).2.1 ≤ l.length := by have := numF_in 10 0 0 l; simpa [numb] using this
theorem slice_list (s : ByteArray) (a e : Nat) : (s.extract a e).data.toList = (s.data.toList.drop a).take (e - a) := by
  rw [ByteArray.data_extract, Array.toList_extract]
def CutPost (s : ByteArray) (w : World) (e : Ending) (w' : World) : Prop :=
  Below w.heap.size w w' ∧
  ((((numb s.data.toList).2.2 ≠ 0 ∨ s.data.toList.length - (numb s.data.toList).2.1 < (numb s.data.toList).1) ∧ ∃ er : Nat, er ≠ 0 ∧ e = .returned (.tuple #[.string ⟨#[]⟩, .string ⟨#[]⟩, .int .i64 (er : Int)])) ∨
   ((numb s.data.toList).2.2 = 0 ∧ (numb s.data.toList).1 ≤ s.data.toList.length - (numb s.data.toList).2.1 ∧ ∃ t q : ByteArray, t.data.toList = (s.data.toList.drop (numb s.data.toList).2.1).take (numb s.data.toList).1 ∧ q.data.toList = (s.data.toList.drop (numb s.data.toList).2.1).drop (numb s.data.toList).1 ∧ e = .returned (.tuple #[.string t, .string q, .int .i64 0])))
theorem cut_any (s : ByteArray) (w : World) (hs : s.size ≤ 20000) :
    Calls Tryz.prog 58 #[.string s] w (CutPost s w) := by
  have hle := numb_in s.data.toList
  have hlen : s.data.toList.length = s.size := len_data s
  have CP : Hid (∀ e w', CutPost s w e w' ↔ CutPost s w e w') := fun _ _ => Iff.rfl
  unfold CutPost
  obtain ⟨⟨x, y, z⟩, hn⟩ : ∃ t, numb s.data.toList = t := ⟨_, rfl⟩
  have TK := numb_took s.data.toList
  rw [hn] at hle TK ⊢
  simp only at hle TK ⊢
  by_cases hz : z = 0
  · subst hz
    have GV := fun W => get_anyv s 0 W (by omega) x y 0 (by rw [getAt_ok numb s 0 (by omega) (by omega) x y (by simpa using hn)]; simp)
    have hx0 : (0 : Int) ≤ (x : Int) := by omega
    have wr : ((s.size : Int) - (y : Int)) = ((s.size - y : Nat) : Int) := by omega
    obtain ⟨d, hd⟩ : ∃ d, s.size - y = d := ⟨_, rfl⟩
    rw [hd] at wr
    have wd : (d : Int) % 18446744073709551616 = (d : Int) := by omega
    have wd2 : IntKind.u64.wrap (d : Int) = (d : Int) := by simp [IntKind.wrap, IntKind.bits, IntKind.signed]; omega
    by_cases hx : d < x
    · have FN : Hid (s.data.toList.length - y < x) := by show _ < _; omega
      have hx' : (d : Int) < (x : Int) := by omega
      clear hn hle TK
      go_enter Tryz.func58, Tryz.ntmps58
      go_wp2_with fail
      with_reducible refine (GV _).mono ?_
      rintro e w1 ⟨rfl, rfl⟩
      clear GV
      go_wp2_with fail
      go_ret3
      exact ⟨Below.refl _ _, .inl ⟨.inr FN.out, 2, by decide, rfl⟩⟩
    · have hx' : ¬ (d : Int) < (x : Int) := by omega
      obtain ⟨m, hm⟩ : ∃ m, y + x = m := ⟨_, rfl⟩
      have FN : Hid (x ≤ s.data.toList.length - y ∧ (s.extract y m).data.toList = (s.data.toList.drop y).take x ∧ (s.extract m s.size).data.toList = (s.data.toList.drop y).drop x) := by
        refine ⟨by omega, by rw [slice_list]; congr 1; omega, ?_⟩
        rw [extract_list, List.drop_drop, hm]
      have i1 : IntKind.i64.wrap (x : Int) = (x : Int) := by rw [IntKind.wrap_i64]; omega
      have i3 : (y : Int) + (x : Int) = (m : Int) := by omega
      have i2 : IntKind.i64.wrap (m : Int) = (m : Int) := by rw [IntKind.wrap_i64]; omega
      have hyx : m ≤ s.size := by omega
      have hym : y ≤ m := by omega
      have hxs : x ≤ s.size := by omega
      have hmz : (m : Int) ≤ (s.size : Int) := by omega
      have hyz : (y : Int) ≤ (m : Int) := by omega
      have hy0 : (0 : Int) ≤ (y : Int) := by omega
      clear hm
      clear hn hle TK
      go_enter Tryz.func58, Tryz.ntmps58
      go_wp2_with fail
      with_reducible refine (GV _).mono ?_
      rintro e w1 ⟨rfl, rfl⟩
      clear GV
      go_wp2_with fail
      go_quiet (fail)
      go_wp2_with fail
      go_ret3
      exact ⟨below_drewN (Below.refl _ _) _, .inr ⟨trivial, FN.out.1, _, _, FN.out.2.1, FN.out.2.2, rfl⟩⟩
  · have hy : x = 0 ∧ y = 0 := by
      rcases numb_ok hn with h | ⟨h1, h2, -⟩
      · exact absurd h hz
      · exact ⟨h1, h2⟩
    have GV := fun W => get_anyv s 0 W (by omega) 0 0 z (by rw [getAt_no numb s 0 (by omega) (by omega) x y z (by simpa using hn) hz])
    have hz' : ((z : Int) == 0) = false := by simp; omega
    clear hn hle TK
    go_enter Tryz.func58, Tryz.ntmps58
    go_wp2_with fail
    with_reducible refine (GV _).mono ?_
    rintro e w1 ⟨rfl, rfl⟩
    clear GV
    go_wp2_with fail
    go_ret3
    exact ⟨Below.refl _ _, .inl ⟨.inl hz, z, hz, rfl⟩⟩
set_option linter.unusedVariables false
/-- How a reader stands: its state, so many bits left of the states, so many taken of the rests, these parts told. -/
def Rs (W0 W : World) (A T R : Nat) (cv : Value) (st : Nat) (tB qB : ByteArray) (a r : Nat) (pv : Value) (acc : List (Int × Int)) : Prop :=
  Blk W A #[cv, .int .i64 (st : Int), ptr T, ptr R, pv] 85 ∧ Rdb W T tB a ∧ Rd W R qB r ∧ W.ownsRow 0 74 2 pv acc.length (pvs acc) ∧ (W0.heap.size ≤ A ∧ W0.heap.size ≤ T ∧ W0.heap.size ≤ R ∧ From W0.heap.size pv) ∧ (A ≠ T ∧ A ≠ R ∧ T ≠ R) ∧ (∀ j, pv.ownBlock = some j → j ≠ A ∧ j ≠ T ∧ j ≠ R) ∧ Below W0.heap.size W0 W
def RoPost (k : Nat) (s : ByteArray) (cv : Value) (w : World) (e : Ending) (w' : World) : Prop :=
  Below w.heap.size w w' ∧
  ((∃ er : Nat, er ≠ 0 ∧ e = .returned (.tuple #[.pointer none, .int .i64 (er : Int)]) ∧ ∀ L cs n, getB k L cs s.data.toList n = (3, [])) ∨
   (∃ (A T R st a : Nat) (t q : ByteArray), e = .returned (.tuple #[ptr A, .int .i64 0]) ∧ Rs w w' A T R cv st t q a 0 (.slice none 0 0) [] ∧ t.size ≤ 20000 ∧ q.size ≤ 20000 ∧ a ≤ 8 * t.size ∧ st < 2 ^ k ∧
     ∀ L cs n, getB k L cs s.data.toList n = endB k L cs (le q.data.toList) (8 * q.size) (gS k L cs (le t.data.toList) (le q.data.toList) (8 * q.size) n st a 0 [])))
set_option maxRecDepth 100000 in
set_option maxHeartbeats 4000000 in
theorem readerOf_any (s : ByteArray) (ca : Option Addr) (cn cc k : Nat) (w : World) (hs : s.size ≤ 20000) (hk : k ≤ 12) :
    Calls Tryz.prog 30 #[.string s, .slice ca cn cc, .int .i64 (k : Int)] w (RoPost k s (.slice ca cn cc) w) := by
  have CT := cut_any s w hs
  go_enter Tryz.func30, Tryz.ntmps30
  go_wp2_with fail
  with_reducible refine CT.mono ?_
  rintro e w1 ⟨b1, h⟩
  clear CT
  have B1 := Hid.intro b1
  clear b1
  rcases h with ⟨hbad, er, her, rfl⟩ | ⟨hz, hx, t, q, ht, hq, rfl⟩
  · have GB : Hid (∀ L cs n, getB k L cs s.data.toList n = (3, [])) := fun L cs n => by unfold getB; rw [if_pos hbad]
    have her' : ((er : Int) == 0) = false := by simp; omega
    clear hbad
    go_wp2_with fail
    go_ret2
    exact ⟨B1.out, .inl ⟨er, her, rfl, GB.out⟩⟩
  · have hts : t.size ≤ 20000 := by
      have := congrArg List.length ht
      rw [len_data, List.length_take, List.length_drop, len_data] at this; omega
    have hqs : q.size ≤ 20000 := by
      have := congrArg List.length hq
      rw [len_data, List.length_drop, List.length_drop, len_data] at this; omega
    have GM : Hid (∀ L cs n, getB k L cs s.data.toList n = midB k L cs t.data.toList q.data.toList n) := fun L cs n => by
      unfold getB
      rw [if_neg (by rw [not_or]; exact ⟨fun h => h hz, by omega⟩), ← ht, ← hq]
    have LQ : q.data.toList.length = q.size := len_data q
    have LT : lastB t.data.toList = last t := by unfold lastB last; rw [len_data]
    clear hz hx ht hq
    by_cases hl : last t = 0
    · have FB := from_bad t w1 hl (by omega)
      have GB : Hid (∀ L cs n, getB k L cs s.data.toList n = (3, [])) := fun L cs n => by rw [GM.out]; unfold midB; rw [if_pos (.inl (by rw [LT]; exact hl))]
      clear GM LT hl LQ
      go_wp2_with fail
      with_reducible refine FB.mono ?_
      rintro e w2 ⟨rfl, rfl⟩
      clear FB
      go_wp2_with fail
      go_ret2
      exact ⟨B1.out, .inl ⟨3, by decide, rfl, GB.out⟩⟩
    · obtain ⟨a, ha⟩ : ∃ a, Nat.log2 (le t.data.toList) = a := ⟨_, rfl⟩
      have FO := from_ownb (w := w) t B1.out hl (by omega) a ha
      have ha8 : a ≤ 8 * t.size := by rw [← ha]; exact Nat.le_of_lt (log_lt t hl).2
      go_wp2_with fail
      with_reducible refine FO.mono ?_
      rintro e w2 ⟨T, rfl, f1, f2, f3, f4, f5⟩
      clear FO
      by_cases hak : a < k
      · have e0 : geb a (k : Int) = 2 := by unfold geb; rw [if_neg (by omega), if_pos (by omega)]
        have e1 : gkb a (k : Int) = 0 := by unfold gkb; rw [e0]; rfl
        have GT := get_ownb (w := w) (W := w2) T t a (k : Int) f2 f3 f4 (by omega) ha8 a 0 2 (by rw [e1]; rfl) (by rw [e1, got_zero]) e0
        have GB : Hid (∀ L cs n, getB k L cs s.data.toList n = (3, [])) := fun L cs n => by rw [GM.out]; unfold midB; rw [if_pos (.inr (by rw [ha]; exact hak))]
        unfold ptr at GT ⊢
        clear GM LT hl LQ f1 f2 f3 f4 f5 ha ha8
        go_wp2_with fail
        with_reducible refine GT.mono ?_
        rintro e w3 ⟨rfl, -, g2, -⟩
        have G2 := Hid.intro g2
        clear GT g2
        go_wp2_with fail
        go_ret2
        exact ⟨G2.out, .inl ⟨2, by decide, rfl, GB.out⟩⟩
      · obtain ⟨st, hst⟩ : ∃ st, got (le t.data.toList) (a - k) k = st := ⟨_, rfl⟩
        have stl : st < 2 ^ k := by rw [← hst]; exact got_lt _ _ _
        have p12 : 2 ^ k ≤ 4096 := pow_bd k hk
        have e0 : geb a (k : Int) = 0 := by unfold geb; rw [if_neg (by omega), if_neg (by omega)]
        have e1 : gkb a (k : Int) = k := by unfold gkb; rw [if_pos e0]; simp
        have GT := get_ownb (w := w) (W := w2) T t a (k : Int) f2 f3 f4 (by omega) ha8 (a - k) st 0 (by rw [e1]) (by rw [e1]; exact hst) e0
        have GB : Hid (∀ L cs n, getB k L cs s.data.toList n = endB k L cs (le q.data.toList) (8 * q.size) (gS k L cs (le t.data.toList) (le q.data.toList) (8 * q.size) n st (a - k) 0 [])) := fun L cs n => by
          rw [GM.out]; unfold midB; rw [if_neg (by rw [not_or, LT, ha]; exact ⟨hl, hak⟩), ha, hst, LQ]
        have i1 : IntKind.i64.wrap (st : Int) = (st : Int) := by rw [IntKind.wrap_i64]; omega
        have TT : Hid (T < w2.heap.size) := blk_lt f2
        have F3 := Hid.intro f3
        have AK : Hid (a - k ≤ 8 * t.size) := by show _ ≤ _; omega
        unfold ptr at GT ⊢
        clear GM LT hl LQ f1 f2 f3 f4 f5 ha ha8 hst
        go_wp2_with fail
        with_reducible refine GT.mono ?_
        rintro e w3 ⟨rfl, g1, g2, g3⟩
        clear GT
        have FR := from_own (w := w) q g2
        have G1 := Hid.intro g1
        have G3 := Hid.intro g3
        clear g1 g2 g3
        go_wp2_with fail
        with_reducible refine FR.mono ?_
        rintro e w4 ⟨R, rfl, r1, r2, r3, r4, r5⟩
        clear FR
        unfold ptr
        have RS : Hid (Rs w (w4.alloc (.cells #[.slice ca cn cc, .int .i64 (st : Int), ptr T, ptr R, .slice none 0 0] 85)) w4.heap.size T R (.slice ca cn cc) st t q (a - k) 0 (.slice none 0 0) []) := by
          have t4 : Rdb w4 T t (a - k) := blk_kept G1.out r5 (fun h => h)
          have l1 := blk_lt t4
          have l2 := blk_lt r2
          have l3 : T < w3.heap.size := blk_lt G1.out
          have l4 := r4.size
          exact ⟨blk_new _ _ _, blk_alloc t4 _, blk_alloc r2 _, World.ownsRow_nil _ _ _ _, ⟨l4, F3.out, r3, fun j hj => by simp [Value.ownBlock] at hj⟩, ⟨by omega, by omega, by omega⟩, fun j hj => by simp [Value.ownBlock] at hj, r4.alloc l4 _⟩
        unfold ptr at RS
        have R4 := Hid.intro (r4.alloc r4.size (.cells #[.slice ca cn cc, .int .i64 (st : Int), ptr T, ptr R, .slice none 0 0] 85))
        unfold ptr at R4
        clear r1 r2 r3 r4 r5
        go_wp2_with fail
        go_ret2
        exact ⟨R4.out, .inr ⟨w4.heap.size, T, R, st, a - k, t, q, rfl, RS.out, hts, hqs, AK.out, stl, GB.out⟩⟩
end Go.Proofs.YtofclflcicjlaaaGreat
