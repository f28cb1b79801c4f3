/-
  The reference's PutVint and Word return what Put and Word do, for every number.
-/
import Derived.Test.YtplalkhjjndffaaCatv
import Derived.Test.YtplalkhjjndffaaJm
namespace Go.Proofs.Ytplalkhjjndffaa
open Go.ChangeShapes Go.WideShapes Go.ChangeAt Go.RowKit

def byteV (c : UInt8) : Value := .int .u8 (c.toNat : Int)
theorem own_block {w : World} {base n : Nat} {v : Value} {xs : List Value} (h : w.ownsRow base 5 1 v n xs) : ∀ k, v.ownBlock = some k → base ≤ k := by
  intro k hk
  rcases h.2 with ⟨rfl, _⟩ | ⟨g, cap, cur, rfl, hb, _⟩
  · simp [Value.ownBlock] at hk
  · simp [Value.ownBlock] at hk; omega
theorem own_string {w : World} {base n : Nat} {v : Value} {l : List UInt8} (h : w.ownsRow base 5 1 v n (l.map byteV)) (hn : 0 < n) :
    (convert 43 9 v).run Try.prog w = .ok (.string (bs l)) w := by
  obtain ⟨h1, h2⟩ := h
  rw [List.length_map, Nat.mul_one] at h1
  rcases h2 with ⟨_, h0⟩ | ⟨g, cap, cur, rfl, hb, hh, hc1, hc2, hc3, hc4⟩
  · omega
  · subst h1
    refine run_convert_bytes_back w 43 9 5 ⟨g, 0, none⟩ cap l Try.underlying43 Try.underlying5 Try.underlying9 (fun j hj => ?_)
    rw [Addr.add_lit, Nat.zero_add]
    have hcell : w.cell? ⟨g, j, none⟩ = cur[j]? := by simp [World.cell?, hh]
    have : (cur.toList.take (l.length * 1))[j]? = (l.map byteV)[j]? := by rw [hc4]
    rw [Nat.mul_one, List.getElem?_take_of_lt hj] at this
    rw [hcell, ← Array.getElem?_toList, this, List.getElem?_map, List.getElem?_eq_getElem hj]
    rfl

def RpRel (n : Nat) (w : World) (nv bv : Value) (wr : World) : Prop :=
  ∃ (m : Nat) (l : List UInt8), l.length ≤ 9 ∧ nv = .int .u64 m ∧ wr.ownsRow w.heap.size 5 1 bv l.length (l.map byteV) ∧ vb n = l ++ vbF (9 - l.length) m ∧ m * 128 ^ l.length ≤ n ∧ Below w.heap.size w wr

theorem own_snoc {w : World} {base : Nat} {v : Value} {l : List UInt8} {x : Int} {c : UInt8} (hx : x = (c.toNat : Int)) (h : w.ownsRow base 5 1 v (l.length + 1) (l.map byteV ++ [.int .u8 x])) :
    w.ownsRow base 5 1 v (l ++ [c]).length ((l ++ [c]).map byteV) := by
  subst hx
  simpa [byteV] using h

set_option maxRecDepth 100000 in
set_option maxHeartbeats 1000000 in
theorem refPut_any (n : Nat) (h : n < 18446744073709551616) (w : World) :
    Calls Try.prog 36 #[.int .u64 n] w fun e w' => e = .returned (.string (bs (vb n))) ∧ Below w.heap.size w w' := by
  obtain ⟨i0, hi, hz0, hz1, hz2⟩ := info_parts info5
  go_enter Try.func36, Try.ntmps36
  go_wp2
  go_loopw [0, 3] (fun nv bv wr => RpRel n w nv bv wr) (fun nv _ _ => (intOf nv).toNat)
  case atStart => exact ⟨n, [], by simp, rfl, World.ownsRow_nil _ _ _ _, rfl, by simp, Below.refl _ _⟩
  case round =>
    obtain ⟨m, l, hl, rfl, hown, hv', hm', hb⟩ := hrel
    have hm64 := put_m64 n m _ h hm'
    have hv : Hid (vb n = l ++ vbF (9 - l.length) m) := hv'
    have hm : Hid (m * 128 ^ l.length ≤ n) := hm'
    have H : Hid (n < 18446744073709551616) := h
    clear h hv' hm'
    have r3 : w.heap.size ≤ wr.heap.size := hb.size
    have hblk := own_block hown
    by_cases hlt : 128 ≤ m
    · go_wp2_with (first | (at_builtin; (refine wpList_append_own _ rfl (.tmp 6) (.tmp 10) 43 rfl w.heap.size 5 i0 (.int .u8 0) 1 1 Try.underlying43 hi hz0 hz1 hz2 rfl (by decide) _ _ _ rfl (hown.alloc _) ⟨wr.heap.size, 0, none⟩ 1 1 [.int .u8 (bits .or .u8 ((m : Int) % 256) 128)] rfl rfl (by intro j u hj; match j, hj with | 0, hj => simp at hj; subst hj; simp [Addr.add]) (by intro u hu; simp at hu; subst hu; rfl) (by unfold maxLen; omega) (by omega) (by simp; omega) ?_); intro v' w1 hown' hgrow _) | go_in)
      have hbw : Below w.heap.size w w1 := (hb.alloc r3 _).grown hgrow (by simp; omega) hblk
      go_roundw
      case rel =>
        obtain ⟨s1, s2, s3⟩ := put_step n m l H.out hl hv.out hm.out hlt
        exact ⟨m / 128, l ++ [UInt8.ofNat (m % 128 + 128)], by simp; omega, by go_num, own_snoc (or128 m) hown', s2, s3, hbw⟩
      case measure => simp [intOf]; omega
    · go_wp2_with (first | (at_builtin; (refine wpList_append_own _ rfl (.tmp 14) (.tmp 17) 43 rfl w.heap.size 5 i0 (.int .u8 0) 1 1 Try.underlying43 hi hz0 hz1 hz2 rfl (by decide) _ _ _ rfl (hown.alloc _) ⟨wr.heap.size, 0, none⟩ 1 1 [.int .u8 m] rfl rfl (by intro j u hj; match j, hj with | 0, hj => simp at hj; subst hj; simp [Addr.add]) (by intro u hu; simp at hu; subst hu; rfl) (by unfold maxLen; omega) (by omega) (by simp; omega) ?_); intro v' w1 hown' hgrow _; have hcv := own_string (own_snoc (c := UInt8.ofNat m) (by rw [u8_of _ (by omega)]) hown') (by simp); have hbw : Below w.heap.size w w1 := (hb.alloc r3 _).grown hgrow (by simp; omega) hblk) | go_in)
      go_ret
      exact ⟨ret_str (by rw [hv.out, vbF_lt _ _ (by omega)]), by assumption⟩

end Go.Proofs.Ytplalkhjjndffaa
