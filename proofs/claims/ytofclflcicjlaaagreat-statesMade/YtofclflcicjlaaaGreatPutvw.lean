/-
  The number told in the fewest bytes: package vint, Put, for every number; what it makes lies in new memory.
-/
import Derived.Test.YtofclflcicjlaaaGreatMathvw
import Derived.Test.YtofclflcicjlaaaGreatLy
import Derived.Test.YtofclflcicjlaaaGreatSc
import Derived.Test.YtofclflcicjlaaaGreatSg
import Derived.Test.YtofclflcicjlaaaGreatBuh
import Derived.Test.YtofclflcicjlaaaGreatRefHxh
import Derived.Test.YtofclflcicjlaaaGreatPuh
import Derived.Test.YtofclflcicjlaaaGreatRpyh
import Derived.Test.YtofclflcicjlaaaGreatTyh
import Derived.Test.YtofclflcicjlaaaGreatRdb
import Derived.Laws.OwnMore
import Derived.WalkKit
import Derived.ProofKit
import Derived.OpenShut
import Derived.ArgAppend
import Derived.Laws.IdiomStrings
namespace Go.Proofs.YtofclflcicjlaaaGreat
set_option maxRecDepth 100000
open Go.ChangeShapes Go.WideShapes Go.ChangeAt Go.RowKit

/-- 'append(b, c)', ONE ELEMENT OF ONE CELL, WITHIN THE CAPACITY: of the block nothing is asked but that the cell is there and free. -/
theorem wpList_app1 {P : Program} (w : World) {ops : Array Oper} {rest : List Oper} {o : Oper} {a : Act} {Q : Exit → Act → World → Prop}
    (hg : o.guard = none) (s x : Operand) (t : TypeId) (hop : o.op = Op.call { callee := Callee.builtin Builtin.append, args := #[s, x], argTypes := #[t, t] })
    (e : TypeId) (i : TypeInfo) (h1 : P.underlying t = some (.slice e)) (h2 : P.info? e = some i) (h4 : i.size = 1)
    (b n cap : Nat) (hs : a.eval s = .slice (some ⟨b, 0, none⟩) n cap) (ad : Addr) (u : Value) (hx : a.eval x = .slice (some ad) 1 1) (hc : w.cell? ad = some u) (h1c : u.oneCell' = true)
    (hr : n + 1 ≤ cap) (hsp : (w.cell? ⟨b, n, none⟩).isSome = true) (hfr : w.frozen? ⟨b, n, none⟩ = false)
    (hK : wpList P ops Q rest (a.put o.dst (.slice (some ⟨b, 0, none⟩) (n + 1) cap)) (w.setCell ⟨b, n, none⟩ u)) :
    wpList P ops Q (o :: rest) a w := by
  refine wpList_plain hg fun K hK' => ?_
  have hrun := run_append_room_cells (P := P) w t o.type e i h1 h2 b 0 n cap ad 1 1 [u] (by simp [h4])
    (by intro j v hj; match j, hj with | 0, hj => simp at hj; subst hj; simpa [Addr.add] using hc) (by intro v hv; simp at hv; subst hv; exact h1c) hr
    (by intro j hj; simp at hj; subst hj; simpa [h4] using hsp) (by intro j hj; simp at hj; subst hj; simpa [h4] using hfr)
  simp only [h4, Nat.mul_one, Nat.zero_add, World.setCells] at hrun
  unfold Oper.wp
  simp [execOp, hop, resolve, invoke, builtin, hs, hx, hrun, Result.andThen]
  exact hK' _ _ hK

theorem room_set {B : Nat} {w wr : World} {cap : Nat} {l : List UInt8} (h : Room B w wr cap l) (hl : l.length < cap) (c : UInt8) (v : Int) (hv : v = (c.toNat : Int)) :
    Room B w (wr.setCell ⟨B, l.length, none⟩ (.int .u8 v)) cap (l ++ [c]) := by
  obtain ⟨h1, h2, h3, h4⟩ := h
  subst hv
  obtain ⟨u, hu⟩ := Option.isSome_iff_exists.1 (h1 _ hl).1
  have same := World.cell?_setCell_same wr ⟨B, l.length, none⟩ (.int .u8 (c.toNat : Int)) hu
  have other : ∀ j, j ≠ l.length → (wr.setCell ⟨B, l.length, none⟩ (.int .u8 (c.toNat : Int))).cell? ⟨B, j, none⟩ = wr.cell? ⟨B, j, none⟩ := fun j hj => by
    rw [World.cell?_setCell_other _ _ _ _ (by intro e; injection e; omega)]
  refine ⟨fun j hj => ⟨?_, ?_⟩, fun j hj => ?_, h3.setCell (Nat.le_refl _) _, by simp; omega⟩
  · by_cases e : j = l.length
    · rw [e, same]; rfl
    · rw [other j e]; exact (h1 j hj).1
  · simpa using (h1 j hj).2
  · by_cases e : j = l.length
    · subst e; simpa using same
    · rw [other j e, h2 j (by simp at hj; omega)]
      simp [List.getElem_append_left (show j < l.length by simp at hj; omega)]

theorem room_alloc {B : Nat} {w wr : World} {cap : Nat} {l : List UInt8} (h : Room B w wr cap l) (o : Obj) : Room B w (wr.alloc o) cap l := by
  obtain ⟨h1, h2, h3, h4⟩ := h
  refine ⟨fun j hj => ⟨?_, ?_⟩, fun j hj => ?_, h3.alloc (by omega) o, by simp; omega⟩
  · rw [World.cell?_alloc_past _ _ _ h4]; exact (h1 j hj).1
  · rw [World.frozen?_alloc_past _ _ _ h4]; exact (h1 j hj).2
  · rw [World.cell?_alloc_past _ _ _ h4]; exact h2 j hj

theorem room_push {B : Nat} {w wr : World} {cap : Nat} {l : List UInt8} (h : Room B w wr cap l) (hl : l.length < cap) (o : Obj) (c : UInt8) (v : Int) (hv : v = (c.toNat : Int)) :
    Room B w ((wr.setCell ⟨B, l.length, none⟩ (.int .u8 v)).alloc o) cap (l ++ [c]) := room_alloc (room_set h hl c v hv) o

theorem room_string {B : Nat} {w wr : World} {cap : Nat} {l : List UInt8} (h : Room B w wr cap l) (n : Nat) (hn : n = l.length) :
    (convert 48 9 (.slice (some ⟨B, 0, none⟩) n cap)).run Tryz.prog wr = .ok (.string (bs l)) wr := by
  subst hn
  exact run_convert_bytes_back wr 48 9 5 ⟨B, 0, none⟩ cap l Tryz.underlying48 Tryz.underlying5 Tryz.underlying9 (fun j hj => by rw [Addr.add_lit, Nat.zero_add]; exact h.2.1 j hj)

theorem ret_str {a b : List UInt8} (h : a = b) : Ending.returned (.string (bs a)) = .returned (.string (bs b)) := by rw [h]

theorem or128 (m : Nat) : bits .or .u8 ((m : Int) % 256) 128 = ((UInt8.ofNat (m % 128 + 128)).toNat : Int) := by
  rw [show ((m : Int) % 256) = ((m % 256 : Nat) : Int) from by omega, show (128 : Int) = ((128 : Nat) : Int) from rfl, u8_or_nat _ _ (by omega) (by omega), u8_of _ (by omega)]
  have h : m % 256 ||| 128 = m % 128 + 128 := by
    have h1 := Nat.div_add_mod (m % 256) 128
    have h2 : m % 256 / 128 = 0 ∨ m % 256 / 128 = 1 := by omega
    have h3 : m % 256 % 128 = m % 128 := by omega
    rcases h2 with h2 | h2
    · rw [Nat.or_comm, nat_join 7 128 (m % 256) (by decide) (by omega)]; omega
    · have e : m % 256 = 128 ||| m % 128 := by rw [nat_join 7 128 (m % 128) (by decide) (by omega)]; omega
      rw [e, Nat.or_comm (128 ||| _), ← Nat.or_assoc, Nat.or_self, nat_join 7 128 (m % 128) (by decide) (by omega)]; omega
  rw [h]

theorem put_step (n m : Nat) (l : List UInt8) (hn : n < 18446744073709551616) (hl : l.length ≤ 9) (hv : vb n = l ++ vbF (9 - l.length) m) (hm : m * 128 ^ l.length ≤ n) (h : 128 ≤ m) :
    l.length ≤ 8 ∧ vb n = (l ++ [UInt8.ofNat (m % 128 + 128)]) ++ vbF (9 - (l ++ [UInt8.ofNat (m % 128 + 128)]).length) (m / 128) ∧ m / 128 * 128 ^ (l ++ [UInt8.ofNat (m % 128 + 128)]).length ≤ n := by
  have h8 : l.length ≤ 8 := by
    by_cases e : l.length = 9
    · rw [e] at hm
      have h9 : (128 : Nat) ^ 9 = 9223372036854775808 := by decide
      rw [h9] at hm; omega
    · omega
  refine ⟨h8, ?_, ?_⟩
  · obtain ⟨f, hf⟩ : ∃ f, 9 - l.length = f + 1 := ⟨8 - l.length, by omega⟩
    rw [hv, hf, vbF_ge _ _ h]
    simp only [List.length_append, List.length_singleton, List.append_assoc, List.singleton_append]
    rw [show 9 - (l.length + 1) = f from by omega]
  · simp only [List.length_append, List.length_singleton, Nat.pow_succ]
    refine Nat.le_trans ?_ hm
    rw [Nat.mul_comm (128 ^ _) 128, ← Nat.mul_assoc]
    exact Nat.mul_le_mul_right _ (by omega)

theorem put_m64 (n m : Nat) (k : Nat) (hn : n < 18446744073709551616) (hm : m * 128 ^ k ≤ n) : (m : Int) ≤ 18446744073709551615 := by
  have : m * 1 ≤ m * 128 ^ k := Nat.mul_le_mul_left _ (Nat.pow_pos (by decide))
  omega

def PutRel (n : Nat) (w : World) (nv bv : Value) (wr : World) : Prop :=
  ∃ (m : Nat) (l : List UInt8), l.length ≤ 9 ∧ nv = .int .u64 m ∧ bv = .slice (some ⟨w.heap.size, 0, none⟩) l.length 10 ∧ vb n = l ++ vbF (9 - l.length) m ∧ m * 128 ^ l.length ≤ n ∧ Room w.heap.size w wr 10 l

theorem room_zero (w : World) : Room w.heap.size w (w.alloc (.cells #[.int .u8 0, .int .u8 0, .int .u8 0, .int .u8 0, .int .u8 0, .int .u8 0, .int .u8 0, .int .u8 0, .int .u8 0, .int .u8 0] 120)) 10 [] := by
  refine ⟨fun j hj => ⟨?_, World.frozen?_alloc_at _ _ _ _ rfl⟩, fun j hj => by simp at hj, (Below.refl _ _).alloc (Nat.le_refl _) _, by simp⟩
  rw [World.cell?_alloc_at _ _ _ _ rfl]
  simp; omega

set_option maxRecDepth 100000 in
set_option maxHeartbeats 1000000 in
theorem put_anyv (n : Nat) (h : n < 18446744073709551616) (w : World) :
    Calls Tryz.prog 22 #[.int .u64 n] w fun e w' => e = .returned (.string (bs (vb n))) ∧ Below w.heap.size w w' := by
  obtain ⟨i0, hi, hz0, hz1, hz2⟩ := info_parts info5
  go_enter Tryz.func22, Tryz.ntmps22
  go_wp2
  go_loopw [0, 4] (fun nv bv wr => PutRel n w nv bv wr) (fun nv _ _ => (intOf nv).toNat)
  case atStart => exact ⟨n, [], by simp, rfl, rfl, rfl, by simp, room_zero w⟩
  case round =>
    obtain ⟨m, l, hl, rfl, rfl, hv', hm', hr⟩ := hrel
    have hm64 := put_m64 n m _ h hm'
    have hv : Hid (vb n = l ++ vbF (9 - l.length) m) := hv'
    have hm : Hid (m * 128 ^ l.length ≤ n) := hm'
    have H : Hid (n < 18446744073709551616) := h
    clear h hv' hm'
    have r1 : (wr.cell? ⟨w.heap.size, l.length, none⟩).isSome = true := (hr.1 _ (by omega)).1
    have r2 : wr.frozen? ⟨w.heap.size, l.length, none⟩ = false := (hr.1 _ (by omega)).2
    have r3 : w.heap.size < wr.heap.size := hr.2.2.2
    by_cases hlt : 128 ≤ m
    · go_wp2_with (first | (at_builtin; refine wpList_app1 _ rfl (.tmp 10) (.tmp 14) 48 rfl 5 i0 Tryz.underlying48 hi hz1 w.heap.size l.length 10 rfl ⟨wr.heap.size, 0, none⟩ _ rfl (by simp; rfl) (by rfl) (by omega) (by rw [World.cell?_alloc_past _ _ _ r3]; exact r1) (by rw [World.frozen?_alloc_past _ _ _ r3]; exact r2) ?_) | go_in)
      go_roundw
      case rel =>
        obtain ⟨s1, s2, s3⟩ := put_step n m l H.out hl hv.out hm.out hlt
        exact ⟨m / 128, l ++ [UInt8.ofNat (m % 128 + 128)], by simp; omega, by go_num, by simp, s2, s3, room_push hr (by omega) _ _ _ (or128 m)⟩
      case measure => simp [intOf]; omega
    · have R := room_push hr (by omega) (.cells #[.int .u8 m] 5) (UInt8.ofNat m) m (by rw [u8_of _ (by omega)])
      have hcv := room_string R (l.length + 1) (by simp)
      have hb : Below w.heap.size w _ := R.2.2.1
      clear R
      go_wp2_with (first | (at_builtin; refine wpList_app1 _ rfl (.tmp 16) (.tmp 19) 48 rfl 5 i0 Tryz.underlying48 hi hz1 w.heap.size l.length 10 rfl ⟨wr.heap.size, 0, none⟩ _ rfl (by simp; rfl) (by rfl) (by omega) (by rw [World.cell?_alloc_past _ _ _ r3]; exact r1) (by rw [World.frozen?_alloc_past _ _ _ r3]; exact r2) ?_) | go_in)
      go_ret
      exact ⟨ret_str (by rw [hv.out, vbF_lt _ _ (by omega)]), hb⟩
end Go.Proofs.YtofclflcicjlaaaGreat
