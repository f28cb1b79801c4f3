/-
  The places of a text, Get, GetWord, Err, awake: what they return, for every text of at most a million bytes; texts set together and cut, a text as a row of bytes: what Get and GetWord say of them; normed numbers, plain lists; each condition stands at its theorem; the reference's PutVint and Word return what Put and Word do, for every number; the reference's GetWord returns what the plain function says, for every text of at most a million bytes.
-/
import Derived.Test.YtofclflcicjlaaaGreatNumvw
import Derived.Test.YtofclflcicjlaaaGreatLy
import Derived.Test.YtofclflcicjlaaaGreatSc
import Derived.Test.YtofclflcicjlaaaGreatSg
import Derived.Test.YtofclflcicjlaaaGreatBuh
import Derived.Test.YtofclflcicjlaaaGreatRefHxh
import Derived.Test.YtofclflcicjlaaaGreatPuh
import Derived.Test.YtofclflcicjlaaaGreatRpyh
import Derived.Test.YtofclflcicjlaaaGreatTyh
import Derived.Test.YtofclflcicjlaaaGreatRdb
import Derived.Laws.OwnMore
namespace Go.Proofs.YtofclflcicjlaaaGreat
open Go.ChangeShapes Go.WideShapes Go.ChangeAt Go.RowKit
open Go.ChangeMaps (open_string shut_string)
set_option maxRecDepth 100000
theorem numF_took (f : Nat) : ∀ (i acc : Nat) (l : List UInt8), (numF f i acc l).2.1 ≤ i + f := by
  induction f with
  | zero => intro i acc l; simp [numF]
  | succ f ih =>
    intro i acc l
    cases l with
    | nil => simp [numF]
    | cons c l =>
      rw [numF]
      split
      · unfold endd; split <;> simp
      · have := ih (i + 1) (acc + (c.toNat - 128) * 128 ^ i) l; omega
theorem numb_took (l : List UInt8) : (numb l).2.1 ≤ 10 := by have := numF_took 10 0 0 l; simpa [numb] using this
def getAt (R : List UInt8 → Nat × Nat × Nat) (l : List UInt8) (at' : Int) : Nat × Nat × Nat :=
  if at' < 0 ∨ (l.length : Int) < at' then (0, 0, 1) else if (R (l.drop at'.toNat)).2.2 = 0 then ((R (l.drop at'.toNat)).1, at'.toNat + (R (l.drop at'.toNat)).2.1, 0) else (0, 0, (R (l.drop at'.toNat)).2.2)

theorem extract_list (s : ByteArray) (a : Nat) : (s.extract a s.size).data.toList = s.data.toList.drop a := by
  rw [ByteArray.data_extract, Array.toList_extract]
  show (s.data.toList.drop a).take (s.size - a) = _
  exact List.take_of_length_le (by rw [List.length_drop, Array.length_toList]; exact Nat.le_refl _)
theorem extract_size (s : ByteArray) (a : Nat) : (s.extract a s.size).size ≤ s.size := by
  rw [ByteArray.size_extract]; omega

theorem number_at (s : ByteArray) (a : Nat) (w : World) (hs : s.size ≤ 1000000) (x y z : Nat) (h : numb (s.data.toList.drop a) = (x, y, z)) :
    Calls Tryz.prog 110 #[.string (s.extract a s.size)] w fun e w' => e = .returned (.tuple #[.int .u64 x, .int .i64 y, .int .i64 z]) ∧ w' = w := by
  have := number_anyv (s.extract a s.size) w (by have := extract_size s a; omega)
  rw [extract_list, h] at this
  exact this
theorem getAt_lo (R : List UInt8 → Nat × Nat × Nat) (s : ByteArray) (a : Int) (h : a < 0 ∨ (s.size : Int) < a) : getAt R s.data.toList a = (0, 0, 1) := by
  unfold getAt; rw [if_pos (by rw [Array.length_toList]; exact h)]
theorem getAt_ok (R : List UInt8 → Nat × Nat × Nat) (s : ByteArray) (a : Int) (h : ¬ a < 0) (h' : ¬ (s.size : Int) < a) (x y : Nat) (hR : R (s.data.toList.drop a.toNat) = (x, y, 0)) :
    getAt R s.data.toList a = (x, a.toNat + y, 0) := by
  unfold getAt; rw [if_neg (by rw [Array.length_toList]; exact not_or.2 ⟨h, h'⟩), hR]; rfl
theorem getAt_no (R : List UInt8 → Nat × Nat × Nat) (s : ByteArray) (a : Int) (h : ¬ a < 0) (h' : ¬ (s.size : Int) < a) (x y z : Nat) (hR : R (s.data.toList.drop a.toNat) = (x, y, z)) (hz : z ≠ 0) :
    getAt R s.data.toList a = (0, 0, z) := by
  unfold getAt; rw [if_neg (by rw [Array.length_toList]; exact not_or.2 ⟨h, h'⟩), hR, if_neg hz]
theorem ret_tri' {t : Nat × Nat × Nat} {a c : Nat} {b : Int} {b' : Nat} (h : t = (a, b', c)) (hb : b = (b' : Int)) : Ending.returned (.tuple #[.int .u64 a, .int .i64 b, .int .i64 c]) = .returned (tri t) := by rw [h, hb]; rfl

set_option maxRecDepth 100000 in
set_option maxHeartbeats 1000000 in
theorem read20 (s : ByteArray) (a : Int) (w : World) (hs : s.size ≤ 1000000) :
    Calls Tryz.prog 109 #[.string s, .int .i64 a, .func (.func 110) #[] #[]] w fun e w' => e = .returned (tri (getAt numb s.data.toList a)) ∧ w' = w := by
  by_cases h1 : a < 0
  · have N : Hid (getAt numb s.data.toList a = (0, 0, 1)) := getAt_lo numb s a (.inl h1)
    go_enter Tryz.func109, Tryz.ntmps109
    go_wp2
    go_ret3
    exact ⟨ret_tri N.out, rfl⟩
  · by_cases h2 : (s.size : Int) < a
    · have N : Hid (getAt numb s.data.toList a = (0, 0, 1)) := getAt_lo numb s a (.inr h2)
      go_enter Tryz.func109, Tryz.ntmps109
      go_wp2
      go_ret3
      exact ⟨ret_tri N.out, rfl⟩
    · obtain ⟨x, y, z, hR⟩ : ∃ x y z, numb (s.data.toList.drop a.toNat) = (x, y, z) := ⟨_, _, _, rfl⟩
      have hy : y ≤ 10 := by have := numb_took (s.data.toList.drop a.toNat); rw [hR] at this; exact this
      by_cases hz : z = 0
      · subst hz
        have N : Hid (getAt numb s.data.toList a = (x, a.toNat + y, 0)) := getAt_ok numb s a h1 h2 x y hR
        go_enter Tryz.func109, Tryz.ntmps109
        go_wp2_with (first | (go_at_call 110; refine (number_at s a.toNat _ hs x y 0 hR).mono ?_; rintro e w' ⟨rfl, rfl⟩) | go_in)
        go_ret3
        exact ⟨ret_tri' N.out (by omega), rfl⟩
      · have N : Hid (getAt numb s.data.toList a = (0, 0, z)) := getAt_no numb s a h1 h2 x y z hR hz
        go_enter Tryz.func109, Tryz.ntmps109
        go_wp2_with (first | (go_at_call 110; refine (number_at s a.toNat _ hs x y z hR).mono ?_; rintro e w' ⟨rfl, rfl⟩) | go_in)
        go_ret3
        exact ⟨ret_tri N.out, rfl⟩

set_option maxRecDepth 100000 in
theorem get_anyv (s : ByteArray) (a : Int) (w : World) (hs : s.size ≤ 1000000) (x y z : Nat) (h : getAt numb s.data.toList a = (x, y, z)) :
    Calls Tryz.prog 85 #[.string s, .int .i64 a] w fun e w' => e = .returned (.tuple #[.int .u64 x, .int .i64 y, .int .i64 z]) ∧ w' = w := by
  have c := fun w => read20 s a w hs
  rw [h] at c
  simp only [tri] at c
  clear h
  go_enter Tryz.func85, Tryz.ntmps85
  go_wp2_with (first | (go_at_call 109; refine (c _).mono ?_; rintro e w' ⟨rfl, rfl⟩) | go_in)
  go_ret3
  exact ⟨rfl, rfl⟩
theorem cut_list (s : ByteArray) (k : Nat) : (s.extract 0 k).data.toList = s.data.toList.take k := by
  rw [ByteArray.data_extract, Array.toList_extract]
  show (s.data.toList.drop 0).take (k - 0) = _
  simp
/-- A number's bytes in the midst of others. -/
theorem mid_drop (s : ByteArray) (l : List UInt8) (t : ByteArray) : (s ++ bs l ++ t).data.toList.drop s.size = l ++ t.data.toList := by
  rw [app_list, app_list, List.append_assoc, List.drop_append_of_le_length (by rw [len_data]; exact Nat.le_refl _), List.drop_of_length_le (by rw [len_data]; exact Nat.le_refl _)]
  rfl
theorem mid_size (s : ByteArray) (l : List UInt8) (t : ByteArray) : (s ++ bs l ++ t).size = s.size + l.length + t.size := by
  simp [ByteArray.size_append, size_bs]

theorem vbF_ge128 (f : Nat) : ∀ (n k : Nat), k < (vbF f n).length → ∀ c ∈ (vbF f n).take k, 128 ≤ c.toNat := by
  induction f with
  | zero => intro n k hk c hc; simp [vbF] at hk; subst hk; simp at hc
  | succ f ih =>
    intro n k hk c hc
    by_cases h : n < 128
    · rw [vbF_lt _ _ h] at hk hc; simp at hk; subst hk; simp at hc
    · rw [vbF_ge _ _ (by omega)] at hk hc
      cases k with
      | zero => simp at hc
      | succ k =>
        rw [List.take_succ_cons, List.mem_cons] at hc
        rcases hc with rfl | hc
        · rw [u8_of _ (by omega)]; omega
        · exact ih (n / 128) k (by simpa using hk) c hc
set_option maxRecDepth 100000
/-! ### numbers in bytes, a row of noughts told once -/
theorem numb_cut (n k : Nat) (hk : k < (vb n).length) : numb ((vb n).take k) = (0, 0, 2) := by
  have hl := vb_len n
  have hlen : ((vb n).take k).length = k := by rw [List.length_take]; omega
  have h := numb_at ((vb n).take k) [] (vbF_ge128 9 n k hk) (by omega)
  rw [List.append_nil, hlen] at h
  rw [h]
  obtain ⟨f, hf⟩ : ∃ f, 10 - k = f + 1 := ⟨9 - k, by omega⟩
  rw [hf, numF]
theorem numb_ok {t : List UInt8} {n k e : Nat} (h : numb t = (n, k, e)) : e = 0 ∨ (n = 0 ∧ k = 0 ∧ (e = 2 ∨ e = 3)) := by
  have key : ∀ (f i acc : Nat) (l : List UInt8) (n k e : Nat), numF f i acc l = (n, k, e) → e = 0 ∨ (n = 0 ∧ k = 0 ∧ (e = 2 ∨ e = 3)) := by
    intro f
    induction f with
    | zero => intro i acc l n k e h; simp only [numF, Prod.mk.injEq] at h; omega
    | succ f ih =>
      intro i acc l n k e h
      cases l with
      | nil => simp only [numF, Prod.mk.injEq] at h; omega
      | cons c l =>
        simp only [numF] at h
        split at h
        · unfold endd at h
          split at h <;> simp only [Prod.mk.injEq] at h <;> omega
        · exact ih _ _ _ _ _ _ h
  exact key _ _ _ _ _ _ _ h
theorem own_block {w : World} {base n : Nat} {v : Value} {xs : List Value} (h : w.ownsRow base 5 1 v n xs) : ∀ k, v.ownBlock = some k → base ≤ k := by
  intro k hk
  rcases h.2 with ⟨rfl, _⟩ | ⟨g, cap, cur, rfl, hb, _⟩
  · simp [Value.ownBlock] at hk
  · simp [Value.ownBlock] at hk; omega
theorem own_stringv {w : World} {base n : Nat} {v : Value} {l : List UInt8} (h : w.ownsRow base 5 1 v n (l.map byteV)) (hn : 0 < n) :
    (convert 48 9 v).run Tryz.prog w = .ok (.string (bs l)) w := by
  obtain ⟨h1, h2⟩ := h
  rw [List.length_map, Nat.mul_one] at h1
  rcases h2 with ⟨_, h0⟩ | ⟨g, cap, cur, rfl, hb, hh, hc1, hc2, hc3, hc4⟩
  · omega
  · subst h1
    refine run_convert_bytes_back w 48 9 5 ⟨g, 0, none⟩ cap l Tryz.underlying48 Tryz.underlying5 Tryz.underlying9 (fun j hj => ?_)
    rw [Addr.add_lit, Nat.zero_add]
    have hcell : w.cell? ⟨g, j, none⟩ = cur[j]? := by simp [World.cell?, hh]
    have : (cur.toList.take (l.length * 1))[j]? = (l.map byteV)[j]? := by rw [hc4]
    rw [Nat.mul_one, List.getElem?_take_of_lt hj] at this
    rw [hcell, ← Array.getElem?_toList, this, List.getElem?_map, List.getElem?_eq_getElem hj]
    rfl

def RpRelv (n : Nat) (w : World) (nv bv : Value) (wr : World) : Prop :=
  ∃ (m : Nat) (l : List UInt8), l.length ≤ 9 ∧ nv = .int .u64 m ∧ wr.ownsRow w.heap.size 5 1 bv l.length (l.map byteV) ∧ vb n = l ++ vbF (9 - l.length) m ∧ m * 128 ^ l.length ≤ n ∧ Below w.heap.size w wr

theorem own_snoc {w : World} {base : Nat} {v : Value} {l : List UInt8} {x : Int} {c : UInt8} (hx : x = (c.toNat : Int)) (h : w.ownsRow base 5 1 v (l.length + 1) (l.map byteV ++ [.int .u8 x])) :
    w.ownsRow base 5 1 v (l ++ [c]).length ((l ++ [c]).map byteV) := by
  subst hx
  simpa [byteV] using h

set_option maxRecDepth 100000 in
set_option maxHeartbeats 1000000 in
theorem refPut_any (n : Nat) (h : n < 18446744073709551616) (w : World) :
    Calls Tryz.prog 28 #[.int .u64 n] w fun e w' => e = .returned (.string (bs (vb n))) ∧ Below w.heap.size w w' := by
  obtain ⟨i0, hi, hz0, hz1, hz2⟩ := info_parts info5
  go_enter Tryz.func28, Tryz.ntmps28
  go_wp2
  go_loopw [0, 3] (fun nv bv wr => RpRelv n w nv bv wr) (fun nv _ _ => (intOf nv).toNat)
  case atStart => exact ⟨n, [], by simp, rfl, World.ownsRow_nil _ _ _ _, rfl, by simp, Below.refl _ _⟩
  case round =>
    obtain ⟨m, l, hl, rfl, hown, hv', hm', hb⟩ := hrel
    have hm64 := put_m64 n m _ h hm'
    have hv : Hid (vb n = l ++ vbF (9 - l.length) m) := hv'
    have hm : Hid (m * 128 ^ l.length ≤ n) := hm'
    have H : Hid (n < 18446744073709551616) := h
    clear h hv' hm'
    have r3 : w.heap.size ≤ wr.heap.size := hb.size
    have hblk := own_block hown
    by_cases hlt : 128 ≤ m
    · go_wp2_with (first | (at_builtin; (refine wpList_append_own _ rfl (.tmp 6) (.tmp 10) 48 rfl w.heap.size 5 i0 (.int .u8 0) 1 1 Tryz.underlying48 hi hz0 hz1 hz2 rfl (by decide) _ _ _ rfl (hown.alloc _) ⟨wr.heap.size, 0, none⟩ 1 1 [.int .u8 (bits .or .u8 ((m : Int) % 256) 128)] rfl rfl (by intro j u hj; match j, hj with | 0, hj => simp at hj; subst hj; simp [Addr.add]) (by intro u hu; simp at hu; subst hu; rfl) (by unfold maxLen; omega) (by omega) (by simp; omega) ?_); intro v' w1 hown' hgrow _) | go_in)
      have hbw : Below w.heap.size w w1 := (hb.alloc r3 _).grown hgrow (by simp; omega) hblk
      go_roundw
      case rel =>
        obtain ⟨s1, s2, s3⟩ := put_step n m l H.out hl hv.out hm.out hlt
        exact ⟨m / 128, l ++ [UInt8.ofNat (m % 128 + 128)], by simp; omega, by go_num, own_snoc (or128 m) hown', s2, s3, hbw⟩
      case measure => simp [intOf]; omega
    · go_wp2_with (first | (at_builtin; (refine wpList_append_own _ rfl (.tmp 14) (.tmp 17) 48 rfl w.heap.size 5 i0 (.int .u8 0) 1 1 Tryz.underlying48 hi hz0 hz1 hz2 rfl (by decide) _ _ _ rfl (hown.alloc _) ⟨wr.heap.size, 0, none⟩ 1 1 [.int .u8 m] rfl rfl (by intro j u hj; match j, hj with | 0, hj => simp at hj; subst hj; simp [Addr.add]) (by intro u hu; simp at hu; subst hu; rfl) (by unfold maxLen; omega) (by omega) (by simp; omega) ?_); intro v' w1 hown' hgrow _; have hcv := own_stringv (own_snoc (c := UInt8.ofNat m) (by rw [u8_of _ (by omega)]) hown') (by simp); have hbw : Below w.heap.size w w1 := (hb.alloc r3 _).grown hgrow (by simp; omega) hblk) | go_in)
      go_ret
      exact ⟨ret_str (by rw [hv.out, vbF_lt _ _ (by omega)]), by assumption⟩

def agg3v (t : Nat × Nat × Nat) : Value := .agg #[.int .u64 t.1, .int .i64 t.2.1, .int .i64 t.2.2]
theorem ret_agg {t : Nat × Nat × Nat} {a b c : Nat} (h : t = (a, b, c)) : Ending.returned (.agg #[.int .u64 a, .int .i64 b, .int .i64 c]) = .returned (agg3v t) := by rw [h]; rfl
theorem ret_agg' {t : Nat × Nat × Nat} {a b c : Nat} {y : Int} (h : t = (a, b, c)) (hy : y = (b : Int)) : Ending.returned (.agg #[.int .u64 a, .int .i64 y, .int .i64 c]) = .returned (agg3v t) := by rw [h, hy]; rfl

theorem drop_snoc (s : ByteArray) (A k : Nat) (h : A + k < s.size) : (s.data.toList.drop A).take (k + 1) = (s.data.toList.drop A).take k ++ [s[A + k]] := by
  have hk : k < (s.data.toList.drop A).length := by rw [List.length_drop, len_data]; omega
  rw [List.take_succ_eq_append_getElem hk, List.getElem_drop]; rfl
theorem drop_take_len (s : ByteArray) (A k : Nat) (h : A + k ≤ s.size) : ((s.data.toList.drop A).take k).length = k := by
  rw [List.length_take, List.length_drop, len_data]; omega
end Go.Proofs.YtofclflcicjlaaaGreat
