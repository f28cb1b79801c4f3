/-
  Package chance, the decoder: number, over.
-/
import Derived.Test.YtbmjehpkcelogaaDe
namespace Go.Proofs.Ytbmjehpkcelogaa
open Go.ChangeShapes Go.WideShapes Go.ChangeAt Go.RowKit
open Go.ChangeMaps (open_string shut_string)

set_option maxRecDepth 100000 in
theorem number_any (s : ByteArray) (W : World) (hs : s.size ≤ 4) :
    Calls Try.prog 45 #[.string s] W fun e W' => e = .returned (.int .u32 ((num s.data.toList : Nat) : Int)) ∧ W = W' := by
  have hl : s.data.toList.length = s.size := len_data s
  go_enter Try.func45, Try.ntmps45
  go_wp2_with fail
  go_loopw [3, 7] (fun nv iv wr => NuRel s.data.toList W nv iv wr) (fun _ iv _ => s.size - (intOf iv).toNat)
  case atStart => exact ⟨0, Nat.zero_le _, rfl, by simp [num], rfl⟩
  case round =>
    obtain ⟨i, hi, rfl, rfl, rfl⟩ := hrel
    rw [hl] at hi
    by_cases hlt : i < s.size
    · have e1 := num_take_succ s.data.toList i (by omega)
      have hx := num_le s.data.toList i (by omega)
      have hc := (s.data.toList[i]'(by omega)).toNat_lt
      have ho := or_byte (num (s.data.toList.take i)) (s.data.toList[i]'(by omega)).toNat hx (by omega)
      have HX := Hid.intro e1
      have hxi : ((num (s.data.toList.take i) : Nat) : Int) < 16777216 := by omega
      clear e1 hx
      generalize num (s.data.toList.take i) = x at *
      have hm : ((s.data.toList[i].toNat : Int) % 4294967296) = (s.data.toList[i].toNat : Int) := by omega
      go_wp2
      go_roundw
      case rel => exact ⟨i + 1, by omega, by go_num, by rw [HX.out]; refine Eq.trans ?_ (congrArg (Value.int .u32) ho); exact congrArg (fun z => Value.int .u32 (bits .or .u32 ((x : Int) * 256) z)) hm, rfl⟩
      case measure => simp [intOf]; omega
    · obtain rfl : i = s.size := by omega
      rw [List.take_of_length_le (by omega)]
      go_wp2
      go_ret
      exact ⟨rfl, rfl⟩
theorem chg_drewN {S : Nat → Prop} {a b : World} (h : Chg S a b) (m : Nat) : Chg S a (b.drewN m) := h
theorem de_drewN {W : World} {A : Nat} {s : ByteArray} {v : Value} {st : Nat × Nat × Nat} {bad : Bool} (h : De W A s v st bad) (n : Nat) : De (W.drewN n) A s v st bad := h
theorem de_drew {W : World} {A : Nat} {s : ByteArray} {v : Value} {st : Nat × Nat × Nat} {bad : Bool} (h : De W A s v st bad) : De W.drew A s v st bad := h
/-- What over leaves: an error, how far above low. -/
def OvPost (A : Nat) (s : ByteArray) (v : Value) (st : Nat × Nat × Nat) (er d : Nat) (bad : Bool) (W : World) (e : Ending) (W' : World) : Prop :=
  e = .returned (.tuple #[.int .u32 d, .int .i64 er]) ∧ De W' A s v st bad ∧ Chg (· = A) W W'
theorem over_nil (W : World) : Calls Try.prog 38 #[.pointer none] W fun e W' => e = .returned (.tuple #[.int .u32 0, .int .i64 6]) ∧ W = W' := by
  go_enter Try.func38, Try.ntmps38
  go_wp2
  go_ret2
  exact ⟨rfl, rfl⟩
theorem over_bad (A : Nat) (s : ByteArray) (v : Value) (st : Nat × Nat × Nat) (W : World) (h : De W A s v st true) :
    Calls Try.prog 38 #[ptr A] W (OvPost A s v st 3 0 true W) := by
  have c5 : W.cell? ⟨A, 5, none⟩ = some (.bool true) := by rw [blk_cell h.1]; rfl
  unfold ptr
  go_enter Try.func38, Try.ntmps38
  go_wp2
  go_ret2
  exact ⟨rfl, h, chg_refl _ _⟩
set_option maxRecDepth 100000 in
theorem over_more (A : Nat) (s : ByteArray) (v : Value) (st : Nat × Nat × Nat) (W : World) (h : De W A s v st false) (hk : st.1 ≤ 100000) (hs : s.size < 5 + st.1) :
    Calls Try.prog 38 #[ptr A] W (OvPost A s v st 2 0 true W) := by
  have c5 : W.cell? ⟨A, 5, none⟩ = some (.bool false) := by rw [blk_cell h.1]; rfl
  have c0 : W.cell? ⟨A, 0, none⟩ = some (.string s) := by rw [blk_cell h.1]; rfl
  have NM := fun (n : Nat) => (need_any A s v st false (W.drewN n) (de_drewN h n) hk).mono (fun _ _ g => And.intro g.1 g.2.symm)
  have FM := fun (n : Nat) => fail_any A s v st false 2 (W.drewN n) (de_drewN h n)
  have hd : decide ((s.size : Int) < ((5 + st.1 : Nat) : Int)) = true := decide_eq_true (by omega)
  unfold OvPost
  generalize 5 + st.1 = q at *
  unfold ptr at *
  go_enter Try.func38, Try.ntmps38
  go_wp2
  go_quiet ((go_at_call 42; refine Calls.quiet_of_same (NM _)))
  go_wp2_with fail
  refine (FM _).mono ?_
  rintro e w1 ⟨rfl, k1, k2⟩
  go_wp2
  go_ret2
  exact ⟨rfl, k1, k2⟩
theorem ext_list (s : ByteArray) (k : Nat) : (s.extract (k + 1) (5 + k)).data.toList = (s.data.toList.drop (k + 1)).take 4 := by
  simp only [ByteArray.data_extract, Array.toList_extract, List.extract_eq_take_drop]
  rw [show 5 + k - (k + 1) = 4 from by omega]
set_option maxRecDepth 100000 in
theorem over_head (A : Nat) (s : ByteArray) (v : Value) (st : Nat × Nat × Nat) (W : World) (h : De W A s v st false) (hk : st.1 ≤ 100000) (hs : 5 + st.1 ≤ s.size) (hs2 : s.size ≤ 100000) (o : Nat)
    (ho : o = (num ((s.data.toList.drop (st.1 + 1)).take 4) + 4294967296 - st.2.1 % 4294967296) % 4294967296) (hx : s.data.toList[0]? ≠ some 0) :
    Calls Try.prog 38 #[ptr A] W (OvPost A s v st 3 0 true W) := by
  have c5 : W.cell? ⟨A, 5, none⟩ = some (.bool false) := by rw [blk_cell h.1]; rfl
  have c0 : W.cell? ⟨A, 0, none⟩ = some (.string s) := by rw [blk_cell h.1]; rfl
  have c4 : W.cell? ⟨A, 4, none⟩ = some (.int .i64 (st.1 : Int)) := by rw [blk_cell h.1]; rfl
  have c2 : W.cell? ⟨A, 2, none⟩ = some (lstV st.2.1) := by rw [blk_cell h.1]; rfl
  have NM := fun (n : Nat) => (need_any A s v st false (W.drewN n) (de_drewN h n) hk).mono (fun _ _ g => And.intro g.1 g.2.symm)
  have hd : decide ((s.size : Int) < ((5 + st.1 : Nat) : Int)) = false := decide_eq_false (by omega)
  have UM := fun (w : World) => (number_any (s.extract (st.1 + 1) (5 + st.1)) w (by rw [ByteArray.size_extract]; omega)).mono (fun _ _ g => And.intro g.1 g.2.symm)
  rw [ext_list s st.1] at UM
  have hz : num ((s.data.toList.drop (st.1 + 1)).take 4) < 4294967296 := num_lt 4 _ (by simp only [List.length_take, List.length_drop, len_data]; omega)
  have hl : st.2.1 % 4294967296 < 4294967296 := Nat.mod_lt _ (by decide)
  have HD := Hid.intro h
  unfold lstV at c2
  unfold OvPost
  generalize num ((s.data.toList.drop (st.1 + 1)).take 4) = z at *
  generalize st.2.1 % 4294967296 = l at *
  have hsub : ((z : Int) - l) % 4294967296 = (o : Int) := by omega
  have hs0 : 0 < s.size := by omega
  clear h hz hl ho
  have hc : ((s[0].toNat : Int) != 0) = true := by
    simp only [bne_iff_ne, ne_eq]
    intro e
    have h1 := hx
    rw [List.getElem?_eq_getElem (by rw [len_data]; exact hs0)] at h1
    exact h1 (congrArg some (UInt8.toNat_inj.1 (by have : s[0].toNat = 0 := by omega
                                                   exact this)))
  clear hx
  have w1 : IntKind.i64.wrap ((st.1 : Int) + 1) = (st.1 : Int) + 1 := by rw [IntKind.wrap_i64]; omega
  have b1 : (0 : Int) ≤ (st.1 : Int) + 1 := by omega
  have b2 : (st.1 : Int) + 1 ≤ ((5 + st.1 : Nat) : Int) := by omega
  have b3 : ((5 + st.1 : Nat) : Int) ≤ (s.size : Int) := by omega
  have b4 : ((st.1 : Int) + 1).toNat = st.1 + 1 := by omega
  generalize hq : 5 + st.1 = q at *
  unfold ptr at *
  go_enter Try.func38, Try.ntmps38
  go_wp2
  go_quiet ((go_at_call 42; refine Calls.quiet_of_same (NM _)))
  go_wp2_with fail
  have HD1 := Hid.intro (de_drewN HD.out nq)
  have K1 := Hid.intro (chg_drewN (chg_refl (· = A) W) nq)
  have e0 : (W.drewN nq).cell? ⟨A, 0, none⟩ = some (.string s) := c0
  have e4 : (W.drewN nq).cell? ⟨A, 4, none⟩ = some (.int .i64 (st.1 : Int)) := c4
  have e2 : (W.drewN nq).cell? ⟨A, 2, none⟩ = some (.int .u32 (l : Int)) := c2
  clear NM c0 c2 c4 c5 HD
  generalize W.drewN nq = W1 at *
  have NM := fun (n : Nat) => (need_any A s v st false (W1.drewN n) (de_drewN HD1.out n) hk).mono (fun _ _ g => And.intro g.1 g.2.symm)
  have SZ := fun (n : Nat) => (size_any (fit1 _ _ _) A v 0 st.2.1 st.2.2 (W1.drewN n) (de_drewN HD1.out n))
  have FM := fun (n : Nat) => fail_any A s v st false 3 (W1.drewN n) (de_drewN HD1.out n)
  rw [hq] at NM
  unfold ptr ptrO at *
  go_quiet ((first | (go_at_call 42; refine Calls.quiet_of_same (NM _)) | (go_at_call 45; refine Calls.quiet_of_same (UM _))))
  go_wp2_with (first | (go_at_call 35; refine (SZ _).mono ?_; rintro e w1 ⟨rfl, rfl⟩))
  refine (FM _).mono ?_
  rintro e w2 ⟨rfl, k1, k2⟩
  go_wp2
  go_ret2
  exact ⟨rfl, k1, chg_trans K1.out k2 (fun _ _ h => h)⟩
set_option maxRecDepth 100000 in
theorem over_wide (A : Nat) (s : ByteArray) (v : Value) (st : Nat × Nat × Nat) (W : World) (h : De W A s v st false) (hk : st.1 ≤ 100000) (hs : 5 + st.1 ≤ s.size) (hs2 : s.size ≤ 100000) (o : Nat)
    (ho : o = (num ((s.data.toList.drop (st.1 + 1)).take 4) + 4294967296 - st.2.1 % 4294967296) % 4294967296) (hx : s.data.toList[0]? = some 0) (ho2 : st.2.2 ≤ o) :
    Calls Try.prog 38 #[ptr A] W (OvPost A s v st 3 0 true W) := by
  have c5 : W.cell? ⟨A, 5, none⟩ = some (.bool false) := by rw [blk_cell h.1]; rfl
  have c0 : W.cell? ⟨A, 0, none⟩ = some (.string s) := by rw [blk_cell h.1]; rfl
  have c4 : W.cell? ⟨A, 4, none⟩ = some (.int .i64 (st.1 : Int)) := by rw [blk_cell h.1]; rfl
  have c2 : W.cell? ⟨A, 2, none⟩ = some (lstV st.2.1) := by rw [blk_cell h.1]; rfl
  have NM := fun (n : Nat) => (need_any A s v st false (W.drewN n) (de_drewN h n) hk).mono (fun _ _ g => And.intro g.1 g.2.symm)
  have hd : decide ((s.size : Int) < ((5 + st.1 : Nat) : Int)) = false := decide_eq_false (by omega)
  have UM := fun (w : World) => (number_any (s.extract (st.1 + 1) (5 + st.1)) w (by rw [ByteArray.size_extract]; omega)).mono (fun _ _ g => And.intro g.1 g.2.symm)
  rw [ext_list s st.1] at UM
  have hz : num ((s.data.toList.drop (st.1 + 1)).take 4) < 4294967296 := num_lt 4 _ (by simp only [List.length_take, List.length_drop, len_data]; omega)
  have hl : st.2.1 % 4294967296 < 4294967296 := Nat.mod_lt _ (by decide)
  have HD := Hid.intro h
  unfold lstV at c2
  unfold OvPost
  generalize num ((s.data.toList.drop (st.1 + 1)).take 4) = z at *
  generalize st.2.1 % 4294967296 = l at *
  have hsub : ((z : Int) - l) % 4294967296 = (o : Int) := by omega
  have hs0 : 0 < s.size := by omega
  clear h hz hl ho
  have hc : ((s[0].toNat : Int) != 0) = false := by
    rw [List.getElem?_eq_getElem (by rw [len_data]; exact hs0)] at hx
    injection hx with hx
    have h1 : s[0] = 0 := hx
    rw [h1]; rfl
  clear hx
  have hge : (st.2.2 : Int) ≤ ((z : Int) - l) % 4294967296 := by omega
  have w1 : IntKind.i64.wrap ((st.1 : Int) + 1) = (st.1 : Int) + 1 := by rw [IntKind.wrap_i64]; omega
  have b1 : (0 : Int) ≤ (st.1 : Int) + 1 := by omega
  have b2 : (st.1 : Int) + 1 ≤ ((5 + st.1 : Nat) : Int) := by omega
  have b3 : ((5 + st.1 : Nat) : Int) ≤ (s.size : Int) := by omega
  have b4 : ((st.1 : Int) + 1).toNat = st.1 + 1 := by omega
  generalize hq : 5 + st.1 = q at *
  unfold ptr at *
  go_enter Try.func38, Try.ntmps38
  go_wp2
  go_quiet ((go_at_call 42; refine Calls.quiet_of_same (NM _)))
  go_wp2_with fail
  have HD1 := Hid.intro (de_drewN HD.out nq)
  have K1 := Hid.intro (chg_drewN (chg_refl (· = A) W) nq)
  have e0 : (W.drewN nq).cell? ⟨A, 0, none⟩ = some (.string s) := c0
  have e4 : (W.drewN nq).cell? ⟨A, 4, none⟩ = some (.int .i64 (st.1 : Int)) := c4
  have e2 : (W.drewN nq).cell? ⟨A, 2, none⟩ = some (.int .u32 (l : Int)) := c2
  clear NM c0 c2 c4 c5 HD
  generalize W.drewN nq = W1 at *
  have NM := fun (n : Nat) => (need_any A s v st false (W1.drewN n) (de_drewN HD1.out n) hk).mono (fun _ _ g => And.intro g.1 g.2.symm)
  have SZ := fun (n : Nat) => (size_any (fit1 _ _ _) A v 0 st.2.1 st.2.2 (W1.drewN n) (de_drewN HD1.out n))
  have FM := fun (n : Nat) => fail_any A s v st false 3 (W1.drewN n) (de_drewN HD1.out n)
  rw [hq] at NM
  unfold ptr ptrO at *
  go_quiet ((first | (go_at_call 42; refine Calls.quiet_of_same (NM _)) | (go_at_call 45; refine Calls.quiet_of_same (UM _))))
  go_wp2_with (first | (go_at_call 35; refine (SZ _).mono ?_; rintro e w1 ⟨rfl, rfl⟩))
  refine (FM _).mono ?_
  rintro e w2 ⟨rfl, k1, k2⟩
  go_wp2
  go_ret2
  exact ⟨rfl, k1, chg_trans K1.out k2 (fun _ _ h => h)⟩
set_option maxRecDepth 100000 in
theorem over_ok (A : Nat) (s : ByteArray) (v : Value) (st : Nat × Nat × Nat) (W : World) (h : De W A s v st false) (hk : st.1 ≤ 100000) (hs : 5 + st.1 ≤ s.size) (hs2 : s.size ≤ 100000) (o : Nat)
    (ho : o = (num ((s.data.toList.drop (st.1 + 1)).take 4) + 4294967296 - st.2.1 % 4294967296) % 4294967296) (hx : s.data.toList[0]? = some 0) (ho2 : o < st.2.2) :
    Calls Try.prog 38 #[ptr A] W (OvPost A s v st 0 o false W) := by
  have c5 : W.cell? ⟨A, 5, none⟩ = some (.bool false) := by rw [blk_cell h.1]; rfl
  have c0 : W.cell? ⟨A, 0, none⟩ = some (.string s) := by rw [blk_cell h.1]; rfl
  have c4 : W.cell? ⟨A, 4, none⟩ = some (.int .i64 (st.1 : Int)) := by rw [blk_cell h.1]; rfl
  have c2 : W.cell? ⟨A, 2, none⟩ = some (lstV st.2.1) := by rw [blk_cell h.1]; rfl
  have NM := fun (n : Nat) => (need_any A s v st false (W.drewN n) (de_drewN h n) hk).mono (fun _ _ g => And.intro g.1 g.2.symm)
  have hd : decide ((s.size : Int) < ((5 + st.1 : Nat) : Int)) = false := decide_eq_false (by omega)
  have UM := fun (w : World) => (number_any (s.extract (st.1 + 1) (5 + st.1)) w (by rw [ByteArray.size_extract]; omega)).mono (fun _ _ g => And.intro g.1 g.2.symm)
  rw [ext_list s st.1] at UM
  have hz : num ((s.data.toList.drop (st.1 + 1)).take 4) < 4294967296 := num_lt 4 _ (by simp only [List.length_take, List.length_drop, len_data]; omega)
  have hl : st.2.1 % 4294967296 < 4294967296 := Nat.mod_lt _ (by decide)
  have HD := Hid.intro h
  unfold lstV at c2
  unfold OvPost
  generalize num ((s.data.toList.drop (st.1 + 1)).take 4) = z at *
  generalize st.2.1 % 4294967296 = l at *
  have hsub : ((z : Int) - l) % 4294967296 = (o : Int) := by omega
  have hs0 : 0 < s.size := by omega
  clear h hz hl ho
  have hc : ((s[0].toNat : Int) != 0) = false := by
    rw [List.getElem?_eq_getElem (by rw [len_data]; exact hs0)] at hx
    injection hx with hx
    have h1 : s[0] = 0 := hx
    rw [h1]; rfl
  clear hx
  have hge : ¬ (st.2.2 : Int) ≤ ((z : Int) - l) % 4294967296 := by omega
  have w1 : IntKind.i64.wrap ((st.1 : Int) + 1) = (st.1 : Int) + 1 := by rw [IntKind.wrap_i64]; omega
  have b1 : (0 : Int) ≤ (st.1 : Int) + 1 := by omega
  have b2 : (st.1 : Int) + 1 ≤ ((5 + st.1 : Nat) : Int) := by omega
  have b3 : ((5 + st.1 : Nat) : Int) ≤ (s.size : Int) := by omega
  have b4 : ((st.1 : Int) + 1).toNat = st.1 + 1 := by omega
  generalize hq : 5 + st.1 = q at *
  unfold ptr at *
  go_enter Try.func38, Try.ntmps38
  go_wp2
  go_quiet ((go_at_call 42; refine Calls.quiet_of_same (NM _)))
  go_wp2_with fail
  have HD1 := Hid.intro (de_drewN HD.out nq)
  have K1 := Hid.intro (chg_drewN (chg_refl (· = A) W) nq)
  have e0 : (W.drewN nq).cell? ⟨A, 0, none⟩ = some (.string s) := c0
  have e4 : (W.drewN nq).cell? ⟨A, 4, none⟩ = some (.int .i64 (st.1 : Int)) := c4
  have e2 : (W.drewN nq).cell? ⟨A, 2, none⟩ = some (.int .u32 (l : Int)) := c2
  clear NM c0 c2 c4 c5 HD
  generalize W.drewN nq = W1 at *
  have NM := fun (n : Nat) => (need_any A s v st false (W1.drewN n) (de_drewN HD1.out n) hk).mono (fun _ _ g => And.intro g.1 g.2.symm)
  have SZ := fun (n : Nat) => (size_any (fit1 _ _ _) A v 0 st.2.1 st.2.2 (W1.drewN n) (de_drewN HD1.out n))
  have FM := fun (n : Nat) => fail_any A s v st false 3 (W1.drewN n) (de_drewN HD1.out n)
  rw [hq] at NM
  unfold ptr ptrO at *
  go_quiet ((first | (go_at_call 42; refine Calls.quiet_of_same (NM _)) | (go_at_call 45; refine Calls.quiet_of_same (UM _))))
  go_wp2_with (first | (go_at_call 35; refine (SZ _).mono ?_; rintro e w1 ⟨rfl, rfl⟩))
  go_ret2
  exact ⟨rfl, HD1.out, K1.out⟩

theorem over_any (A : Nat) (s : ByteArray) (v : Value) (st : Nat × Nat × Nat) (bad : Bool) (W : World) (h : De W A s v st bad) (hi : Iv st) (hj : Jv s.data.toList st bad) (hk : st.1 ≤ 100000) (hs2 : s.size ≤ 100000) :
    Calls Try.prog 38 #[ptr A] W (OvPost A s v st (ovr s.data.toList st bad).1 (ovr s.data.toList st bad).2.1 (ovr s.data.toList st bad).2.2 W) := by
  cases bad
  · by_cases hs : s.size < 5 + st.1
    · have e : ovr s.data.toList st false = (2, 0, true) := by
        unfold ovr ah; rw [if_pos (show s.data.toList.length < 5 + st.1 by rw [len_data]; exact hs)]; simp
      rw [e]
      exact over_more A s v st W h hk hs
    · obtain ⟨o, ho⟩ : ∃ o, o = (num ((s.data.toList.drop (st.1 + 1)).take 4) + 4294967296 - st.2.1 % 4294967296) % 4294967296 := ⟨_, rfl⟩
      obtain ⟨p1, p2⟩ := ah_prog s.data.toList st hi hj (by rw [len_data]; omega) o ho
      by_cases hx : s.data.toList[0]? = some 0
      · by_cases ho2 : o < st.2.2
        · have e : ovr s.data.toList st false = (0, o, false) := by unfold ovr; rw [p2 hx ho2]; simp
          rw [e]
          exact over_ok A s v st W h hk (by omega) hs2 o ho hx ho2
        · have e : ovr s.data.toList st false = (3, 0, true) := by unfold ovr; rw [p1 (.inr (by omega))]; simp
          rw [e]
          exact over_wide A s v st W h hk (by omega) hs2 o ho hx (by omega)
      · have e : ovr s.data.toList st false = (3, 0, true) := by unfold ovr; rw [p1 (.inl hx)]; simp
        rw [e]
        exact over_head A s v st W h hk (by omega) hs2 o ho hx
  · have e : ovr s.data.toList st true = (3, 0, true) := by unfold ovr; simp
    rw [e]
    exact over_bad A s v st W h
end Go.Proofs.Ytbmjehpkcelogaa
