/-
  The reference's decoder: ahead.
-/
import Derived.Test.YtbmjehpkcelogaaRm
import Derived.Test.YtbmjehpkcelogaaRk
import Derived.ChangeOld
namespace Go.Proofs.Ytbmjehpkcelogaa
open Go.ChangeShapes Go.WideShapes Go.ChangeAt Go.RowKit
open Go.ChangeMaps (open_string shut_string)


def agg3 (n e : Int) : Value := .agg #[.int .u64 n, .int .i64 0, .int .i64 e]
/-- The reference's reader of s at A, its coder at B. -/
def Re (W : World) (A : Nat) (s : ByteArray) (B : Nat) (v : Value) (st : Nat × Nat × Nat) (bad : Bool) : Prop :=
  Blk W A #[.string s, ptr B, .bool bad] 75 ∧ Cs W B v st ∧ A ≠ B ∧ v.ownBlock ≠ some A
def rfoot (A B : Nat) (v : Value) (k : Nat) : Prop := k = A ∨ foot B v k
theorem re_kept {W W' : World} {S : Nat → Prop} {A : Nat} {s : ByteArray} {B : Nat} {v : Value} {st : Nat × Nat × Nat} {bad : Bool} (h : Re W A s B v st bad) (g : Chg S W W') (hS : ∀ k, rfoot A B v k → ¬ S k) : Re W' A s B v st bad :=
  ⟨blk_kept h.1 g (hS A (.inl rfl)), co_kept h.2.1 g (fun k hk => hS k (.inr hk)), h.2.2⟩
theorem re_lt {W : World} {A : Nat} {s : ByteArray} {B : Nat} {v : Value} {st : Nat × Nat × Nat} {bad : Bool} (h : Re W A s B v st bad) (k : Nat) (hk : rfoot A B v k) : k < W.heap.size :=
  hk.elim (fun e => e ▸ blk_lt h.1) (fun e => co_lt h.2.1 k e)
theorem re_set {W : World} {A : Nat} {s : ByteArray} {B : Nat} {v : Value} {st : Nat × Nat × Nat} {bad : Bool} (h : Re W A s B v st bad) (b : Bool) : Re (W.setCell ⟨A, 2, none⟩ (.bool b)) A s B v st b :=
  ⟨by simpa using blk_set h.1 2 (.bool b), co_kept (S := (· = A)) h.2.1 (chg_set (chg_refl _ _) _ _ (fun _ => rfl)) (fun k hk e => hk.elim (fun g => h.2.2.1 (by omega)) (fun g => h.2.2.2 (by rw [g, e]))), h.2.2⟩
def AhPost (A : Nat) (s : ByteArray) (B : Nat) (v : Value) (st : Nat × Nat × Nat) (o : Nat × Nat × Bool) (W : World) (e : Ending) (W' : World) : Prop :=
  e = .returned (agg3 o.2.1 o.1) ∧ Re W' A s B v st o.2.2 ∧ Chg (· = A) W W'
theorem re_alloc {W : World} {A : Nat} {s : ByteArray} {B : Nat} {v : Value} {st : Nat × Nat × Nat} {bad : Bool} (h : Re W A s B v st bad) (o : Obj) : Re (W.alloc o) A s B v st bad :=
  re_kept h (chg_alloc (chg_refl (fun _ => False) _) o) (fun _ _ h => h)
theorem ahead_bad (A : Nat) (s : ByteArray) (B : Nat) (v : Value) (st : Nat × Nat × Nat) (W : World) (h : Re W A s B v st true) :
    Calls Try.prog 40 #[ptr A] W (AhPost A s B v st (3, 0, true) W) := by
  have c2 : W.cell? ⟨A, 2, none⟩ = some (.bool true) := by rw [blk_cell h.1]; rfl
  have hlt := blk_lt h.1
  have H := Hid.intro h
  clear h
  unfold ptr
  go_enter Try.func40, Try.ntmps40
  go_wp2
  exact bodyPost_ret (v := agg3 0 3) (by simp [results, Try.results40, go_sem, agg3]) rfl ⟨rfl, re_alloc H.out _, chg_alloc (chg_refl _ _) _⟩
theorem fin3 (w : World) (R : Nat) (c0 c1 c2 u0 u1 u2 : Value) (bk : Blk w R #[c0, c1, c2] 43) (W2 : World) (hW : W2 = ((w.setCell ⟨R, 0, none⟩ u0).setCell ⟨R, 1, none⟩ u1).setCell ⟨R, 2, none⟩ u2) :
    W2.cell? ⟨R, 0, none⟩ = some u0 ∧ W2.cell? ⟨R, 1, none⟩ = some u1 ∧ W2.cell? ⟨R, 2, none⟩ = some u2 ∧ Chg (· = R) w W2 := by
  have b : Blk W2 R #[u0, u1, u2] 43 := by
    rw [hW]
    have := blk_set (blk_set (blk_set bk 0 u0) 1 u1) 2 u2
    simpa using this
  have k1 : Chg (· = R) w (w.setCell ⟨R, 0, none⟩ u0) := chg_set (chg_refl _ _) _ _ (fun _ => rfl)
  have k2 : Chg (· = R) w ((w.setCell ⟨R, 0, none⟩ u0).setCell ⟨R, 1, none⟩ u1) := chg_set k1 _ _ (fun _ => rfl)
  have k3 : Chg (· = R) w W2 := by rw [hW]; exact chg_set k2 _ _ (fun _ => rfl)
  exact ⟨by rw [blk_cell b]; rfl, by rw [blk_cell b]; rfl, by rw [blk_cell b]; rfl, k3⟩
theorem ah_good {W wr : World} {A : Nat} {s : ByteArray} {B : Nat} {v : Value} {st : Nat × Nat × Nat} {bad : Bool} (h : Re W A s B v st bad) (o : Obj) (b : Bool) (d : Re wr A s B v st b) (c : Chg (· = A) (W.alloc o) wr)
    (c0 c1 c2 u0 u1 u2 : Value) (bk : Blk wr W.heap.size #[c0, c1, c2] 43) (W2 : World) (hW : W2 = ((wr.setCell ⟨W.heap.size, 0, none⟩ u0).setCell ⟨W.heap.size, 1, none⟩ u1).setCell ⟨W.heap.size, 2, none⟩ u2) :
    Re W2 A s B v st b ∧ Chg (· = A) W W2 ∧ W2.cell? ⟨W.heap.size, 0, none⟩ = some u0 ∧ W2.cell? ⟨W.heap.size, 1, none⟩ = some u1 ∧ W2.cell? ⟨W.heap.size, 2, none⟩ = some u2 := by
  obtain ⟨f0, f1, f2, f3⟩ := fin3 wr W.heap.size c0 c1 c2 u0 u1 u2 bk W2 hW
  refine ⟨re_kept d f3 (fun k hk e => by have := re_lt h k hk; omega), ?_, f0, f1, f2⟩
  exact chg_trans (chg_trans (chg_alloc (chg_refl (· = A) W) o) c (fun _ _ e => e)) f3 (fun j hj e => by omega)
theorem wrap64_few (n : Int) (h1 : -10000 ≤ n) (h2 : n ≤ 10000) : wrap64 n = n := by unfold wrap64; omega
def lo7 (D : Nat) : Nat := D % 72057594037927936
def hi7 (D : Nat) : Bool := decide (72057594037927936 ≤ D)
theorem or_step (V L i o D u : Nat) (h : Sb V L i o D) (hi : i < 7) (hu : u < 256) :
    bits .or .u64 ((lo7 D : Nat) : Int) (IntKind.u64.wrap ((u : Int) * 2 ^ (8 * i))) = ((lo7 (D + u * 256 ^ i) : Nat) : Int) ∧ hi7 D = false ∧ hi7 (D + u * 256 ^ i) = false := by
  have e : (2 : Nat) ^ (8 * i) = 256 ^ i := by rw [show (256 : Nat) = 2 ^ 8 from rfl, ← Nat.pow_mul]
  have e2 : (u : Int) * 2 ^ (8 * i) = ((u * 256 ^ i : Nat) : Int) := by rw [← e]; simp
  have hD := h.2.1
  have ho := or_bytes D u i hD
  have h6 : (256 : Nat) ^ i ≤ 256 ^ 6 := Nat.pow_le_pow_right (by decide) (by omega)
  have h66 : (256 : Nat) ^ 6 = 281474976710656 := rfl
  have hm : u * 256 ^ i ≤ 255 * 281474976710656 := Nat.mul_le_mul (by omega) (by omega)
  rw [e2]
  have hs : D + u * 256 ^ i < 72057594037927936 := by omega
  generalize 256 ^ i = P at *
  generalize u * P = m at *
  refine ⟨?_, ?_, ?_⟩
  · unfold lo7
    rw [IntKind.wrap_u64, show ((m : Nat) : Int) % 18446744073709551616 = ((m : Nat) : Int) from by omega, Nat.mod_eq_of_lt (by omega), Nat.mod_eq_of_lt hs, u64_or_nat _ _ (by omega) (by omega), ho]
  · unfold hi7; exact decide_eq_false (by omega)
  · unfold hi7; exact decide_eq_false (by omega)
theorem hi_step (D u i : Nat) (hi : 7 ≤ i) : lo7 (D + u * 256 ^ i) = lo7 D ∧ hi7 (D + u * 256 ^ i) = (hi7 D || decide (0 < u)) := by
  refine ⟨lo_keep D u i hi, ?_⟩
  unfold hi7
  rw [← Bool.decide_or]
  exact decide_eq_decide.2 (hi_keep D u i hi)
def AhRel (A B : Nat) (s : ByteArray) (v : Value) (st : Nat × Nat × Nat) (n : Nat) (W1 : World) (R : Nat) (dv ov lv iv : Value) (wr : World) : Prop :=
  ∃ (i o D : Nat), i ≤ n ∧ dv = .int .u64 ((lo7 D : Nat) : Int) ∧ ov = .int .i64 (o : Int) ∧ lv = .bool (hi7 D) ∧ iv = .int .i64 (i : Int) ∧
    Sb (num (s.data.toList.take n)) st.2.1 i o D ∧ Re wr A s B v st false ∧ Blk wr R #[.int .u64 0, .int .i64 0, .int .i64 0] 43 ∧ Chg (fun _ => False) W1 wr
set_option maxRecDepth 100000 in
set_option maxHeartbeats 4000000 in
theorem ahead_loop (A : Nat) (s : ByteArray) (B : Nat) (v : Value) (st : Nat × Nat × Nat) (W : World) (h : Re W A s B v st false) (hi : Iv st) (hk : st.1 ≤ 90000) (hs : 5 + st.1 ≤ s.size) (hs2 : s.size ≤ 100000) :
    Calls Try.prog 40 #[ptr A] W (AhPost A s B v st (ovr s.data.toList st false) W) := by
  obtain ⟨n, hn⟩ : ∃ n, n = 5 + st.1 := ⟨_, rfl⟩
  have hcs : Co W B v n st.2.1 st.2.2 := by rw [hn]; exact h.2.1
  have hlt := blk_lt h.1
  obtain ⟨g, cap, cur, rfl, hcap, hgb, hsz, hcur, hlen⟩ := own_at hcs.2.1 (by omega)
  have c0 : W.cell? ⟨A, 0, none⟩ = some (.string s) := by rw [blk_cell h.1]; rfl
  have c1 : W.cell? ⟨A, 1, none⟩ = some (ptr B) := by rw [blk_cell h.1]; rfl
  have c2 : W.cell? ⟨A, 2, none⟩ = some (.bool false) := by rw [blk_cell h.1]; rfl
  have d0 : W.cell? ⟨B, 0, none⟩ = some (.slice (some ⟨g, 0, none⟩) n cap) := by rw [blk_cell hcs.1]; rfl
  have hltB := blk_lt hcs.1
  rw [← hn] at hs
  have hd : decide ((s.size : Int) < (n : Int)) = false := decide_eq_false (by omega)
  have H := Hid.intro h
  have HI := Hid.intro hi
  have HN := Hid.intro hn
  have hn9 : n ≤ 100000 := by omega
  have hn5 : 5 ≤ n := by omega
  clear h hi hcur hgb hsz hcap hn hlen
  unfold ptr at *
  go_enter Try.func40, Try.ntmps40
  go_wp2_with fail
  have hdn : decide (s.size < n) = false := decide_eq_false (by omega)
  simp only [hdn]
  clear hdn hd
  go_loopw [4, 5, 6, 7] (fun dv ov lv iv wr => AhRel A B s (.slice (some ⟨g, 0, none⟩) n cap) st n (W.alloc (.cells #[.int .u64 0, .int .i64 0, .int .i64 0] 43)) W.heap.size dv ov lv iv wr) (fun _ _ _ iv _ => n - (intOf iv).toNat)
  case atStart => exact ⟨0, 0, 0, Nat.zero_le _, by rfl, rfl, by rfl, rfl, sb_start _ _, re_alloc H.out _, blk_new _ _ _, chg_refl _ _⟩
  case round =>
    obtain ⟨i, o, D, hin, rfl, rfl, rfl, rfl, hsb, hre, hbR, hch⟩ := hrel
    by_cases hil : i < n
    · obtain ⟨j, hj⟩ : ∃ j, j = n - 1 - i := ⟨_, rfl⟩
      have hji : ((n : Int) - 1 - (i : Int)) = (j : Int) := by omega
      have hd2 : decide ((i : Int) < (n : Int)) = true := decide_eq_true (by omega)
      have hjn : j < n := by omega
      have hjs : j < s.size := by omega
      have hcs : Co wr B (.slice (some ⟨g, 0, none⟩) n cap) n st.2.1 st.2.2 := by rw [HN.out]; exact (by have := hre.2.1; unfold Cs at this; rw [← HN.out] at this ⊢; exact this)
      obtain ⟨g', cap', cur, hv, hcap, hgb, hsz, hcur, hlen⟩ := own_at hcs.2.1 (by omega)
      injection hv with e1 e2 e3
      injection e1 with e1
      injection e1 with e1
      subst e1 e3
      have c0 : wr.cell? ⟨A, 0, none⟩ = some (.string s) := by rw [blk_cell hre.1]; rfl
      have c1 : wr.cell? ⟨A, 1, none⟩ = some (ptr B) := by rw [blk_cell hre.1]; rfl
      have d0 : wr.cell? ⟨B, 0, none⟩ = some (.slice (some ⟨g, 0, none⟩) n cap) := by rw [blk_cell hcs.1]; rfl
      have y0 : wr.cell? ⟨g, j, none⟩ = some (.int .u8 ((st.2.1 / 256 ^ i % 256 : Nat) : Int)) := by
        rw [own_cell hgb hcur j (by rw [be_len]; exact hjn) hlen]
        have e := be_at n st.2.1 i hil
        rw [← hj, List.getElem?_eq_getElem (by rw [be_len]; exact hjn)] at e
        injection e with e
        rw [e, byteV, u8_mod]
      have x0 : (s.data.toList[j]'(by rw [len_data]; exact hjs)).toNat = num (s.data.toList.take n) / 256 ^ i % 256 := by
        have e := num_at (s.data.toList.take n) n i (by rw [List.length_take, len_data]; omega) hil
        rw [← hj, List.getElem?_take, if_pos hjn, List.getElem?_eq_getElem (by rw [len_data]; exact hjs)] at e
        injection e with e
        rw [e, UInt8.toNat_ofNat']
      have hltA := blk_lt hre.1
      have hltB := blk_lt hcs.1
      have hltG := blk_lt hgb
      have HSB := Hid.intro hsb
      have HRE := Hid.intro hre
      have HBR := Hid.intro hbR
      have HCH := Hid.intro hch
      have HJ := Hid.intro hj
      clear hsb hre hbR hch hj hcs hcur hgb hsz hcap hlen
      have hx2 : num (s.data.toList.take n) / 256 ^ i % 256 < 256 := Nat.mod_lt _ (by decide)
      have hy2 : st.2.1 / 256 ^ i % 256 < 256 := Nat.mod_lt _ (by decide)
      have HX : Hid (∀ x y : Nat, x = num (s.data.toList.take n) / 256 ^ i % 256 → y = st.2.1 / 256 ^ i % 256 → ∀ (u o' : Nat), u + y + o = x + 256 * o' → o' ≤ 1 → u < 256 → Sb (num (s.data.toList.take n)) st.2.1 (i + 1) o' (D + u * 256 ^ i)) := Hid.intro fun x y hx hy u o' h1 h2 h3 => by subst hx hy; exact sb_step _ _ _ _ _ HSB.out u o' h1 h2 h3
      have HX := Hid.intro (HX.out _ _ rfl rfl)
      have ho1 : o ≤ 1 := HSB.out.1
      generalize num (s.data.toList.take n) / 256 ^ i % 256 = x at *
      generalize st.2.1 / 256 ^ i % 256 = y at *
      unfold ptr at *
      go_wp2_with fail
      have x1 : ((s[j]'hjs).toNat) = x := x0
      obtain ⟨q, hq⟩ : ∃ q : Int, q = (x : Int) - y - o := ⟨_, rfl⟩
      have hwq : wrap64 (wrap64 (wrap64 ((s[j]'hjs).toNat : Int) - (y : Int)) - (o : Int)) = q := by rw [x1, wrap64_few (x : Int) (by omega) (by omega), wrap64_few ((x : Int) - y) (by omega) (by omega), wrap64_few _ (by omega) (by omega), hq]
      have HWQ := Hid.intro hwq
      clear hwq x1 x0
      go_quiet (fail)
      rw [HWQ.out]
      have HRE2 := Hid.intro (show Re (wr.drewN nq) A s B _ st false from HRE.out)
      have HBR2 := Hid.intro (show Blk (wr.drewN nq) W.heap.size _ 43 from HBR.out)
      have HCH2 := Hid.intro (chg_drewN HCH.out nq)
      clear HRE HBR HCH c0 c1 d0 y0 hltA hltB hltG HWQ
      generalize wr.drewN nq = W1 at *
      by_cases hneg : x < y + o
      · obtain ⟨u, hu⟩ : ∃ u, u = x + 256 - y - o := ⟨_, rfl⟩
        have hn1 : q < 0 := by omega
        have hu1 : q + 256 = (u : Int) := by omega
        have hu2 : u < 256 := by omega
        have HS := Hid.intro (HX.out u 1 (by omega) (by omega) hu2)
        clear hu HX hq
        by_cases h7 : i < 7
        · have h7i : ((i : Int) < 7) := by omega
          have h7d : decide ((i : Int) < 7) = true := decide_eq_true (by omega)
          obtain ⟨s1, s2, s3⟩ := or_step _ _ i o D u HSB.out h7 hu2
          have S1 := Hid.intro s1
          have S2 := Hid.intro (s2.trans s3.symm)
          clear s1 s2 s3
          go_wp2_with fail
          go_roundw
          case rel => exact ⟨i + 1, 1, D + u * 256 ^ i, by omega, by rw [← S1.out], rfl, by rw [← S2.out], by go_num, HS.out, HRE2.out, HBR2.out, HCH2.out⟩
          case measure => simp [intOf]; omega
        · have h7i : ¬ ((i : Int) < 7) := by omega
          have h7d : decide ((i : Int) < 7) = false := decide_eq_false (by omega)
          obtain ⟨s1, s2⟩ := hi_step D u i (by omega)
          have S1 := Hid.intro s1
          have S2 := Hid.intro s2
          clear s1 s2
          cases hh : hi7 D
          · have hz := Hid.intro hh
            go_wp2_with fail
            go_roundw
            case rel => exact ⟨i + 1, 1, D + u * 256 ^ i, by omega, by rw [S1.out], rfl, by rw [S2.out, hz.out]; simp, by go_num, HS.out, HRE2.out, HBR2.out, HCH2.out⟩
            case measure => simp [intOf]; omega
          · have hz := Hid.intro hh
            go_wp2_with fail
            go_roundw
            case rel => exact ⟨i + 1, 1, D + u * 256 ^ i, by omega, by rw [S1.out], rfl, by rw [S2.out, hz.out]; rfl, by go_num, HS.out, HRE2.out, HBR2.out, HCH2.out⟩
            case measure => simp [intOf]; omega
      · obtain ⟨u, hu⟩ : ∃ u, u = x - y - o := ⟨_, rfl⟩
        have hu1 : q = (u : Int) := by omega
        have hn1 : ¬ q < 0 := by omega
        have hu2 : u < 256 := by omega
        have HS := Hid.intro (HX.out u 0 (by omega) (by omega) hu2)
        clear hu HX hq
        subst hu1
        by_cases h7 : i < 7
        · have h7i : ((i : Int) < 7) := by omega
          have h7d : decide ((i : Int) < 7) = true := decide_eq_true (by omega)
          obtain ⟨s1, s2, s3⟩ := or_step _ _ i o D u HSB.out h7 hu2
          have S1 := Hid.intro s1
          have S2 := Hid.intro (s2.trans s3.symm)
          clear s1 s2 s3
          go_wp2_with fail
          go_roundw
          case rel => exact ⟨i + 1, 0, D + u * 256 ^ i, by omega, by rw [← S1.out], rfl, by rw [← S2.out], by go_num, HS.out, HRE2.out, HBR2.out, HCH2.out⟩
          case measure => simp [intOf]; omega
        · have h7i : ¬ ((i : Int) < 7) := by omega
          have h7d : decide ((i : Int) < 7) = false := decide_eq_false (by omega)
          obtain ⟨s1, s2⟩ := hi_step D u i (by omega)
          have S1 := Hid.intro s1
          have S2 := Hid.intro s2
          clear s1 s2
          cases hh : hi7 D
          · have hz := Hid.intro hh
            go_wp2_with fail
            go_roundw
            case rel => exact ⟨i + 1, 0, D + u * 256 ^ i, by omega, by rw [S1.out], rfl, by rw [S2.out, hz.out]; simp, by go_num, HS.out, HRE2.out, HBR2.out, HCH2.out⟩
            case measure => simp [intOf]; omega
          · have hz := Hid.intro hh
            go_wp2_with fail
            go_roundw
            case rel => exact ⟨i + 1, 0, D + u * 256 ^ i, by omega, by rw [S1.out], rfl, by rw [S2.out, hz.out]; rfl, by go_num, HS.out, HRE2.out, HBR2.out, HCH2.out⟩
            case measure => simp [intOf]; omega
    · obtain rfl : i = n := by omega
      have hE := sb_end s.data.toList st o D HI.out (by rw [len_data, ← HN.out]; exact hs) (by rw [← HN.out]; exact hsb)
      have hd2 : decide ((i : Int) < (i : Int)) = false := decide_eq_false (by omega)
      have b0 : wr.cell? ⟨W.heap.size, 0, none⟩ = some (.int .u64 0) := by rw [blk_cell hbR]; rfl
      have b1 : wr.cell? ⟨W.heap.size, 1, none⟩ = some (.int .i64 0) := by rw [blk_cell hbR]; rfl
      have b2 : wr.cell? ⟨W.heap.size, 2, none⟩ = some (.int .i64 0) := by rw [blk_cell hbR]; rfl
      have fb := fun k => blk_free hbR k
      have c1 : wr.cell? ⟨A, 1, none⟩ = some (ptr B) := by rw [blk_cell hre.1]; rfl
      have c2 : wr.cell? ⟨A, 2, none⟩ = some (.bool false) := by rw [blk_cell hre.1]; rfl
      have f2 := blk_free hre.1 2
      have hcs : Co wr B (.slice (some ⟨g, 0, none⟩) i cap) i st.2.1 st.2.2 := by have := hre.2.1; unfold Cs at this; rw [← HN.out] at this; exact this
      have d1 : wr.cell? ⟨B, 1, none⟩ = some (.int .u64 (st.2.2 : Int)) := by rw [blk_cell hcs.1]; rfl
      have hltA := blk_lt hre.1
      have hltB := blk_lt hcs.1
      have hltR := blk_lt hbR
      have hAR : A ≠ W.heap.size := by omega
      have HBAD := Hid.intro (fun (W2 : World) (u0 u1 u2 : Value) (hW : W2 = (((wr.setCell ⟨A, 2, none⟩ (.bool true)).setCell ⟨W.heap.size, 0, none⟩ u0).setCell ⟨W.heap.size, 1, none⟩ u1).setCell ⟨W.heap.size, 2, none⟩ u2) =>
        ah_good H.out _ true (re_set hre true) (chg_trans (chg_mono hch (fun _ _ e => e.elim)) (chg_set (chg_refl (· = A) wr) _ _ (fun _ => rfl)) (fun _ _ e => e)) _ _ _ u0 u1 u2 (blk_set_other hbR _ _ (fun e => hAR e.symm)) W2 hW)
      have HGOOD := Hid.intro (fun (W2 : World) (u0 u1 u2 : Value) (hW : W2 = ((wr.setCell ⟨W.heap.size, 0, none⟩ u0).setCell ⟨W.heap.size, 1, none⟩ u1).setCell ⟨W.heap.size, 2, none⟩ u2) =>
        ah_good H.out _ false hre (chg_mono hch (fun _ _ e => e.elim)) _ _ _ u0 u1 u2 hbR W2 hW)
      have HE := Hid.intro hE
      clear hE hre hbR hch hcs hsb
      have hov : ∀ er d, ah s.data.toList st = (er, d) → ovr s.data.toList st false = (er, if er = 0 then d else 0, decide (er ≠ 0)) := by
        intro er d e
        unfold ovr
        rw [e]
        by_cases h : er = 0
        · subst h; simp
        · simp [h]
      have HOV := Hid.intro hov
      clear hov
      unfold ptr at *
      have BADEND : (0 < o ∨ 72057594037927936 ≤ D ∨ st.2.2 ≤ D % 72057594037927936) → ovr s.data.toList st false = (3, 0, true) := fun h => by rw [HOV.out _ _ (HE.out.1 h)]; rfl
      have BADEND := Hid.intro BADEND
      by_cases ho : 0 < o
      · have hoi : (0 : Int) < (o : Int) := by omega
        have HOE := Hid.intro (BADEND.out (.inl ho))
        clear HE BADEND HOV
        go_wp2_with fail
        obtain ⟨W2, hW2⟩ : ∃ W2, W2 = (((wr.setCell ⟨A, 2, none⟩ (.bool true)).setCell ⟨W.heap.size, 0, none⟩ (.int .u64 0)).setCell ⟨W.heap.size, 1, none⟩ (.int .i64 0)).setCell ⟨W.heap.size, 2, none⟩ (.int .i64 3) := ⟨_, rfl⟩
        obtain ⟨k1, k2, r0, r1, r2⟩ := HBAD.out W2 _ _ _ hW2
        first | rw [← hW2, HOE.out] | rw [← hW2]
        exact bodyPost_ret (v := agg3 0 3) (by simp [results, Try.results40, go_sem, agg3, r0, r1, r2]) rfl ⟨rfl, k1, k2⟩
      · have hoi : ¬ (0 : Int) < (o : Int) := by omega
        by_cases hh : hi7 D = true
        · have h72 : 72057594037927936 ≤ D := of_decide_eq_true hh
          have HOE := Hid.intro (BADEND.out (.inr (.inl h72)))
          clear HE BADEND HOV
          go_wp2_with fail
          obtain ⟨W2, hW2⟩ : ∃ W2, W2 = (((wr.setCell ⟨A, 2, none⟩ (.bool true)).setCell ⟨W.heap.size, 0, none⟩ (.int .u64 0)).setCell ⟨W.heap.size, 1, none⟩ (.int .i64 0)).setCell ⟨W.heap.size, 2, none⟩ (.int .i64 3) := ⟨_, rfl⟩
          obtain ⟨k1, k2, r0, r1, r2⟩ := HBAD.out W2 _ _ _ hW2
          first | rw [← hW2, HOE.out] | rw [← hW2]
          exact bodyPost_ret (v := agg3 0 3) (by simp [results, Try.results40, go_sem, agg3, r0, r1, r2]) rfl ⟨rfl, k1, k2⟩
        · have h72 : ¬ 72057594037927936 ≤ D := of_decide_eq_false (by simpa [hi7] using hh)
          have hhf : hi7 D = false := by simpa using hh
          by_cases hr : st.2.2 ≤ lo7 D
          · have hri : ((st.2.2 : Nat) : Int) ≤ ((lo7 D : Nat) : Int) := by omega
            have HOE := Hid.intro (BADEND.out (.inr (.inr hr)))
            clear h72
            clear HE BADEND HOV
            go_wp2_with fail
            obtain ⟨W2, hW2⟩ : ∃ W2, W2 = (((wr.setCell ⟨A, 2, none⟩ (.bool true)).setCell ⟨W.heap.size, 0, none⟩ (.int .u64 0)).setCell ⟨W.heap.size, 1, none⟩ (.int .i64 0)).setCell ⟨W.heap.size, 2, none⟩ (.int .i64 3) := ⟨_, rfl⟩
            obtain ⟨k1, k2, r0, r1, r2⟩ := HBAD.out W2 _ _ _ hW2
            first | rw [← hW2, HOE.out] | rw [← hW2]
            exact bodyPost_ret (v := agg3 0 3) (by simp [results, Try.results40, go_sem, agg3, r0, r1, r2]) rfl ⟨rfl, k1, k2⟩
          · have hri : ¬ ((st.2.2 : Nat) : Int) ≤ ((lo7 D : Nat) : Int) := by omega
            have hov := HOV.out _ _ (HE.out.2 ho h72 hr)
            have HOE := Hid.intro hov
            clear h72 HE BADEND HOV hov
            go_wp2_with fail
            obtain ⟨W2, hW2⟩ : ∃ W2, W2 = ((wr.setCell ⟨W.heap.size, 0, none⟩ (.int .u64 ((lo7 D : Nat) : Int))).setCell ⟨W.heap.size, 1, none⟩ (.int .i64 0)).setCell ⟨W.heap.size, 2, none⟩ (.int .i64 0) := ⟨_, rfl⟩
            obtain ⟨k1, k2, r0, r1, r2⟩ := HGOOD.out W2 _ _ _ hW2
            first | rw [← hW2, HOE.out] | rw [← hW2]
            exact bodyPost_ret (v := agg3 (lo7 D : Nat) 0) (by simp [results, Try.results40, go_sem, agg3, r0, r1, r2]) rfl ⟨rfl, k1, k2⟩

set_option maxRecDepth 100000 in
theorem ahead_more (A : Nat) (s : ByteArray) (B : Nat) (v : Value) (st : Nat × Nat × Nat) (W : World) (h : Re W A s B v st false) (hk : st.1 ≤ 90000) (hs : s.size < 5 + st.1) :
    Calls Try.prog 40 #[ptr A] W (AhPost A s B v st (2, 0, true) W) := by
  obtain ⟨n, hn⟩ : ∃ n, n = 5 + st.1 := ⟨_, rfl⟩
  have hcs : Co W B v n st.2.1 st.2.2 := by rw [hn]; exact h.2.1
  obtain ⟨g, cap, cur, rfl, hcap, hgb, hsz, hcur, hlen⟩ := own_at hcs.2.1 (by omega)
  have c0 : W.cell? ⟨A, 0, none⟩ = some (.string s) := by rw [blk_cell h.1]; rfl
  have c1 : W.cell? ⟨A, 1, none⟩ = some (ptr B) := by rw [blk_cell h.1]; rfl
  have c2 : W.cell? ⟨A, 2, none⟩ = some (.bool false) := by rw [blk_cell h.1]; rfl
  have f2 := blk_free h.1 2
  have d0 : W.cell? ⟨B, 0, none⟩ = some (.slice (some ⟨g, 0, none⟩) n cap) := by rw [blk_cell hcs.1]; rfl
  have hltB := blk_lt hcs.1
  have hlt := blk_lt h.1
  rw [← hn] at hs
  have hd : decide ((s.size : Int) < (n : Int)) = true := decide_eq_true (by omega)
  have H := Hid.intro h
  have hn9 : n ≤ 100000 := by omega
  clear h hcs hcur hgb hsz hcap hn hlen
  unfold ptr at *
  go_enter Try.func40, Try.ntmps40
  go_wp2
  exact bodyPost_ret (v := agg3 0 2) (by simp [results, Try.results40, go_sem, agg3]) rfl ⟨rfl, re_alloc (re_set H.out true) _, chg_alloc (chg_set (chg_refl (· = A) W) _ _ (fun _ => rfl)) _⟩
theorem ahead_any (A : Nat) (s : ByteArray) (B : Nat) (v : Value) (st : Nat × Nat × Nat) (bad : Bool) (W : World) (h : Re W A s B v st bad) (hi : Iv st) (hk : st.1 ≤ 90000) (hs2 : s.size ≤ 100000) :
    Calls Try.prog 40 #[ptr A] W (AhPost A s B v st (ovr s.data.toList st bad) W) := by
  cases bad
  · by_cases hs : s.size < 5 + st.1
    · have e : ovr s.data.toList st false = (2, 0, true) := by unfold ovr ah; rw [len_data, if_pos hs]; rfl
      rw [e]
      exact ahead_more A s B v st W h hk hs
    · exact ahead_loop A s B v st W h hi hk (by omega) hs2
  · exact ahead_bad A s B v st W h
end Go.Proofs.Ytbmjehpkcelogaa
