/-
  Proved: NormBack returns true for every input, and leaves what was there as it was; no condition.
-/
import Derived.Test.YtplalkhjjndffaaRows
import Derived.WalkKit
import Derived.ProofKit
import Derived.OpenShut
import Derived.ShutString
import Derived.ChangeOld
import Derived.Below
import Derived.Deep.RegionWith
import Derived.Deep.QuietTactic
import Derived.BigQuiet
import Derived.Test.YtplalkhjjndffaaMw
import Derived.Test.YtplalkhjjndffaaGt
import Derived.OwnWalk
import Derived.Deep.RegionHeld3
namespace Go.Proofs.Ytplalkhjjndffaa
open Go.ChangeShapes Go.WideShapes Go.ChangeAt Go.RowKit
open Go.ChangeMaps (open_string shut_string)

theorem getN_len {s : List UInt8} {i log : Int} {l : List Nat} {k : Nat} (h : getN s i log = (0, l, k)) : l.length = 65 := by
  unfold getN at h
  split at h
  · simp at h
  · obtain ⟨E, l2, k2, hb⟩ : ∃ E l2 k2, getB log (s.drop i.toNat) = (E, l2, k2) := ⟨_, _, _, rfl⟩
    rw [hb] at h
    split at h
    · rename_i h1
      simp only [Prod.mk.injEq] at h
      exact absurd h.1 h1
    · rename_i h1
      simp only [Prod.mk.injEq] at h
      obtain rfl : E = 0 := by simpa using h1
      rw [← h.2.1]
      exact (mayN_yes.1 (getB_said hb).1).2.1
theorem fld28 (v x : Value) (W : World) : (Instr.field 28 (.agg #[v, x]) 0).run Try.prog W = .ok v W := by kernel_rfl
theorem encN_len (n : Nat) : ∀ l : List Nat, l.length ≤ n → (encN l).length ≤ 20 * l.length := by
  induction n with
  | zero => intro l h; obtain rfl : l = [] := List.eq_nil_of_length_eq_zero (by omega); simp [encN_nil]
  | succ n ih =>
    intro l h
    cases l with
    | nil => simp [encN_nil]
    | cons x l =>
      rw [List.length_cons] at h
      have hv := vb_len x
      by_cases hx : 0 < x
      · rw [encN_pos x l hx, List.length_append, List.length_cons]
        have := ih l (by omega); omega
      · obtain rfl : x = 0 := by omega
        have hz := zrow_le l
        have hv2 := vb_len (zrow l)
        rw [encN_zero, List.length_append, List.length_append, List.length_cons]
        have := ih (l.drop (zrow l)) (by rw [List.length_drop]; omega)
        rw [List.length_drop] at this; omega
theorem norm_good {f : List Int} {z : Int} (hl : lgB z = true) (hf : okC 16777216 f = true) (h0 : 0 < f.sum) : (normA f z).1 = 0 := by
  obtain ⟨h1, h2⟩ := (okC_iff _ _).1 hf
  unfold normA
  rw [if_pos ⟨h1, h2, h0, (lgB_iff z).1 hl⟩]
theorem nget_mid (ah be : ByteArray) (M : List Nat) (K : Nat) (w : World) (h1 : ah.size ≤ 20) (h2 : be.size ≤ 20) (h3 : (encN M).length ≤ 2000) (hm : mayN (K : Int) M = true) :
    Calls Try.prog 12 #[.string (ah ++ bs (encN M) ++ be), .int .i64 (ah.size : Int), .int .i64 (K : Int)] w fun e w' => ∃ v, e = .returned (.tuple #[v, .int .i64 ((ah.size : Int) + ((bs (encN M)).size : Int)), .int .i64 0]) ∧ w'.ownsRow w.heap.size 3 1 v M.length (nis M) ∧ Below w.heap.size w w' := by
  have hs := mid_size ah (encN M) be
  have G := get_norm (ah ++ bs (encN M) ++ be) (ah.size : Int) K w (by rw [hs]; omega)
  have e : getN (ah ++ bs (encN M) ++ be).data.toList (ah.size : Int) K = (0, M, ah.size + (encN M).length) := by
    rw [getN_go (by rw [len_data, hs]; omega) ((lgB_iff _).2 (mayN_yes.1 hm).1), mid_drop, getB_put hm, if_neg (by simp)]
  rw [e] at G
  refine G.mono ?_
  rintro e w1 ⟨v, rfl, o, b⟩
  refine ⟨v, ?_, o, b⟩
  rw [size_bs]
  simp
theorem nget_cut (M : List Nat) (K j : Nat) (hm : mayN (K : Int) M = true) (hj : j < (encN M).length) : getN ((encN M).take j) 0 K = (2, [], 0) := by
  have := getN_go (s := (encN M).take j) (i := 0) (log := (K : Int)) (Nat.zero_le _) ((lgB_iff _).2 (mayN_yes.1 hm).1)
  rw [List.drop_zero, getB_cut hm j hj, if_pos (by simp)] at this
  exact this
theorem nget_turned (M : List Nat) (K : Nat) (t : List UInt8) (hm : mayN (K : Int) M = true) (ht : t.length = (encN M).length) (hne : t ≠ encN M) {er nx : Nat} {N : List Nat} (hg : getN t 0 K = (er, N, nx)) : er ≠ 0 ∨ N ≠ M := by
  have := getN_go (s := t) (i := 0) (log := (K : Int)) (Nat.zero_le _) ((lgB_iff _).2 (mayN_yes.1 hm).1)
  rw [List.drop_zero] at this
  have hT := getB_turned (log := (K : Int)) ht hne
  obtain ⟨E, l, k, hb⟩ : ∃ E l k, getB (K : Int) t = (E, l, k) := ⟨_, _, _, rfl⟩
  rw [hb] at this
  rw [show ((0 : Nat) : Int) = 0 from rfl, hg] at this
  by_cases hE : E = 0
  · subst hE
    rw [if_neg (by simp)] at this
    right
    intro e
    have h2 : N = l := congrArg (fun q => q.2.1) this
    subst h2 e
    exact hT k hb
  · rw [if_pos hE] at this
    left
    have h2 : er = E := congrArg (fun q => q.1) this
    rw [h2]; exact hE
theorem xor_ne (x b : Nat) (h : b ≠ 0) : x ^^^ b ≠ x := by
  intro e
  have : x ^^^ (x ^^^ b) = x ^^^ x := by rw [e]
  rw [← Nat.xor_assoc, Nat.xor_self, Nat.zero_xor] at this
  exact h this
theorem nis_ne {M N : List Nat} (h : N ≠ M) : N.map Int.ofNat ≠ M.map Int.ofNat := fun e => h (by
  have := congrArg (List.map Int.toNat) e
  rw [List.map_map, List.map_map, show Int.toNat ∘ Int.ofNat = id from rfl, List.map_id, List.map_id] at this
  exact this)
theorem may_may {M : List Nat} {z : Int} (h : may z (M.map Int.ofNat) = true) : mayN z M = true := by
  have := conv_may (conv_nat M) z
  rw [← this]; exact h
set_option maxRecDepth 100000 in
set_option maxHeartbeats 4000000 in
theorem back_walk (a : Option Addr) (n cap : Nat) (lim : Int) (ah be : ByteArray) (cut at' by' : Int) (w : World) (h : RU w a n) (hn : n ≤ 9223372036854775807) (hl : 0 ≤ lim ∧ lim ≤ 255) (hah : ah.size ≤ 9223372036854775807) (hbe : be.size ≤ 9223372036854775807)
    (hcut : 0 ≤ cut ∧ cut ≤ 255) (hat : 0 ≤ at' ∧ at' ≤ 255) (hby : 0 ≤ by' ∧ by' ≤ 255) :
    Calls Try.prog 5 #[.slice a n cap, .int .u8 lim, .string ah, .string be, .int .u8 cut, .int .u8 at', .int .u8 by'] w fun e w' => e = .returned (.bool true) ∧ Below w.heap.size w w' := by
  have AW := Hid.intro awake_any
  by_cases hbig : 140 < n ∨ 20 < ah.size ∨ 20 < be.size
  · clear h
    rcases (by omega : 140 < n ∨ (¬ 140 < n ∧ 20 < ah.size) ∨ (¬ 140 < n ∧ ¬ 20 < ah.size ∧ 20 < be.size)) with h0 | ⟨h0, h1⟩ | ⟨h0, h1, h2⟩
    all_goals
      clear hbig
      go_enter Try.func5, Try.ntmps5
      go_wp2_with fail
      with_reducible refine (AW.out _).mono ?_
      rintro e w4 ⟨rfl, k5⟩
      go_wp2_with fail
      go_ret
      exact ⟨rfl, k5⟩
  · have h140 : n ≤ 140 := by omega
    have h20 : ah.size ≤ 20 := by omega
    have h20' : be.size ≤ 20 := by omega
    have FQ := freq_any a n cap w h h140
    obtain ⟨r, hr⟩ : ∃ r : Nat, lim % 6 = (r : Int) := ⟨(lim % 6).toNat, by omega⟩
    have hrt : lim.tmod 6 = (r : Int) := by rw [Int.tmod_eq_emod_of_nonneg hl.1]; exact hr
    obtain ⟨K, hK⟩ : ∃ K : Nat, 7 + (r : Int) = (K : Int) := ⟨7 + r, by omega⟩
    have K7 : 7 ≤ K := by omega
    have K12 : K ≤ 12 := by omega
    have fi := fld28
    clear h hbig hn hah hbe
    go_enter Try.func5, Try.ntmps5
    go_wp2_with fail
    with_reducible refine FQ.mono ?_
    rintro e w1 ⟨v, F, rfl, f1, f2, f3, f4⟩
    clear FQ
    obtain ⟨bf, cf, rfl⟩ := own_slice f3 (by omega)
    obtain ⟨c3, s3, g3⟩ := own_there f3 3 (by omega)
    have c3' : w1.cell? ⟨bf, 3, none⟩ = some (.int .i64 (fr F 3)) := by
      rw [c3]; simp only [ivs, List.getElem?_map]
      rw [List.getElem?_eq_getElem (by omega), fr_at F 3 (by omega)]; rfl
    have fb3 : 0 ≤ fr F 3 ∧ fr F 3 ≤ 65535 := by rw [fr_at F 3 (by omega)]; exact f2 _ (List.getElem_mem _)
    obtain ⟨y, hy⟩ : ∃ y, fr F 3 = y := ⟨_, rfl⟩
    rw [hy] at c3' fb3
    have o2 := own_set f3 3 (.int .i64 (y + 1))
    rw [ivs_set] at o2
    have f2' : ∀ z ∈ F.set 3 (y + 1), 0 ≤ z ∧ z ≤ 65536 := fun z hz => (List.mem_or_eq_of_mem_set hz).elim (fun h => by have := f2 z h; omega) (fun e => by omega)
    have ok2 : okC 16777216 (F.set 3 (y + 1)) = true := (okC_iff _ _).2 ⟨by rw [List.length_set]; exact f1, fun z hz => by have := f2' z hz; omega⟩
    have sm2 : 0 < (F.set 3 (y + 1)).sum := by
      have a1 := sm_bd 65536 (F.set 3 (y + 1)) (fun z hz => by have := f2' z hz; omega) 3 (by rw [List.length_set]; omega)
      have a2 := sm_succ (F.set 3 (y + 1)) 3 (by rw [List.length_set]; omega)
      have a3 : (F.set 3 (y + 1))[3]'(by rw [List.length_set]; omega) = y + 1 := by simp
      have a4 : ∀ i, i ≤ 65 → 4 ≤ i → y + 1 ≤ sm (F.set 3 (y + 1)) i := by
        intro i
        induction i with
        | zero => intro _ h; omega
        | succ i ih =>
          intro h1 h4
          rcases (by omega : i = 3 ∨ 4 ≤ i) with e | e
          · subst e; rw [a2, a3]; omega
          · rw [sm_succ _ i (by rw [List.length_set]; omega)]
            have := ih (by omega) e
            have := f2' _ (List.getElem_mem (l := F.set 3 (y + 1)) (n := i) (by rw [List.length_set]; omega))
            omega
      have := a4 65 (by omega) (by omega)
      rw [sm_all _ 65 (by rw [List.length_set]; omega)] at this
      omega
    have b2 := f4.setCell (p := ⟨bf, 3, none⟩) (f3.lt bf rfl).1 (.int .i64 (y + 1))
    have ng := norm_good (z := (K : Int)) ((lgB_iff _).2 (by omega)) ok2 sm2
    obtain ⟨w2, hw2⟩ : ∃ w2, w1.setCell ⟨bf, 3, none⟩ (.int .i64 (y + 1)) = w2 := ⟨_, rfl⟩
    rw [hw2] at o2 b2
    have RL := rnorm_any (some ⟨bf, 0, none⟩) 65 cf (F.set 3 (y + 1)) K w2 (own_ri' o2) (by omega)
    obtain ⟨M, hM, m1, -, m2, m3, -, -⟩ : ∃ M, normA (F.set 3 (y + 1)) K = (0, M) ∧ M.length = 65 ∧ (F.set 3 (y + 1)).length = 65 ∧ may K (M.map Int.ofNat) = true ∧ (∀ x ∈ M, x ≤ 4096) ∧ (∀ i, 0 < g M i ↔ 0 < fr (F.set 3 (y + 1)) i) ∧ ∀ i j, fr (F.set 3 (y + 1)) j < fr (F.set 3 (y + 1)) i → g M j ≤ g M i + 1 := by
      rcases norm_cases (F.set 3 (y + 1)) K with e | e
      · rw [e] at ng; simp at ng
      · exact e
    rw [hM] at RL
    have y0 := fb3.1
    have y1 := fb3.2
    have B2 := Hid.intro b2
    have MM := Hid.intro (may_may m2)
    have EL := encN_len 65 M (by omega)
    have EN : Hid (encN M ≠ []) := encN_ne (by rintro rfl; simp at m1)
    have PT : ∀ (W : World) (b c base : Nat), W.ownsRow base 3 1 (.slice (some ⟨b, 0, none⟩) 65 c) 65 (nis M) → _ := fun W b c base o => put_some (some ⟨b, 0, none⟩) 65 c M W (own_ri' o) (by omega) (fun x hx => by have := m3 x hx; omega) (by obtain ⟨_, _, e, h1, h2, -⟩ := own_ri (zs := M.map Int.ofNat) o; cases e; exact h1) (by obtain ⟨_, _, e, h1, h2, -⟩ := own_ri (zs := M.map Int.ofNat) o; cases e; simp only [maxLen] at h2; exact h2) (by omega)
    have PT2 := Hid.intro PT
    have LM := Hid.intro m1
    have el2 : (encN M).length ≤ 2000 := by omega
    clear f1 f2 f3 f4 c3 s3 hy f2' ok2 sm2 b2 ng o2 hM m1 m2 m3 PT EL fb3
    go_wp2_with fail
    try simp only [hw2]
    clear hw2
    with_reducible refine RL.mono ?_
    rintro e w6 ⟨v6, rfl, o6, b6⟩
    clear RL
    have o6' : w6.ownsRow w2.heap.size 3 1 v6 M.length (nis M) := o6
    rw [LM.out] at o6'
    obtain ⟨bl, cl, rfl⟩ := own_slice o6' (by omega)
    have B6 : Hid (Below w.heap.size w w6) := B2.out.trans (b6.mono B2.out.size)
    have P := PT2.out w6 bl cl _ o6'
    have O6 := Hid.intro o6'
    clear o6 o6' b6 c3' g3
    simp only
    go_wp2_with fail
    with_reducible refine P.mono ?_
    rintro e w7 ⟨rfl, b7⟩
    have B7 := Hid.intro (B6.out.trans (b7.mono B6.out.size))
    have O7 := Hid.intro (own_later O6.out b7)
    clear P b7 O6 B6 fi
    have G1 := nget_mid ah be M K w7 h20 h20' el2 MM.out
    have GC : Unit → ∀ j, j < (encN M).length → getN ((encN M).take j) 0 K = (2, [], 0) := fun _ j hj => nget_cut M K j MM.out hj
    have GT : Unit → ∀ t, t.length = (encN M).length → t ≠ encN M → ∀ er nx N, getN t 0 K = (er, N, nx) → er ≠ 0 ∨ N ≠ M := fun _ t h1 h2 er nx N hg => nget_turned M K t MM.out h1 h2 hg
    have NE := EN.out
    generalize encN M = p at *
    have hps : Hid ((bs p).size = p.length) := size_bs p
    have hs1 : 0 < (bs p).size := by rw [hps.out]; exact List.length_pos_iff.2 NE
    have hs2 : (bs p).size ≤ 2000 := by rw [hps.out]; exact el2
    have hnil : (bs p).toList.isEmpty = false := by
      rw [ByteArray.toList_eq, bs_data]
      cases p with
      | nil => exact absurd rfl NE
      | cons x p => rfl
    have hnil2 : ¬ (bs p).toList = [] := by
      rw [ByteArray.toList_eq, bs_data]; exact NE
    clear NE EN
    go_wp2_with fail
    with_reducible refine G1.mono ?_
    rintro e w8 ⟨v8, rfl, o8, b8⟩
    rw [LM.out] at o8
    obtain ⟨b1, c1, rfl⟩ := own_slice o8 (by omega)
    have B8 := Hid.intro (B7.out.trans (b8.mono B7.out.size))
    have O8 := Hid.intro (own_later O7.out b8)
    have SA := sameI_any (some ⟨b1, 0, none⟩) (some ⟨bl, 0, none⟩) 65 65 c1 cl _ _ w8 (own_ri' o8) (own_ri' O8.out) (by omega) (by omega)
    rw [decide_eq_true rfl] at SA
    have HPD : Hid ((bs p).data.toList = p) := bs_data p
    clear G1 b8 o8 B7 O7
    generalize bs p = s at *
    go_wp2_with fail
    with_reducible refine (err_i _ _).mono ?_
    rintro e w9 ⟨rfl, rfl⟩
    go_wp2_with fail
    with_reducible refine SA.mono ?_
    rintro e w10 ⟨rfl, b10⟩
    have B10 := Hid.intro (B8.out.trans (b10.mono B8.out.size))
    have O10 := Hid.intro (own_later O8.out b10)
    clear SA b10 B8 O8
    obtain ⟨j, hj⟩ : ∃ j : Nat, cut % (s.size : Int) = (j : Int) := ⟨(cut % (s.size : Int)).toNat, by have := Int.emod_nonneg cut (b := (s.size : Int)) (by omega); omega⟩
    have hjs : j < s.size := by have := Int.emod_lt_of_pos cut (b := (s.size : Int)) (by omega); omega
    obtain ⟨i, hi⟩ : ∃ i : Nat, at' % (s.size : Int) = (i : Int) := ⟨(at' % (s.size : Int)).toNat, by have := Int.emod_nonneg at' (b := (s.size : Int)) (by omega); omega⟩
    have his : i < s.size := by have := Int.emod_lt_of_pos at' (b := (s.size : Int)) (by omega); omega
    have hjt : cut.tmod (s.size : Int) = (j : Int) := by rw [Int.tmod_eq_emod_of_nonneg hcut.1]; exact hj
    have hit : at'.tmod (s.size : Int) = (i : Int) := by rw [Int.tmod_eq_emod_of_nonneg hat.1]; exact hi
    obtain ⟨hc1, hc2⟩ := hcut
    obtain ⟨ha1, ha2⟩ := hat
    have GC2 := get_norm (s.extract 0 j) 0 K w10 (by simp; omega)
    rw [cut_list, HPD.out, GC () j (by rw [← hps.out]; exact hjs)] at GC2
    clear GC
    go_wp2_with fail
    with_reducible refine GC2.mono ?_
    rintro e w11 ⟨v11, rfl, -, b11⟩
    have B11 := Hid.intro (B10.out.trans (b11.mono B10.out.size))
    have O11 := Hid.intro (own_later O10.out b11)
    clear b11 B10 O10 GC2 hj hjt
    obtain ⟨capB, w12, hcv, RM⟩ := bytes_of s w11
    have hil : i < s.data.toList.length := by rw [len_data]; exact his
    have hcell := RM.2.1 i hil
    have fcell := (RM.1 i his).2
    obtain ⟨b, rfl⟩ : ∃ b : Nat, by' = (b : Int) := ⟨by'.toNat, by omega⟩
    have hb256 : b < 256 := by omega
    obtain ⟨x, hx⟩ : ∃ x, s.data.toList[i].toNat = x := ⟨_, rfl⟩
    have hx256 : x < 256 := by rw [← hx]; exact UInt8.toNat_lt _
    have hxor := u8_xor_nat x b hx256 hb256
    have hy256 : x ^^^ b < 256 := Nat.xor_lt_two_pow (n := 8) hx256 hb256
    have RM2 := room_upd RM i hil (UInt8.ofNat (x ^^^ b)) ((x ^^^ b : Nat) : Int) (by rw [u8_of _ hy256])
    have cv2 := room_str RM2 s.size capB (by rw [List.length_set, len_data])
    have GT2 : Unit → b ≠ 0 → ∀ er nx N, getN (bs (s.data.toList.set i (UInt8.ofNat (x ^^^ b)))).data.toList 0 K = (er, N, nx) → er ≠ 0 ∨ N ≠ M := fun _ hb er nx N hg => by
      have e := HPD.out
      have hil2 : i < p.length := by rw [← e]; exact hil
      refine GT () (p.set i (UInt8.ofNat (x ^^^ b))) (by rw [List.length_set]) (set_ne hil2 (fun hc => ?_)) er nx N (by rw [bs_data, e] at hg; exact hg)
      have h1 : (UInt8.ofNat (x ^^^ b)).toNat = x ^^^ b := u8_of _ hy256
      have h2 : p[i].toNat = x := by rw [← hx]; congr 1; simp [e]
      rw [hc, h2] at h1
      exact xor_ne x b hb h1.symm
    have htx : (bs (s.data.toList.set i (UInt8.ofNat (x ^^^ b)))).size ≤ 1000000 := by rw [size_bs, List.length_set, len_data]; omega
    have B13 : Hid (Below w.heap.size w (w12.setCell ⟨w11.heap.size, i, none⟩ (.int .u8 ((x ^^^ b : Nat) : Int)))) := B11.out.trans (RM2.2.2.1.mono B11.out.size)
    have O13 := Hid.intro (own_later O11.out RM2.2.2.1)
    rw [hx] at hcell
    generalize bs (s.data.toList.set i (UInt8.ofNat (x ^^^ b))) = tx at *
    generalize x ^^^ b = yx at *
    obtain ⟨S2, hS2⟩ : ∃ S2, w11.heap.size = S2 := ⟨_, rfl⟩
    simp only [hS2] at hcv hcell fcell cv2 B13 O13
    clear RM RM2 GT hx hS2 B11 O11 hil
    go_wp2_with fail
    clear hcv hcell fcell cv2
    generalize w12.setCell ⟨S2, i, none⟩ (.int .u8 (yx : Int)) = w13 at *
    have G2 := get_norm tx 0 K w13 htx
    obtain ⟨⟨er, N, nx⟩, hg⟩ : ∃ g, getN tx.data.toList 0 K = g := ⟨_, rfl⟩
    rw [hg] at G2
    have GT3 : Unit → b ≠ 0 → er ≠ 0 ∨ N ≠ M := fun _ hb => GT2 () hb er nx N hg
    have nb : Hid (er = 0 → N.length ≤ 100000) := fun he => by subst he; have := getN_len hg; omega
    clear hg GT2 htx
    with_reducible refine G2.mono ?_
    rintro e w14 ⟨v14, rfl, o14, b14⟩
    have o14' : w14.ownsRow w13.heap.size 3 1 v14 N.length (ivs (N.map Int.ofNat)) := o14
    obtain ⟨a3, c3, rfl, -, -, -⟩ := own_ri o14'
    have B14 := Hid.intro (B13.out.trans (b14.mono B13.out.size))
    have O14 := Hid.intro (own_later O13.out b14)
    have SA := sameI_any a3 (some ⟨bl, 0, none⟩) N.length 65 c3 cl _ _ w14 (own_ri' o14') (own_ri' O14.out)
    clear G2 b14 o14 o14' B13 O13
    simp only
    by_cases hb : b = 0
    · subst hb
      clear GT3 SA
      go_wp2_with fail
      with_reducible refine (err_i _ _).mono ?_
      rintro e w15 ⟨rfl, rfl⟩
      go_wp2_with fail
      with_reducible refine (AW.out _).mono ?_
      rintro e w16 ⟨rfl, b16⟩
      have B16 := Hid.intro (B14.out.trans (b16.mono B14.out.size))
      clear b16
      go_wp2_with fail
      go_ret
      exact ⟨rfl, B16.out⟩
    · have t0 : ((b : Int) == 0) = false := by simp; omega
      by_cases he : er = 0
      · have hM : N.map Int.ofNat ≠ M.map Int.ofNat := nis_ne ((GT3 () hb).elim (fun h => absurd he h) (fun h => h))
        have SA := SA (nb.out he) (by omega)
        rw [decide_eq_false hM] at SA
        subst he
        clear GT3 hM hb nb
        go_wp2_with fail
        with_reducible refine (err_i _ _).mono ?_
        rintro e w15 ⟨rfl, rfl⟩
        go_wp2_with fail
        with_reducible refine (err_i _ _).mono ?_
        rintro e w15 ⟨rfl, rfl⟩
        go_wp2_with fail
        with_reducible refine SA.mono ?_
        rintro e w16 ⟨rfl, b16⟩
        clear SA
        have B16 := Hid.intro (B14.out.trans (b16.mono B14.out.size))
        clear b16
        go_wp2_with fail
        with_reducible refine (AW.out _).mono ?_
        rintro e w17 ⟨rfl, b17⟩
        have B17 := Hid.intro (B16.out.trans (b17.mono B16.out.size))
        clear b17
        go_wp2_with fail
        go_ret
        exact ⟨rfl, B17.out⟩
      · have t1 : ((er : Int) != 0) = true := by simp; omega
        clear GT3 SA hb nb
        go_wp2_with fail
        with_reducible refine (err_i _ _).mono ?_
        rintro e w15 ⟨rfl, rfl⟩
        go_wp2_with fail
        with_reducible refine (err_i _ _).mono ?_
        rintro e w15 ⟨rfl, rfl⟩
        go_wp2_with fail
        with_reducible refine (AW.out _).mono ?_
        rintro e w17 ⟨rfl, b17⟩
        have B17 := Hid.intro (B14.out.trans (b17.mono B14.out.size))
        clear b17
        go_wp2_with fail
        go_ret
        exact ⟨rfl, B17.out⟩
end Go.Proofs.Ytplalkhjjndffaa

namespace Go.Proofs.Ytplalkhjjndffaa.normBack
open Go.ChangeShapes Go.WideShapes Go.ChangeAt Go.RowKit
open Go.ChangeMaps (open_string shut_string)
set_option linter.unusedVariables false

theorem own : ownKnob Try.prog.godebug = none := by kernel_rfl
theorem laidOut : laidOutB Try.prog = true := by kernel_rfl

/-- WHAT THE WALK IS TOLD OF A SLICE OF INTEGERS THAT CAME IN: it is nil; or it leads to a row of 'cap' cells, the numbers 'zs' (the first 'len' are its elements, the rest its spare room), each fitting its kind. -/
def IsRow (k : IntKind) (w : World) (a : Option Addr) (len cap : Nat) (zs : List Int) : Prop :=
  (a = none ∧ len = 0 ∧ cap = 0 ∧ zs = []) ∨
  ∃ x, a = some x ∧ len ≤ cap ∧ cap ≤ maxLen ∧ zs.length = cap ∧ (∀ i, i < zs.length → w.cell? (x.add i) = some (.int k (zs.getD i 0))) ∧ ∀ n ∈ zs, (Lit.int k n).wf = true

theorem row_ru {w : World} {a : Option Addr} {len cap : Nat} {zs : List Int} (h : IsRow .u16 w a len cap zs) : len ≤ maxLen ∧ RU w a len := by
  rcases h with ⟨rfl, rfl, rfl, rfl⟩ | ⟨x, rfl, h1, h2, h3, h4, h5⟩
  · exact ⟨Nat.zero_le _, fun h => absurd h (by omega)⟩
  · refine ⟨Nat.le_trans h1 h2, fun _ => ⟨x, rfl, fun i hi => ?_⟩⟩
    have hb := bounds_u16 (h5 _ (List.getElem_mem (by omega : i < zs.length)))
    refine ⟨zs[i]'(by omega), hb.1, by omega, ?_⟩
    rw [h4 i (by omega), List.getD_eq_getElem?_getD, List.getElem?_eq_getElem (by omega)]; rfl
theorem walk (a0 : Option Addr) (len0 cap0 : Nat) (z0 : List Int) (a1 : Int) (a2 : ByteArray) (a3 : ByteArray) (a4 : Int) (a5 : Int) (a6 : Int) (w : World) (w0 : IsRow .u16 w a0 len0 cap0 z0) (w1 : (Lit.int .u8 a1).wf = true) (w2 : a2.size ≤ maxLen) (w3 : a3.size ≤ maxLen) (w4 : (Lit.int .u8 a4).wf = true) (w5 : (Lit.int .u8 a5).wf = true) (w6 : (Lit.int .u8 a6).wf = true) :
    Calls Try.prog 5 #[.slice a0 len0 cap0, .int .u8 a1, .string a2, .string a3, .int .u8 a4, .int .u8 a5, .int .u8 a6] w fun e w' => e = .returned (.bool true) ∧ Below w.heap.size w w' := by
  obtain ⟨h1, h2⟩ := row_ru w0
  simp only [maxLen] at h1 w2 w3
  have b1 := bounds_u8 w1
  have b4 := bounds_u8 w4
  have b5 := bounds_u8 w5
  have b6 := bounds_u8 w6
  exact back_walk a0 len0 cap0 a1 a2 a3 a4 a5 a6 w h2 (by omega) (by omega) (by omega) (by omega) (by omega) (by omega) (by omega)

/-! ### THE ROW's STEP: WRITTEN OUT: LEAVE IT -/
set_option maxRecDepth 100000 in
theorem lifted (os : Os) (started : os.Started) (H : Type) (enc : TypeId × Value → H) :
    ReturnsInHanded {} Try.checked os 5 .any (Rows.normBackSpec.pre6 enc Try.prog Try.f5 Rows.normBackRow.domain false) (Rows.normBackSpec.post enc Try.prog Try.f5 false true false false) := by
  refine returnsInHanded_of_change (C := Try.checked) own started (by kernel_rfl) Try.func5
    (ChangeSpec.witness6 (enc := enc) (C := Try.checked) false ⟨#[], #[.slice none 0 0, .int .u8 0, .string ByteArray.empty, .string ByteArray.empty, .int .u8 0, .int .u8 0, .int .u8 0], []⟩ 8 (by kernel_rfl) (by kernel_rfl) (by kernel_rfl) (by kernel_rfl)) ?_
  intro W base args ds gs before hval0 hW hcnd _
  have hval : ∀ (j : Nat) t v, Try.f5.params[j]? = some t → args[j]? = some v → Value.okWide Try.prog W .any base t v := hval0
  have hW' := hW
  obtain ⟨p, q, hA0, hV, rfl, hfz, hnd⟩ := hW
  have hA : DataW.TrodAll enc Try.prog W 0 (fun _ => true) true Try.f5.params.toList args.toList ds p := hA0
  rw [Try.params5] at hA hval
  obtain ⟨v0, vs0, d0, ds0, p0, q0, hargs, rfl, rfl, h0, r0⟩ := trodAll_cons hA
  obtain ⟨v1, vs1, d1, ds1, p1, q1, rfl, rfl, rfl, h1, r1⟩ := trodAll_cons r0
  obtain ⟨v2, vs2, d2, ds2, p2, q2, rfl, rfl, rfl, h2, r2⟩ := trodAll_cons r1
  obtain ⟨v3, vs3, d3, ds3, p3, q3, rfl, rfl, rfl, h3, r3⟩ := trodAll_cons r2
  obtain ⟨v4, vs4, d4, ds4, p4, q4, rfl, rfl, rfl, h4, r4⟩ := trodAll_cons r3
  obtain ⟨v5, vs5, d5, ds5, p5, q5, rfl, rfl, rfl, h5, r5⟩ := trodAll_cons r4
  obtain ⟨v6, vs6, d6, ds6, p6, q6, rfl, rfl, rfl, h6, r6⟩ := trodAll_cons r5
  obtain ⟨rfl, rfl, rfl⟩ := trodAll_nil r6
  obtain rfl : args = #[v0, v1, v2, v3, v4, v5, v6] := by cases args; simp_all
  obtain ⟨rfl, rfl⟩ := trodVars_none hV
  obtain ⟨a0, len0, cap0, rfl⟩ := okWide_slice Try.underlying40 (hval 0 40 v0 rfl rfl)
  have k0 := h0
  have lt0 : ∀ x ∈ p0, x.block < W.heap.size := by obtain ⟨m, hm⟩ := k0; exact DataW.trod_lt m _ _ _ hm
  obtain ⟨z0, w0⟩ : ∃ zs, IsRow .u16 W a0 len0 cap0 zs := by
    obtain ⟨fuel, hf⟩ := h0
    rcases open_ints Try.underlying40 Try.underlying45 (by kernel_rfl) hf with ⟨hcs, _⟩ | ⟨x, l, c, zs, hcs, _, hl, hm, hz, _, hcell, hwz⟩
    · simp [Value.cells] at hcs
      obtain ⟨rfl, rfl, rfl⟩ := hcs
      exact ⟨[], .inl ⟨rfl, rfl, rfl, rfl⟩⟩
    · simp [Value.cells] at hcs
      obtain ⟨rfl, rfl, rfl⟩ := hcs
      exact ⟨zs, .inr ⟨_, rfl, hl, hm, by simpa using hz, hcell, hwz⟩⟩
  obtain ⟨a1, rfl, rfl, rfl, w1⟩ := open_int Try.underlying5 (hval 1 5 v1 rfl rfl) h1
  obtain ⟨a2, rfl, rfl, rfl, w2⟩ := open_string Try.underlying9 (hval 2 9 v2 rfl rfl) h2
  obtain ⟨a3, rfl, rfl, rfl, w3⟩ := open_string Try.underlying9 (hval 3 9 v3 rfl rfl) h3
  obtain ⟨a4, rfl, rfl, rfl, w4⟩ := open_int Try.underlying5 (hval 4 5 v4 rfl rfl) h4
  obtain ⟨a5, rfl, rfl, rfl, w5⟩ := open_int Try.underlying5 (hval 5 5 v5 rfl rfl) h5
  obtain ⟨a6, rfl, rfl, rfl, w6⟩ := open_int Try.underlying5 (hval 6 5 v6 rfl rfl) h6
  clear hA0 hval0
  refine (walk a0 len0 cap0 z0 a1 a2 a3 a4 a5 a6 W w0 w1 w2 w3 w4 w5 w6).mono fun e W' ⟨he, bel⟩ => ?_
  subst he
  exact ⟨_, rfl, _, _, _, [], _, [], hW', trodAll_mk1 (shut_bool Try.underlying4 _), (trodAll_cons_mk (Below.trod laidOut (by kernel_rfl) (of_decide_eq_true (by kernel_rfl)) k0 bel lt0) (trodAll_cons_mk (shut_int Try.underlying5 w1) (trodAll_cons_mk (shut_string Try.underlying9 w2) (trodAll_cons_mk (shut_string Try.underlying9 w3) (trodAll_cons_mk (shut_int Try.underlying5 w4) (trodAll_cons_mk (shut_int Try.underlying5 w5) (trodAll_cons_mk (shut_int Try.underlying5 w6) trodAll_mk0))))))), rfl, bel.frame _, fun h => by cases h⟩

theorem over : Rows.normBackRow.holds Try.pinned (OpenSpec.ofChange Rows.normBackSpec) :=
  OpenClaim.holds_of_wide 5 Try.f5 rfl rfl rfl rfl rfl rfl rfl ⟨rfl, rfl, rfl, rfl, rfl⟩ rfl rfl rfl rfl rfl (by kernel_rfl) Try.func5 (by kernel_rfl)
    (of_decide_eq_true (by kernel_rfl)) (by unfold Func.isWrapper; first | (rw [if_pos (by decide +kernel)]; kernel_rfl) | (rw [if_neg (by decide +kernel)]; exact ⟨rfl, rfl⟩))
    (fun os started H enc _ => lifted os started H enc)

/-- ████ THE STATEMENT ████ -/
theorem proved : Rows.NormBackSaid := over
end Go.Proofs.Ytplalkhjjndffaa.normBack

namespace Go.Proofs.Ytplalkhjjndffaa
theorem normBack_holds : Rows.NormBackSaid := normBack.proved
#print axioms normBack_holds
end Go.Proofs.Ytplalkhjjndffaa
