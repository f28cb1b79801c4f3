/-
  Bytes that are cut, too many, too few parts.
-/
import Derived.Test.YtlkebkchbgpnpaaLw
import Derived.Test.YtlkebkchbgpnpaaPu
import Derived.Test.YtlkebkchbgpnpaaRz
import Derived.Test.YtlkebkchbgpnpaaTy
namespace Go.Proofs.Ytlkebkchbgpnpaa
open Go.ChangeShapes Go.WideShapes Go.ChangeAt Go.RowKit
open Go.ChangeMaps (open_string shut_string)

theorem take_data (s : ByteArray) (k : Nat) : (s.extract 0 k).data.toList = s.data.toList.take k := by simp
theorem fld_text (t : ByteArray) (W : World) : (Instr.field 29 (.agg #[.string t, .int .i64 0]) 0).run Try.prog W = .ok (.string t) W := by kernel_rfl
/-- How often each class comes: bounds; and whoever comes is counted. -/
theorem cnt_bd (ps : List (Int × Int)) (hl : ps.length ≤ 60) : ∀ z ∈ cnt ps, (0 : Int) ≤ z ∧ z ≤ 16777216 := by
  intro z hz
  obtain ⟨i, hi, rfl⟩ := List.getElem_of_mem hz
  have hi' : i < 65 := by rw [cnt_len] at hi; exact hi
  have h1 := cnt_at ps i hi'
  rw [List.getElem?_eq_getElem hi] at h1
  injection h1 with h1
  have h2 := clp_le ps i
  omega
theorem cnt_pos {ps : List (Int × Int)} {p : Int × Int} (hp : p ∈ ps) (c : Nat) (hc : p.1 = (c : Int)) (h65 : c < 65) : 0 < fr (cnt ps) c := by
  have h1 := cnt_at ps c h65
  unfold fr
  rw [List.getD_eq_getElem?_getD, h1]
  have : 0 < clp ps c := by
    unfold clp
    rw [List.countP_pos_iff]
    exact ⟨p, hp, by simp [hc]⟩
  simp only [Option.getD_some]
  omega
theorem hput_le (L : List Nat) (zs : List Int) (hf : FI zs) (hb : ∀ c, at0 L c ≤ 15) (hl : zs.length ≤ 60) : (hput (codeB L) ((zs.map spl).map toN)).length ≤ 600 := by
  have h1 := psB_le (C := codeB L) (fun c => by rw [codeB_len]; exact hb c) ((zs.map spl).map toN) (fun q hq => by
    obtain ⟨p, hp, rfl⟩ := List.mem_map.1 hq
    obtain ⟨c, e, h⟩ := cls_spl zs hf p hp
    unfold toN; rw [e]; simp only [Int.toNat_natCast]; exact h)
  rw [hput_len, ← psB_len]
  simp only [List.length_map] at h1
  omega
/-- Numbers' parts, how often each class comes, lengths of these. -/
def LenOf (w : World) (zs : List Int) (L : List Nat) : Prop :=
  FI zs ∧ zs.length ≤ 60 ∧ (∀ c, at0 L c ≤ 15) ∧ mayL (L.map Int.ofNat) = true ∧ (∀ p ∈ zs.map spl, 0 < at0 L p.1.toNat) ∧ w = w
theorem lenOf_put (w : World) {zs : List Int} {F : List Int} {d : Nat} {o r : List Nat} (hf : FI zs) (hl : zs.length ≤ 60) (ho : Ordered F 65 o) (h : Ranks F d o r) (h7 : 7 ≤ d) (h15 : d ≤ 15) (hp : ∀ p ∈ zs.map spl, ∀ c : Nat, p.1 = (c : Int) → c < 65 → 0 < fr F c) : LenOf w zs (put o r) := by
  obtain ⟨p1, p2, p3⟩ := put_may ho h h7 h15
  refine ⟨hf, hl, p1, p3, fun p hq => ?_, rfl⟩
  obtain ⟨c, e, hc⟩ := cls_spl zs hf p hq
  rw [e, Int.toNat_natCast]
  exact (lens_at ho h h7 c hc).2.2 (hp p hq c e hc)
set_option maxRecDepth 100000 in
set_option maxHeartbeats 4000000 in
theorem cut_walk (a : Option Addr) (n cap : Nat) (lim cut : Int) (w : World) (h : RU w a n) (hn : n ≤ 9223372036854775807) (hl : 0 ≤ lim ∧ lim ≤ 255) (hcut : 0 ≤ cut ∧ cut ≤ 65535) :
    Calls Try.prog 7 #[.slice a n cap, .int .u8 lim, .int .u16 cut] w fun e w' => e = .returned (.bool true) ∧ Below w.heap.size w w' := by
  have NU := numbers_any a n cap w h hn
  obtain ⟨k, hk⟩ : ∃ k : Nat, 7 + lim % 9 = (k : Int) := ⟨(7 + lim % 9).toNat, by omega⟩
  have k7 : 7 ≤ k := by omega
  have k15 : k ≤ 15 := by omega
  have fi := fld_ints
  have ft := fld_text
  clear h hn
  go_enter Try.func7, Try.ntmps7
  go_wp2_with fail
  with_reducible refine NU.mono ?_
  rintro e w1 ⟨v, zs, rfl, f1, f2, f3, f4⟩
  obtain ⟨az, cz, rfl, -, -, r1⟩ := own_ri f3
  have RPs := rparts_any az zs.length cz zs w1 r1 f1 (by omega)
  have HF := Hid.intro f1
  have H4 := Hid.intro f4
  clear NU f1 f3 f4 r1
  go_wp2_with fail
  with_reducible refine RPs.mono ?_
  rintro e w2 ⟨v2, rfl, g1, g2⟩
  obtain ⟨ap, cp, rfl, hcp1, hcp2, r2⟩ := own_rp g1
  have ROf := rof_any ap zs.length cp (zs.map spl) w2 r2 (by omega)
  have HB2 := Hid.intro (H4.out.trans (g2.mono H4.out.size))
  have HR2 := Hid.intro r2
  clear RPs g1 g2 r2 H4
  go_wp2_with fail
  with_reducible refine ROf.mono ?_
  rintro e w3 ⟨v3, rfl, g1, g2⟩
  obtain ⟨bf, cf, rfl⟩ := own_slice g1 (by omega)
  have RL := rlengths_yes (some ⟨bf, 0, none⟩) cf (cnt (zs.map spl)) k w3 (own_ri2 g1) (may_of2 (cnt_bd _ (by simpa using f2)) k k7 k15)
  have HB3 := Hid.intro (HB2.out.trans (g2.mono HB2.out.size))
  have HR3 := Hid.intro (rp_below HR2.out g2)
  clear ROf g1 g2 HB2 HR2
  go_wp2_with fail
  with_reducible refine RL.mono ?_
  rintro e w4 hpost
  obtain ⟨vx, o, r, rfl, m1, m2, m3, m4⟩ := hpost
  obtain ⟨bl, cl4, rfl⟩ := own_slice m3 (by omega)
  have LO : Hid (LenOf w zs (put o r)) := lenOf_put w HF.out f2 m1 m2 k7 k15 (fun p hp c e hc => cnt_pos hp c e hc)
  have HB4 := Hid.intro (HB3.out.trans (m4.mono HB3.out.size))
  have HR4 := Hid.intro (rp_below HR3.out m4)
  have HL4 : Hid (RI w4 (some ⟨bl, 0, none⟩) 65 ((put o r).map Int.ofNat)) := own_ri2 m3
  generalize put o r = L at *
  clear RL m1 m2 m3 m4 HB3 HR3
  obtain ⟨s1, s2, s3, s4, s5⟩ := said_all L zs HF.out LO.out.2.2.2.1 (by omega) LO.out.2.2.2.2.1
  have hle := hput_le L zs HF.out LO.out.2.2.1 f2
  have hz0 : Hid (∀ T : List UInt8, T ≠ [] → getH (L.map Int.ofNat) T 0 = (3, [])) := fun T hT => by
    unfold getH
    rw [if_neg (by rw [LO.out.2.2.2.1]; decide), if_neg (by omega)]
    exact hget_zero _ T hT
  have PU := rputh_any ap zs.length cp (zs.map spl) (some ⟨bl, 0, none⟩) 65 cl4 (L.map Int.ofNat) w4 HR4.out (fp_spl zs HF.out) (by omega) HL4.out (by omega)
  rw [s1] at PU
  clear s1 s2 s5
  generalize hput (codeB L) ((zs.map spl).map toN) = T at *
  have S3 := Hid.intro s3
  have S4 := Hid.intro s4
  clear s3 s4
  go_wp2_with fail
  with_reducible refine PU.mono ?_
  rintro e w5 ⟨rfl, b5⟩
  have HB5 := Hid.intro (HB4.out.trans (b5.mono HB4.out.size))
  have HL5 := Hid.intro (ri_below HL4.out b5)
  have hsz : Hid ((bs T).size = T.length) := size_bs T
  clear PU b5 HB4 HL4 HR4 LO
  obtain ⟨sz, hsz2⟩ : ∃ sz, (bs T).size = sz := ⟨_, rfl⟩
  have hszT : Hid (sz = T.length) := by show _ = _; rw [← hsz2]; exact hsz.out
  have hsz600 : sz ≤ 600 := by rw [hszT.out]; exact hle
  by_cases h0 : sz = 0
  · subst h0
    have AW := awake_own (w := w) HB5.out
    go_wp2_with fail
    with_reducible refine AW.mono ?_
    rintro e w6 ⟨rfl, b6⟩
    clear AW
    go_wp2_with fail
    go_ret
    exact ⟨rfl, b6⟩
  · have hT : Hid (T ≠ []) := fun e => h0 (by rw [hszT.out, e]; rfl)
    obtain ⟨j, hj⟩ : ∃ j : Nat, cut % (sz : Int) = (j : Int) := ⟨(cut % (sz : Int)).toNat, by have := Int.emod_nonneg cut (show (sz : Int) ≠ 0 by omega); omega⟩
    have hjs : j < sz := by have := Int.emod_lt_of_pos cut (show (0 : Int) < (sz : Int) by omega); omega
    have X1 : Hid (((bs T).extract 0 j).data.toList = T.take j) := by show _ = _; rw [take_data, bs_data]
    have hx1 : ((bs T).extract 0 j).size ≤ 100000 := by simp; omega
    have S1 := get_er (w := w5) (some ⟨bl, 0, none⟩) cl4 (L.map Int.ofNat) ((bs T).extract 0 j) (zs.length : Int) 2 HL5.out hx1 (Below.refl _ _) (by rw [X1.out]; exact S4.out j (by rw [← hszT.out]; exact hjs))
    have t0 : ((sz : Int) == 0) = false := by simp; omega
    have d0 : decide (sz = 0) = false := decide_eq_false h0
    go_wp2_with fail
    with_reducible refine S1.mono ?_
    rintro e w6 ⟨a6, c6, rfl, b6⟩
    have S2 := get_er (w := w5) (some ⟨bl, 0, none⟩) cl4 (L.map Int.ofNat) (bs T) 0 3 (ri_below HL5.out b6) (by rw [hsz.out]; omega) b6 (by rw [bs_data]; exact hz0.out T hT.out)
    clear S1 b6
    go_wp2_with fail
    with_reducible refine S2.mono ?_
    rintro e w7 ⟨a7, c7, rfl, b7⟩
    have hs2 : (bs T ++ bs T).size ≤ 100000 := by rw [ByteArray.size_append, hsz.out]; omega
    have S5 := get_er (w := w5) (some ⟨bl, 0, none⟩) cl4 (L.map Int.ofNat) (bs T ++ bs T) (zs.length : Int) 3 (ri_below HL5.out b7) hs2 b7 (by rw [app_list, bs_data]; exact S3.out T hT.out)
    clear S2 b7
    go_wp2_with fail
    with_reducible refine S5.mono ?_
    rintro e w8 ⟨a8, c8, rfl, b8⟩
    have AW := awake_own (w := w5) b8
    clear S5 b8
    go_wp2_with (first | (go_at_call 14; refine (err_any _ _).mono ?_; rintro e w9 ⟨rfl, rfl⟩) | (go_at_call 9; refine AW.mono ?_; rintro e w9 ⟨rfl, b4⟩; have B4 := Hid.intro b4; clear b4))
    go_ret
    exact ⟨rfl, HB5.out.trans (B4.out.mono HB5.out.size)⟩
end Go.Proofs.Ytlkebkchbgpnpaa
