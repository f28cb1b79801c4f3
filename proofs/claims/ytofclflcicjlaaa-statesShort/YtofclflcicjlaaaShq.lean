/-
  The law of parts of one class alone.
-/
import Derived.Test.YtofclflcicjlaaaF3q
import Derived.Test.YtofclflcicjlaaaS1q
import Derived.Test.YtofclflcicjlaaaLwq
import Derived.Test.YtofclflcicjlaaaBkq
import Derived.WalkKit
import Derived.ProofKit
import Derived.OpenShut
import Derived.Deep.QuietTactic
import Derived.Deep.RegionWith
import Derived.Deep.RegionHeld3
import Derived.OwnWalk
import Derived.ChangeOld
import Derived.Below
import Derived.BigQuiet
import Derived.Lib.MinMax
namespace Go.Proofs.Ytofclflcicjlaaa
open Go.ChangeShapes Go.WideShapes Go.ChangeAt Go.RowKit
open Go.ChangeMaps (open_string shut_string)
set_option linter.unusedVariables false
def ShRel (w : World) (c : Nat) (n : Nat) (pv iv : Value) (wr : World) : Prop :=
  ∃ i : Nat, i ≤ n ∧ iv = .int .i64 i ∧ wr.ownsRow w.heap.size 32 2 pv i (pvs (List.replicate i ((c : Int), (0 : Int)))) ∧ Below w.heap.size w wr
set_option maxRecDepth 100000 in
set_option maxHeartbeats 4000000 in
theorem short_any (n cl : Int) (a : Option Addr) (len cap : Nat) (b : Int) (w : World) (hn : 0 ≤ n ∧ n ≤ 255) (hc : 0 ≤ cl ∧ cl ≤ 255) (h : RU w a len) (hlen : len ≤ 9223372036854775807) (hb : 0 ≤ b ∧ b ≤ 255) :
    Calls Try.prog 4 #[.int .u8 n, .int .u8 cl, .slice a len cap, .int .u8 b] w fun e w' => e = .returned (.bool true) ∧ Below w.heap.size w w' := by
  obtain ⟨r, hr⟩ : ∃ r : Nat, b % 6 = (r : Int) := ⟨(b % 6).toNat, by omega⟩
  have hrt : b.tmod 6 = (r : Int) := by rw [Int.tmod_eq_emod_of_nonneg hb.1]; exact hr
  obtain ⟨K, hK⟩ : ∃ K : Nat, 7 + (r : Int) = (K : Int) := ⟨7 + r, by omega⟩
  have K12 : K ≤ 12 := by omega
  have K7 : 7 ≤ K := by omega
  obtain ⟨c, hcc⟩ : ∃ c : Nat, cl % 65 = (c : Int) := ⟨(cl % 65).toNat, by omega⟩
  have hct : cl.tmod 65 = (c : Int) := by rw [Int.tmod_eq_emod_of_nonneg hc.1]; exact hcc
  have c65 : c < 65 := by omega
  obtain ⟨m, hmm⟩ : ∃ m : Nat, n % 50 = (m : Int) := ⟨(n % 50).toNat, by omega⟩
  have hmt : n.tmod 50 = (m : Int) := by rw [Int.tmod_eq_emod_of_nonneg hn.1]; exact hmm
  have m50 : m < 50 := by omega
  have wr' : IntKind.i64.wrap (r : Int) = (r : Int) := by rw [IntKind.wrap_i64]; omega
  have wb : IntKind.i64.wrap b = b := by rw [IntKind.wrap_i64]; omega
  have wc : IntKind.i64.wrap cl = cl := by rw [IntKind.wrap_i64]; omega
  have wn : IntKind.i64.wrap n = n := by rw [IntKind.wrap_i64]; omega
  obtain ⟨hb0, hb1⟩ := hb
  obtain ⟨hc0, hc1⟩ := hc
  obtain ⟨hn0, hn1⟩ := hn
  have mk := make_ints 28 3 Try.underlying28 info3 65 (by omega) w
  rw [show ((65 : Nat) : Int) = 65 from rfl] at mk
  have om := own_made_ints w 3 65 (by omega)
  have b1 : Below w.heap.size w (w.alloc (.cells (madeCells #[.int .i64 0] 65) 3)) := (Below.refl _ _).alloc (Nat.le_refl _) _
  have MY := may_one ⟨c, c65⟩ ⟨K - 7, by omega⟩
  simp only [show K - 7 + 7 = K from by omega] at MY
  obtain ⟨s, hs2, hs8, es, -, -, -, sl, su, -, -⟩ := stp_eq K K7 K12
  have es2 : (2 : Int) ^ K = (s : Int) := by rw [← es, Int.natCast_pow]; rfl
  have sp : Spd K ((List.replicate 65 0).set c s) (spr K ((List.replicate 65 0).set c s)) := by
    have := may_sp MY
    rw [oneF, toNatI, show ((K : Int)).toNat = K from by simp, es] at this
    exact this
  have hg : g ((List.replicate 65 0).set c s) c = s := by unfold g; rw [List.getD_eq_getElem?_getD, List.getElem?_set_self (by simp; omega)]; rfl
  have OL := one_len (n := m) sp (by rw [hg, es])
  have OKS := one_ok (L := (List.replicate 65 0).set c s) c65 (by rw [hg]; omega) m
  rw [es] at MY
  obtain ⟨f, hf⟩ : ∃ f, oneF c s = f := ⟨_, rfl⟩
  have ef : f.map Int.toNat = (List.replicate 65 0).set c s := by rw [← hf, oneF, toNatI]
  rw [hf] at MY
  generalize w.alloc (.cells (madeCells #[.int .i64 0] 65) 3) = w1 at *
  have ct := own_there om c (by omega)
  have o2 := own_set om c (.int .i64 (s : Int))
  rw [ivs_set] at o2
  have e1 : (List.replicate 65 (0 : Int)).set c (s : Int) = f := by rw [← hf, oneF, List.map_set, List.map_replicate]; rfl
  rw [e1] at o2
  have b2 : Below w.heap.size w (w1.setCell ⟨w.heap.size, c, none⟩ (.int .i64 (s : Int))) := b1.setCell (p := ⟨w.heap.size, c, none⟩) (Nat.le_refl _) _
  have f9 := ct.2.2
  obtain ⟨u9, c9⟩ := Option.isSome_iff_exists.1 ct.2.1
  have RI2 := Hid.intro (own_ri' o2)
  have B2 := Hid.intro b2
  have HU := Hid.intro h
  have HSP := Hid.intro sp
  have EF := Hid.intro ef
  have OL' := Hid.intro OL
  have OK' := Hid.intro OKS
  have MY' := Hid.intro MY
  have hcz : (c : Int) < 65 := by omega
  have hcz0 : (0 : Int) ≤ (c : Int) := by omega
  clear om ct b1 o2 e1 b2 h sp ef OL OKS MY hg hf
  obtain ⟨i0, hi0, hz0, hs0, hbb0⟩ := info_all info32
  go_enter Try.func4, Try.ntmps4
  go_wp2_with fail
  generalize w1.setCell ⟨w.heap.size, c, none⟩ (.int .i64 (s : Int)) = w2 at *
  clear mk f9 c9
  go_loopw [12, 13] (fun pv iv wr => ShRel w2 c m pv iv wr) (fun _ iv _ => m - (intOf iv).toNat)
  case atStart => exact ⟨0, by omega, rfl, World.ownsRow_nil _ _ _ _, Below.refl _ _⟩
  case round =>
    obtain ⟨i, hi, rfl, d1, d2⟩ := hrel
    by_cases hlt : i < m
    · have TS : Hid (pvs (List.replicate (i + 1) ((c : Int), (0 : Int))) = pvs (List.replicate i ((c : Int), (0 : Int))) ++ [.int .i64 (c : Int), .int .u64 0]) := by
        show _ = _
        rw [List.replicate_succ', pvs_append]; rfl
      generalize pvs (List.replicate i ((c : Int), (0 : Int))) = pre at *
      have hlt' : (i : Int) < (m : Int) := by omega
      go_wp2_with (at_builtin; refine wpList_pushh _ rfl (.tmp 42) (.tmp 45) 24 rfl 32 i0 (.agg #[.int .i64 0, .int .u64 0]) 2 16 Try.underlying24 hi0 hz0 hs0 hbb0 rfl (by decide) (by decide) _ i pre rfl (World.ownsRow.alloc (own_low d1 (Nat.zero_le _)) _) ⟨wr.heap.size, 0, none⟩ 1 1 [.int .i64 (c : Int), .int .u64 0] rfl rfl (two_new _ _ _ _) (pv_one (c : Int) 0) (by omega) ?_)
      intro v8 w8 o8 g8 m8
      have fu := (fun k hk => (d1.lt k hk).1 : From w2.heap.size _)
      have f8 := from_moved fu m8 (by have := d2.size; simp; omega)
      have D8 : Below w2.heap.size w2 w8 := below_grown (d2.alloc d2.size _) g8 (by have := d2.size; simp; omega) (fun k hk => fu k hk)
      rw [← TS.out] at o8
      have JJ : Hid (ShRel w2 c m v8 (.int .i64 ((i + 1 : Nat) : Int)) w8) := ⟨i + 1, hlt, rfl, own_up o8 f8, D8⟩
      obtain ⟨b8, cap8, rfl⟩ := own_slice o8 (by omega)
      clear o8 g8 m8 fu f8 D8 d1 d2 TS
      go_wp2_with fail
      go_roundw
      case rel => exact JJ.out
      case measure => simp [intOf]; omega
    · obtain rfl : i = m := by omega
      obtain ⟨al, capl, rfl, hcap, -, rp⟩ := own_rp d1
      have ri := ri_below RI2.out d2
      have PT := sput_any al i capl _ (some ⟨w.heap.size, 0, none⟩) 65 65 f (K : Int) wr rp (by intro p hp; rw [(List.mem_replicate.1 hp).2]; simp) (by omega) hcap ri (by omega)
      have PS := putS_yes (ps := List.replicate i ((c : Int), (0 : Int))) MY'.out (by rw [EF.out]; exact OK'.out)
      rw [EF.out, show ((K : Int)).toNat = K from by simp, List.map_replicate, show toNP ((c : Int), (0 : Int)) = (c, 0) from rfl] at PS
      rw [PS] at PT
      have OL := OL'.out
      generalize putB K ((List.replicate 65 0).set c s) (spr K ((List.replicate 65 0).set c s)) (List.replicate i (c, 0)) = S at *
      have D2 := Hid.intro (B2.out.trans (d2.mono B2.out.size))
      have OLH := Hid.intro OL
      clear d1 d2 rp ri PS OL OL' MY' OK' EF HSP RI2 B2
      go_wp2_with fail
      with_reducible refine PT.mono ?_
      rintro e w3 ⟨rfl, b3⟩
      have D3 := Hid.intro (D2.out.trans (b3.mono D2.out.size))
      clear PT b3
      have CT := counts3_any a len cap b w3 (ru_below HU.out D3.out) ⟨hb0, hb1⟩ hlen
      go_wp2_with fail
      with_reducible refine CT.mono ?_
      rintro e w4 ⟨v, K', M, rfl, sp', hm, g2, o1, b4⟩
      obtain ⟨bv, cv, rfl⟩ := own_slice o1 (by omega)
      have ri4 : RI w4 (some ⟨bv, 0, none⟩) 65 (M.map Int.ofNat) := own_ri' o1
      have D4 := Hid.intro (D3.out.trans (b4.mono D3.out.size))
      have ba : Below w4.heap.size w4 (w4.alloc (.cells #[.int .i64 65, .int .u64 0] 32)) := (Below.refl _ _).alloc (Nat.le_refl _) _
      have rp5 : RP (w4.alloc (.cells #[.int .i64 65, .int .u64 0] 32)) (some ⟨w4.heap.size, 0, none⟩) 1 [(65, 0)] := ⟨rfl, fun _ => ⟨_, rfl, fun j hj => by
        obtain rfl : j = 0 := by simp at hj; omega
        exact ⟨two_new _ _ _ _ 0 _ rfl, two_new _ _ _ _ 1 _ rfl⟩⟩⟩
      have PT2 := sput_any (some ⟨w4.heap.size, 0, none⟩) 1 1 [(65, 0)] (some ⟨bv, 0, none⟩) 65 cv (M.map Int.ofNat) (K' : Int) _ rp5 (by simp) (by omega) (by omega) (ri_below ri4 ba) (by omega)
      rw [putS_arg hm (by simp [okPS, jokOut 65 0 (by omega)]), show ((1 : Nat) : Int) = 1 from rfl] at PT2
      have RI4 := Hid.intro ri4
      have hcv : 65 ≤ cv := by
        obtain ⟨x9, y9, e9, h9, -, -⟩ := own_ri (zs := M.map Int.ofNat) o1
        injection e9 with _ _ e9
        omega
      clear CT o1 b4 rp5 ri4 sp' hm g2
      go_wp2_with fail
      with_reducible refine PT2.mono ?_
      rintro e w6 ⟨rfl, b6⟩
      have D6 := Hid.intro (D4.out.trans ((ba.trans (b6.mono ba.size)).mono D4.out.size))
      have ri6 := ri_below RI4.out (ba.trans (b6.mono ba.size))
      have PT3 := sput_any none 0 0 [] (some ⟨bv, 0, none⟩) 64 cv ((M.map Int.ofNat).take 64) (K' : Int) w6 ⟨rfl, fun h => absurd h (by omega)⟩ (by simp) (by omega) (by omega) (ri_take ri6 (by omega) (by omega)) (by omega)
      have LM := ri6.1
      rw [putS_form (may_65 (by rw [List.length_take, LM]; omega))] at PT3
      clear PT2 ba b6 ri6 LM
      have h64 : (64 : Int) ≤ (cv : Int) := by omega
      go_wp2_with fail
      with_reducible refine PT3.mono ?_
      rintro e w7 ⟨rfl, b7⟩
      have D7 := Hid.intro (D6.out.trans (b7.mono D6.out.size))
      clear PT3 b7
      go_wp2_with fail
      have E1 := err_i 1 w7
      have E3 := err_i 3 w7
      have AW := st_awake w7
      with_reducible refine (err_i 0 w7).mono ?_
      rintro e w8 ⟨rfl, rfl⟩
      obtain ⟨k8, hk8⟩ : ∃ k8 : Nat, K / 8 = k8 := ⟨_, rfl⟩
      have hk8' : (K : Int).tdiv 8 = (k8 : Int) := by rw [Int.tdiv_eq_ediv_of_nonneg (by omega)]; omega
      obtain ⟨x1, hx1⟩ : ∃ x1 : Nat, (1 : Int) + (k8 : Int) = (x1 : Int) := ⟨1 + k8, by omega⟩
      have wx1 : IntKind.i64.wrap (x1 : Int) = (x1 : Int) := by rw [IntKind.wrap_i64]; omega
      obtain ⟨x2, hx2⟩ : ∃ x2 : Nat, (x1 : Int) + 1 = (x2 : Int) := ⟨x1 + 1, by omega⟩
      have wx2 : IntKind.i64.wrap (x2 : Int) = (x2 : Int) := by rw [IntKind.wrap_i64]; omega
      obtain ⟨d, hd⟩ : ∃ d : Int, (c : Int) - 1 = d := ⟨_, rfl⟩
      have wd : IntKind.i64.wrap d = d := by rw [IntKind.wrap_i64]; omega
      obtain ⟨e, he⟩ : ∃ e : Nat, c - 1 = e := ⟨_, rfl⟩
      have hmx : max 0 d = (e : Int) := by omega
      obtain ⟨y, hy⟩ : ∃ y : Nat, i * e = y := ⟨_, rfl⟩
      have hyz : (i : Int) * (e : Int) = (y : Int) := by rw [← Int.natCast_mul, hy]
      have yb : y ≤ 50 * 64 := by rw [← hy]; exact Nat.mul_le_mul (by omega) (by omega)
      have wy : IntKind.i64.wrap (y : Int) = (y : Int) := by rw [IntKind.wrap_i64]; omega
      obtain ⟨z, hz⟩ : ∃ z : Nat, (y : Int) + 7 = (z : Int) := ⟨y + 7, by omega⟩
      have wz : IntKind.i64.wrap (z : Int) = (z : Int) := by rw [IntKind.wrap_i64]; omega
      obtain ⟨q, hq⟩ : ∃ q : Nat, z / 8 = q := ⟨_, rfl⟩
      have hq' : (z : Int).tdiv 8 = (q : Int) := by rw [Int.tdiv_eq_ediv_of_nonneg (by omega)]; omega
      have wq : IntKind.i64.wrap (q : Int) = (q : Int) := by rw [IntKind.wrap_i64]; omega
      obtain ⟨x3, hx3⟩ : ∃ x3 : Nat, (x2 : Int) + (q : Int) = (x3 : Int) := ⟨x2 + q, by omega⟩
      have wx3 : IntKind.i64.wrap (x3 : Int) = (x3 : Int) := by rw [IntKind.wrap_i64]; omega
      have hsz : ((bs S).size : Int) = (x3 : Int) := by
        have h1 := OLH.out
        rw [he, hy, hk8] at h1
        rw [size_bs]; omega
      clear OLH
      go_wp2_with fail
      with_reducible refine E1.mono ?_
      rintro e w9 ⟨rfl, rfl⟩
      go_wp2_with fail
      with_reducible refine E3.mono ?_
      rintro e w10 ⟨rfl, rfl⟩
      go_wp2_with fail
      with_reducible refine AW.mono ?_
      rintro e w11 ⟨rfl, b11⟩
      have D11 := Hid.intro (D7.out.trans (b11.mono D7.out.size))
      clear AW b11 E1 E3
      go_wp2_with fail
      go_ret
      exact ⟨rfl, D11.out⟩
end Go.Proofs.Ytofclflcicjlaaa
