/-
  Proved: NormAll returns true for every input, and leaves what was there as it was; no condition.
-/
import Derived.Test.YtplalkhjjndffaaRows
import Derived.WalkKit
import Derived.ProofKit
import Derived.OpenShut
import Derived.ShutString
import Derived.ChangeOld
import Derived.Below
import Derived.Deep.RegionWith
import Derived.Deep.QuietTactic
import Derived.BigQuiet
import Derived.Test.YtplalkhjjndffaaRg
import Derived.Test.YtplalkhjjndffaaGt
import Derived.Test.YtplalkhjjndffaaPu
import Derived.Test.YtplalkhjjndffaaPr
import Derived.Test.YtplalkhjjndffaaNr
import Derived.Test.YtplalkhjjndffaaRf
import Derived.Test.YtplalkhjjndffaaMa
import Derived.Test.YtplalkhjjndffaaAw
import Derived.Test.YtplalkhjjndffaaSa
import Derived.Deep.RegionHeld3
import Derived.OwnWalk
namespace Go.Proofs.Ytplalkhjjndffaa
open Go.ChangeShapes Go.WideShapes Go.ChangeAt Go.RowKit
open Go.ChangeMaps (open_string shut_string)

theorem getN_l {s : List UInt8} {i log : Int} {l : List Nat} {k : Nat} (h : getN s i log = (0, l, k)) : l.length = 65 := by
  unfold getN at h
  split at h
  · simp at h
  · obtain ⟨E, l2, k2, hb⟩ : ∃ E l2 k2, getB log (s.drop i.toNat) = (E, l2, k2) := ⟨_, _, _, rfl⟩
    rw [hb] at h
    split at h
    · rename_i h1
      simp only [Prod.mk.injEq] at h
      exact absurd h.1 h1
    · rename_i h1
      simp only [Prod.mk.injEq] at h
      obtain rfl : E = 0 := by simpa using h1
      rw [← h.2.1]
      exact (mayN_yes.1 (getB_said hb).1).2.1
theorem getN_short {s : List UInt8} {i log : Int} {E k : Nat} {l : List Nat} (h : getN s i log = (E, l, k)) : l.length ≤ 65 := by
  by_cases hE : E = 0
  · subst hE; rw [getN_l h]; exact Nat.le_refl _
  · unfold getN at h
    split at h
    · simp only [Prod.mk.injEq] at h; rw [← h.2.1]; simp
    · split at h
      · simp only [Prod.mk.injEq] at h; rw [← h.2.1]; simp
      · simp only [Prod.mk.injEq] at h; exact absurd h.1.symm hE
theorem normA_short (f : List Int) (z : Int) : (normA f z).2.length ≤ 65 := by
  by_cases h : f.length = 65 ∧ (∀ z ∈ f, 0 ≤ z ∧ z ≤ 16777216) ∧ 0 < f.sum ∧ 7 ≤ z ∧ z ≤ 12
  · have hb := toNat_back (fun x hx => (h.2.1 x hx).1)
    have p7 : 2 ^ 7 ≤ 2 ^ z.toNat := Nat.pow_le_pow_right (by omega) (by omega)
    have h0 := h.2.2.1
    rw [← hb, sum_ofNat] at h0
    obtain ⟨⟨f1, -⟩, -⟩ := nrm_fair (log := z.toNat) (f := f.map Int.toNat) (by omega) (by rw [List.length_map]; omega)
    unfold normA; rw [if_pos h]
    show (nrm z.toNat (f.map Int.toNat)).length ≤ 65
    rw [f1, List.length_map]; omega
  · unfold normA; rw [if_neg h]; simp
def okl (f : List Int) : Bool := f.all (fun z => decide (0 ≤ z))
theorem okl_step (f : List Int) (i : Nat) (h : i < f.length) : okl (f.take (i + 1)) = (okl (f.take i) && decide (0 ≤ fr f i)) := by
  have e : f.take (i + 1) = f.take i ++ [f[i]] := by rw [List.take_add_one, List.getElem?_eq_getElem h]; rfl
  unfold okl
  rw [e, fr_at f i h, List.all_append]
  simp
theorem okl_nat {f : List Int} (h : okl f = true) : (f.map Int.toNat).map Int.ofNat = f := by
  unfold okl at h
  rw [List.all_eq_true] at h
  exact toNat_back (fun x hx => by simpa using h x hx)
set_option maxRecDepth 100000 in
set_option maxHeartbeats 1000000 in
theorem put_nil (a : Option Addr) (cap : Nat) (w : World) (_hc2 : cap ≤ 9223372036854775807) :
    Calls Try.prog 18 #[.slice a 0 cap] w fun e w' => e = .returned (.string (bs [])) ∧ Below w.heap.size w w' := by
  have b1 : Below w.heap.size w (w.alloc (.cells #[.pointer none, .slice none 0 0] 62)) := (Below.refl _ _).alloc (Nat.le_refl _) _
  have bk : (w.alloc (.cells #[.pointer none, .slice none 0 0] 62)).heap[w.heap.size]? = some (.cells #[.pointer none, .slice none 0 0] 62 (0, 0)) := blk_new w _ _
  obtain ⟨w1, hw1⟩ : ∃ w1, w.alloc (.cells #[.pointer none, .slice none 0 0] 62) = w1 := ⟨_, rfl⟩
  rw [hw1] at b1 bk
  have SS := string_nil w1.heap.size w.heap.size (.pointer none) w1 bk
  have B1 := Hid.intro b1
  have HW := Hid.intro hw1
  clear bk b1 hw1
  go_enter Try.func18, Try.ntmps18
  go_wp2_with fail
  go_loopw [4] (fun iv wr => iv = .int .i64 0 ∧ wr = w1) (fun _ _ => 0)
  case atStart => exact ⟨rfl, HW.out⟩
  case round =>
    obtain ⟨rfl, rfl⟩ := hrel
    go_wp2_with fail
    with_reducible refine SS.mono ?_
    rintro e w2 ⟨rfl, k2⟩
    have B2 := Hid.intro (B1.out.trans (k2.mono B1.out.size))
    clear k2
    go_wp2_with fail
    go_ret
    exact ⟨rfl, B2.out⟩
theorem keep5 {w8 a b : World} {p q : Nat} {u0 u1 v0 v1 v2 : Value} (hp : p < w8.heap.size) (hq : q < w8.heap.size) (h : (a.cell? ⟨p, 0, none⟩ = some u0 ∧ a.cell? ⟨p, 1, none⟩ = some u1 ∧ a.cell? ⟨q, 0, none⟩ = some v0 ∧ a.cell? ⟨q, 1, none⟩ = some v1 ∧ a.cell? ⟨q, 2, none⟩ = some v2) ∧ Below w8.heap.size w8 a) (k : Below a.heap.size a b) :
    (b.cell? ⟨p, 0, none⟩ = some u0 ∧ b.cell? ⟨p, 1, none⟩ = some u1 ∧ b.cell? ⟨q, 0, none⟩ = some v0 ∧ b.cell? ⟨q, 1, none⟩ = some v1 ∧ b.cell? ⟨q, 2, none⟩ = some v2) ∧ Below w8.heap.size w8 b := by
  have sp : p < a.heap.size := Nat.lt_of_lt_of_le hp h.2.size
  have sq : q < a.heap.size := Nat.lt_of_lt_of_le hq h.2.size
  refine ⟨⟨?_, ?_, ?_, ?_, ?_⟩, h.2.trans (k.mono h.2.size)⟩
  · rw [(bcell k).1 p 0 sp]; exact h.1.1
  · rw [(bcell k).1 p 1 sp]; exact h.1.2.1
  · rw [(bcell k).1 q 0 sq]; exact h.1.2.2.1
  · rw [(bcell k).1 q 1 sq]; exact h.1.2.2.2.1
  · rw [(bcell k).1 q 2 sq]; exact h.1.2.2.2.2
def AgRel (l : List Int) (m : Nat) (w8 : World) (gv iv : Value) (wr : World) : Prop :=
  ∃ i : Nat, i ≤ m ∧ iv = .int .i64 i ∧ gv = .bool (okl (l.take i)) ∧ Below w8.heap.size w8 wr
set_option maxRecDepth 100000 in
set_option maxHeartbeats 4000000 in
theorem all_walk (a : Option Addr) (n cap : Nat) (f : List Int) (b : Option Addr) (m cb : Nat) (l : List Int) (z : Int) (s : ByteArray) (at' : Int) (w : World) (h : RI w a n f) (hl : RI w b m l) (hb : ∀ x ∈ l, x ≤ 9223372036854775807) (hnm : n ≤ 9223372036854775807) (hm : m ≤ cb) (hcb : cb ≤ 9223372036854775807) (hs : s.size ≤ 9223372036854775807) :
    Calls Try.prog 3 #[.slice a n cap, .slice b m cb, .int .i64 z, .string s, .int .i64 at'] w fun e w' => e = .returned (.bool true) ∧ Below w.heap.size w w' := by
  by_cases hn : 100 < n
  · have AW := awake_any w
    clear h hl hb
    go_enter Try.func3, Try.ntmps3
    go_wp2_with fail
    with_reducible refine AW.mono ?_
    rintro e w1 ⟨rfl, b1⟩
    clear AW
    go_wp2_with fail
    go_ret
    exact ⟨rfl, b1⟩
  · by_cases hmm : 100 < m
    · have AW := awake_any w
      clear h hl hb
      go_enter Try.func3, Try.ntmps3
      go_wp2_with fail
      with_reducible refine AW.mono ?_
      rintro e w1 ⟨rfl, b1⟩
      clear AW
      go_wp2_with fail
      go_ret
      exact ⟨rfl, b1⟩
    · by_cases hs2 : 300 < s.size
      · have AW := awake_any w
        clear h hl hb
        go_enter Try.func3, Try.ntmps3
        go_wp2_with fail
        with_reducible refine AW.mono ?_
        rintro e w1 ⟨rfl, b1⟩
        clear AW
        go_wp2_with fail
        go_ret
        exact ⟨rfl, b1⟩
      · have R0 := Hid.intro h
        have L0 := Hid.intro hl
        have HB := Hid.intro hb
        have LL := Hid.intro hl.1
        obtain ⟨⟨e1, M⟩, hM⟩ : ∃ g, normA f z = g := ⟨_, rfl⟩
        have ML : M.length ≤ 65 := by have := normA_short f z; rw [hM] at this; exact this
        have OF := of_any a n cap f z w h (by omega)
        rw [hM] at OF
        have RN : Hid (∀ W, Below w.heap.size w W → Calls Try.prog 11 #[.slice a n cap, .int .i64 z] W fun e W' => RnPost (e1, M) W e W') := fun W hW => by
          have r := rnorm_any a n cap f z W (ri_below R0.out hW) (by omega); rw [hM] at r; exact r
        obtain ⟨⟨e2, N, nx⟩, hg⟩ : ∃ g, getN s.data.toList at' z = g := ⟨_, rfl⟩
        have NL : N.length ≤ 65 := getN_short hg
        have G : Hid (∀ W, Calls Try.prog 12 #[.string s, .int .i64 at', .int .i64 z] W fun e W' => GtPost (e2, N, nx) W e W') := fun W => by
          have r := get_norm s at' z W (by omega); rw [hg] at r; exact r
        have RG : Hid (∀ W, Calls Try.prog 13 #[.string s, .int .i64 at', .int .i64 z] W fun e W' => RgPost (e2, N, nx) W e W') := fun W => by
          have r := rgetn_any s at' z W (by omega); rw [hg] at r; exact r
        obtain ⟨n1, hn1⟩ : ∃ n1, M.length = n1 := ⟨_, rfl⟩
        obtain ⟨n2, hn2⟩ : ∃ n2, N.length = n2 := ⟨_, rfl⟩
        have HN1 := Hid.intro hn1
        have HN2 := Hid.intro hn2
        rw [hn1] at ML
        rw [hn2] at NL
        clear h hl hb hM hg hn1 hn2
        go_enter Try.func3, Try.ntmps3
        go_wp2_with fail
        with_reducible refine OF.mono ?_
        rintro e w2 ⟨v2, rfl, o2, b2⟩
        have o2' : w2.ownsRow w.heap.size 3 1 v2 M.length (ivs (M.map Int.ofNat)) := o2
        obtain ⟨x1, k1, rfl, -, -, r1⟩ := own_ri o2'
        rw [HN1.out] at r1
        simp only [HN1.out]
        have B2 := Hid.intro b2
        have R1 := Hid.intro r1
        clear OF o2 o2' b2 r1
        go_wp2_with fail
        with_reducible refine (RN.out _ B2.out).mono ?_
        rintro e w3 ⟨v3, rfl, o3, b3⟩
        have o3' : w3.ownsRow w2.heap.size 3 1 v3 M.length (ivs (M.map Int.ofNat)) := o3
        obtain ⟨x2, k2, rfl, -, -, r2⟩ := own_ri o3'
        rw [HN1.out] at r2
        simp only [HN1.out]
        have R2 := Hid.intro r2
        have C3 := Hid.intro b3
        have c4 : Below w3.heap.size w3 (w3.alloc (.cells #[.slice x2 n1 k2, .int .i64 (e1 : Int)] 28)) := (Below.refl _ _).alloc (Nat.le_refl _) _
        have bk4 := blk_new w3 #[.slice x2 n1 k2, .int .i64 (e1 : Int)] 28
        obtain ⟨w4, hw4⟩ : ∃ w4, w3.alloc (.cells #[.slice x2 n1 k2, .int .i64 (e1 : Int)] 28) = w4 := ⟨_, rfl⟩
        rw [hw4] at c4 bk4
        have C4 := Hid.intro c4
        have K4 := Hid.intro bk4
        have HW4 := Hid.intro hw4
        clear RN o3 o3' b3 r2 c4 bk4 hw4
        go_wp2_with fail
        rw [HW4.out]
        with_reducible refine (G.out _).mono ?_
        rintro e w5 ⟨v5, rfl, o5, b5⟩
        have o5' : w5.ownsRow w4.heap.size 3 1 v5 N.length (ivs (N.map Int.ofNat)) := o5
        obtain ⟨x3, k3, rfl, -, -, r3⟩ := own_ri o5'
        rw [HN2.out] at r3
        simp only [HN2.out]
        have R3 := Hid.intro r3
        have C5 := Hid.intro b5
        clear G o5 o5' b5 r3 HW4
        go_wp2_with fail
        with_reducible refine (RG.out _).mono ?_
        rintro e w6 ⟨x4, n4, k4, rfl, r4, b6⟩
        obtain rfl : n4 = n2 := by have := r4.1; have e := HN2.out; simp at this; omega
        have R4 := Hid.intro r4
        have C6 := Hid.intro b6
        have c8 : Below w6.heap.size w6 (w6.alloc (.cells #[.slice x4 n4 k4, .int .i64 (nx : Int), .int .i64 (e2 : Int)] 33)) := (Below.refl _ _).alloc (Nat.le_refl _) _
        have bk8 := blk_new w6 #[.slice x4 n4 k4, .int .i64 (nx : Int), .int .i64 (e2 : Int)] 33
        obtain ⟨w8, hw8⟩ : ∃ w8, w6.alloc (.cells #[.slice x4 n4 k4, .int .i64 (nx : Int), .int .i64 (e2 : Int)] 33) = w8 := ⟨_, rfl⟩
        rw [hw8] at c8 bk8
        have HW8 := Hid.intro hw8
        have c58 : Below w5.heap.size w5 w8 := C6.out.trans (c8.mono C6.out.size)
        have c48 : Below w4.heap.size w4 w8 := C5.out.trans (c58.mono C5.out.size)
        have c38 : Below w3.heap.size w3 w8 := C4.out.trans (c48.mono C4.out.size)
        have c28 : Below w2.heap.size w2 w8 := C3.out.trans (c38.mono C3.out.size)
        have B8 := Hid.intro (B2.out.trans (c28.mono B2.out.size))
        have S1 : Hid (∀ W, Below w8.heap.size w8 W → Calls Try.prog 14 #[.slice x1 n1 k1, .slice x2 n1 k2] W fun e W' => e = .returned (.bool true) ∧ Below W.heap.size W W') := fun W hW => by
          have c := sameI_any x1 x2 n1 n1 k1 k2 _ _ W (ri_below (ri_below R1.out c28) hW) (ri_below (ri_below R2.out c38) hW) (by omega) (by omega)
          rw [decide_eq_true rfl] at c; exact c
        have S2 : Hid (∀ W, Below w8.heap.size w8 W → Calls Try.prog 14 #[.slice x3 n4 k3, .slice x4 n4 k4] W fun e W' => e = .returned (.bool true) ∧ Below W.heap.size W W') := fun W hW => by
          have c := sameI_any x3 x4 n4 n4 k3 k4 _ _ W (ri_below (ri_below R3.out c58) hW) (ri_below (ri_below R4.out c8) hW) (by omega) (by omega)
          rw [decide_eq_true rfl] at c; exact c
        have L8 := Hid.intro (ri_below L0.out B8.out)
        have K48 := blk_below K4.out c48 (blk_lt K4.out)
        have hp : w3.heap.size < w8.heap.size := blk_lt K48
        have hq : w6.heap.size < w8.heap.size := blk_lt bk8
        have CC : Hid ((w8.cell? ⟨w3.heap.size, 0, none⟩ = some (.slice x2 n1 k2) ∧ w8.cell? ⟨w3.heap.size, 1, none⟩ = some (.int .i64 (e1 : Int)) ∧ w8.cell? ⟨w6.heap.size, 0, none⟩ = some (.slice x4 n4 k4) ∧ w8.cell? ⟨w6.heap.size, 1, none⟩ = some (.int .i64 (nx : Int)) ∧ w8.cell? ⟨w6.heap.size, 2, none⟩ = some (.int .i64 (e2 : Int))) ∧ Below w8.heap.size w8 w8) := ⟨⟨by rw [blk_cell K48]; rfl, by rw [blk_cell K48]; rfl, by rw [blk_cell bk8]; rfl, by rw [blk_cell bk8]; rfl, by rw [blk_cell bk8]; rfl⟩, Below.refl _ _⟩
        have MY : Hid (∀ W, Below w8.heap.size w8 W → Calls Try.prog 16 #[.slice b m cb, .int .i64 z] W fun e W' => e = .returned (.bool (may z l)) ∧ Below W.heap.size W W') := fun W hW => may_any b m cb l z W (ri_below L8.out hW) (by omega)
        have RM : Hid (∀ W, Below w8.heap.size w8 W → Calls Try.prog 17 #[.slice b m cb, .int .i64 z] W fun e W' => e = .returned (.bool (may z l)) ∧ Below W.heap.size W W') := fun W hW => rmay_any b m cb l z W (ri_below L8.out hW) (by omega)
        obtain ⟨bm, hbm⟩ : ∃ bm, may z l = bm := ⟨_, rfl⟩
        rw [hbm] at MY RM
        have AW := Hid.intro awake_any
        have ST : Hid (AgRel l m w8 (.bool true) (.int .i64 0) w8) := ⟨0, Nat.zero_le _, rfl, by rw [List.take_zero]; rfl, Below.refl _ _⟩
        clear hbm RG b6 r4 c8 bk8 hw8 c58 c48 c38 c28 K48 K4 B2 R1 R2 R3 R4 C3 C4 C5 C6 L0 R0 HN1 HN2
        go_wp2_with fail
        rw [HW8.out]
        clear HW8
        go_loopw [18, 19] (fun gv iv wr => AgRel l m w8 gv iv wr) (fun _ iv _ => m - (intOf iv).toNat)
        case atStart => exact ST.out
        case round =>
          clear ST
          obtain ⟨i, hi, rfl, rfl, d3⟩ := hrel
          by_cases hlt : i < m
          · have r8 : RI _ b m l := ri_below L8.out d3
            obtain ⟨x, rfl, cx⟩ := ri_fr r8 i hlt
            have STP := okl_step l i (by rw [LL.out]; exact hlt)
            have D3 := Hid.intro d3
            clear r8 d3
            generalize fr l i = y at *
            by_cases hk : okl (l.take i) = true
            · rw [hk] at STP ⊢
              by_cases hy : 0 ≤ y
              · rw [decide_eq_true hy] at STP
                have STP := Hid.intro STP
                have hy' : decide (0 ≤ y) = true := decide_eq_true hy
                clear hk
                go_wp2_with fail
                go_roundw
                case rel => exact ⟨i + 1, by omega, by go_num, by rw [STP.out]; rfl, D3.out⟩
                case measure => simp [intOf]; omega
              · rw [decide_eq_false hy] at STP
                have STP := Hid.intro STP
                have hy' : decide (0 ≤ y) = false := decide_eq_false hy
                clear hk
                go_wp2_with fail
                go_roundw
                case rel => exact ⟨i + 1, by omega, by go_num, by rw [STP.out]; rfl, D3.out⟩
                case measure => simp [intOf]; omega
            · have hk' : okl (l.take i) = false := by simpa using hk
              rw [hk', Bool.false_and] at STP
              have STP := Hid.intro STP
              rw [hk']
              clear hk hk'
              go_wp2_with fail
              go_roundw
              case rel => exact ⟨i + 1, by omega, by go_num, by rw [STP.out], D3.out⟩
              case measure => simp [intOf]; omega
          · obtain rfl : i = m := by omega
            rw [show l.take i = l from List.take_of_length_le (by rw [LL.out]; exact Nat.le_refl _)]
            have hS := keep5 hp hq CC.out d3
            have HS := Hid.intro hS
            clear CC d3
            by_cases hk : okl l = true
            · rw [hk]
              have ELL := Hid.intro (okl_nat hk)
              obtain ⟨L, hL⟩ : ∃ L, l.map Int.toNat = L := ⟨_, rfl⟩
              rw [hL] at ELL
              have l8 := L8.out
              rw [← ELL.out] at l8
              have LN : L.length = i := by have := l8.1; simpa using this
              have BN : ∀ x ∈ L, x ≤ 9223372036854775807 := fun x hx => by
                have := HB.out (x : Int) (by rw [← ELL.out]; exact List.mem_map_of_mem hx); omega
              have P1 : Hid (∀ W, Below w8.heap.size w8 W → Calls Try.prog 18 #[.slice b i cb] W fun e W' => e = .returned (.string (bs (encN L))) ∧ Below W.heap.size W W') := fun W hW => by
                by_cases h0 : 0 < i
                · exact put_some b i cb L W (ri_below l8 hW) (by omega) BN hm hcb h0
                · obtain rfl : i = 0 := by omega
                  obtain rfl : L = [] := List.length_eq_zero_iff.1 LN
                  rw [encN_nil]; exact put_nil b cb W hcb
              have P2 : Hid (∀ W, Below w8.heap.size w8 W → Calls Try.prog 19 #[.slice b i cb] W fun e W' => e = .returned (.string (bs (encN L))) ∧ Below W.heap.size W W') := fun W hW => rput_any b i cb L W (ri_below l8 hW) (by omega) BN
              obtain ⟨T, hT⟩ : ∃ T, bs (encN L) = T := ⟨_, rfl⟩
              rw [hT] at P1 P2
              have tT : (T.toList == T.toList) = true := by simp
              have t1 : ((e1 : Int) == (e1 : Int)) = true := by simp
              have t2 : ((e2 : Int) == (e2 : Int)) = true := by simp
              have t3 : ((nx : Int) == (nx : Int)) = true := by simp
              have t4 : (bm == bm) = true := by simp
              clear hk ELL hL l8 LN BN hT L8 LL HB hS hlt
              go_wp2_with fail
              refine wp_region_held_drew (S := fun W => (W.cell? ⟨w3.heap.size, 0, none⟩ = some (.slice x2 n1 k2) ∧ W.cell? ⟨w3.heap.size, 1, none⟩ = some (.int .i64 (e1 : Int)) ∧ W.cell? ⟨w6.heap.size, 0, none⟩ = some (.slice x4 n4 k4) ∧ W.cell? ⟨w6.heap.size, 1, none⟩ = some (.int .i64 (nx : Int)) ∧ W.cell? ⟨w6.heap.size, 2, none⟩ = some (.int .i64 (e2 : Int))) ∧ Below w8.heap.size w8 W) (by kernel_rfl) ⟨HS.out.1, HS.out.2.drew⟩ (fun hHeld => ?_)
              refine take' (i := 0) (d := (some 69)) (v := ?_) rfl rfl (by kernel_rfl) (by kernel_rfl) (by kernel_rfl) (fun _ _ _ h => h) (Or.inl ⟨by rfl, ?_⟩) (by assumption) ?_
              rotate_left
              · intro w hSw; (try dsimp only at hSw); go_simp; try with_reducible rfl
              try simp only [Act.put, List.setIfInBounds_toArray, List.set_cons_zero, List.set_cons_succ]
              refine take' (i := 1) (d := (some 70)) (v := ?_) rfl rfl (by kernel_rfl) (by kernel_rfl) (by kernel_rfl) (fun _ _ _ h => h) (Or.inl ⟨by rfl, ?_⟩) (by assumption) ?_
              rotate_left
              · intro w hSw; (try dsimp only at hSw); go_simp; try with_reducible rfl
              try simp only [Act.put, List.setIfInBounds_toArray, List.set_cons_zero, List.set_cons_succ]
              refine take' (i := 2) (d := (some 71)) (v := ?_) rfl rfl (by kernel_rfl) (by kernel_rfl) (by kernel_rfl) (fun _ _ _ h => h) (Or.inl ⟨by rfl, ?_⟩) (by assumption) ?_
              rotate_left
              · intro w hSw; (try dsimp only at hSw); go_simp; try with_reducible rfl
              try simp only [Act.put, List.setIfInBounds_toArray, List.set_cons_zero, List.set_cons_succ]
              refine wpAnyH_ready (rs := [3]) (by kernel_rfl) (by simp) ?_
              refine AllReadyH.cons (o := _) rfl (fun K hK => ?_) AllReadyH.nil
              go_simp
              with_reducible refine (S1.out _ hHeld.2).mono ?_
              rintro e w10 ⟨rfl, hb10⟩
              go_wp2_with fail
              refine hK.out _ _ (keep5 hp hq hHeld hb10) (fun hHeld => ?_)
              clear hK K
              try simp only [Act.put, List.setIfInBounds_toArray, List.set_cons_zero, List.set_cons_succ]
              refine take' (i := 4) (d := (some 73)) (v := ?_) rfl rfl (by kernel_rfl) (by kernel_rfl) (by kernel_rfl) (fun _ _ _ h => h) (Or.inl ⟨by rfl, ?_⟩) (by assumption) ?_
              rotate_left
              · intro w hSw; (try dsimp only at hSw); go_simp; try with_reducible rfl
              try simp only [Act.put, List.setIfInBounds_toArray, List.set_cons_zero, List.set_cons_succ]
              refine take' (i := 5) (d := (some 74)) (v := ?_) rfl rfl (by kernel_rfl) (by kernel_rfl) (by kernel_rfl) (fun _ _ _ h => h) (Or.inl ⟨by rfl, ?_⟩) (by assumption) ?_
              rotate_left
              · intro w hSw; (try dsimp only at hSw); go_simp; try with_reducible rfl
              try simp only [Act.put, List.setIfInBounds_toArray, List.set_cons_zero, List.set_cons_succ]
              refine take' (i := 7) (d := (some 76)) (v := ?_) rfl rfl (by kernel_rfl) (by kernel_rfl) (by kernel_rfl) (fun _ _ _ h => h) (Or.inl ⟨by rfl, ?_⟩) (by assumption) ?_
              rotate_left
              · intro w hSw; (try dsimp only at hSw); go_simp; try with_reducible rfl
              try simp only [Act.put, List.setIfInBounds_toArray, List.set_cons_zero, List.set_cons_succ]
              refine take' (i := 8) (d := (some 77)) (v := ?_) rfl rfl (by kernel_rfl) (by kernel_rfl) (by kernel_rfl) (fun _ _ _ h => h) (Or.inl ⟨by rfl, ?_⟩) (by assumption) ?_
              rotate_left
              · intro w hSw; (try dsimp only at hSw); go_simp; try with_reducible rfl
              try simp only [Act.put, List.setIfInBounds_toArray, List.set_cons_zero, List.set_cons_succ]
              refine wpAnyH_ready (rs := [6]) (by kernel_rfl) (by simp) ?_
              refine AllReadyH.cons (o := _) rfl (fun K hK => ?_) AllReadyH.nil
              go_simp
              with_reducible refine (err_i _ _).mono ?_
              rintro e w10 ⟨rfl, hb10⟩
              cases hb10
              go_wp2_with fail
              refine hK.out _ _ hHeld (fun hHeld => ?_)
              clear hK K
              try simp only [Act.put, List.setIfInBounds_toArray, List.set_cons_zero, List.set_cons_succ]
              refine take' (i := 9) (d := (some 78)) (v := ?_) rfl rfl (by kernel_rfl) (by kernel_rfl) (by kernel_rfl) (fun _ _ _ h => h) (Or.inl ⟨by rfl, ?_⟩) (by assumption) ?_
              rotate_left
              · intro w hSw; (try dsimp only at hSw); go_simp; try with_reducible rfl
              try simp only [Act.put, List.setIfInBounds_toArray, List.set_cons_zero, List.set_cons_succ]
              refine take' (i := 10) (d := (some 79)) (v := ?_) rfl rfl (by kernel_rfl) (by kernel_rfl) (by kernel_rfl) (fun _ _ _ h => h) (Or.inl ⟨by rfl, ?_⟩) (by assumption) ?_
              rotate_left
              · intro w hSw; (try dsimp only at hSw); go_simp; try with_reducible rfl
              try simp only [Act.put, List.setIfInBounds_toArray, List.set_cons_zero, List.set_cons_succ]
              refine take' (i := 11) (d := (some 80)) (v := ?_) rfl rfl (by kernel_rfl) (by kernel_rfl) (by kernel_rfl) (fun _ _ _ h => h) (Or.inl ⟨by rfl, ?_⟩) (by assumption) ?_
              rotate_left
              · intro w hSw; (try dsimp only at hSw); go_simp; try with_reducible rfl
              try simp only [Act.put, List.setIfInBounds_toArray, List.set_cons_zero, List.set_cons_succ]
              refine take' (i := 12) (d := (some 81)) (v := ?_) rfl rfl (by kernel_rfl) (by kernel_rfl) (by kernel_rfl) (fun _ _ _ h => h) (Or.inl ⟨by rfl, ?_⟩) (by assumption) ?_
              rotate_left
              · intro w hSw; (try dsimp only at hSw); go_simp; try with_reducible rfl
              try simp only [Act.put, List.setIfInBounds_toArray, List.set_cons_zero, List.set_cons_succ]
              refine take' (i := 13) (d := (some 82)) (v := ?_) rfl rfl (by kernel_rfl) (by kernel_rfl) (by kernel_rfl) (fun _ _ _ h => h) (Or.inl ⟨by rfl, ?_⟩) (by assumption) ?_
              rotate_left
              · intro w hSw; (try dsimp only at hSw); go_simp; try with_reducible rfl
              try simp only [Act.put, List.setIfInBounds_toArray, List.set_cons_zero, List.set_cons_succ]
              refine take' (i := 15) (d := (some 84)) (v := ?_) rfl rfl (by kernel_rfl) (by kernel_rfl) (by kernel_rfl) (fun _ _ _ h => h) (Or.inl ⟨by rfl, ?_⟩) (by assumption) ?_
              rotate_left
              · intro w hSw; (try dsimp only at hSw); go_simp; try with_reducible rfl
              try simp only [Act.put, List.setIfInBounds_toArray, List.set_cons_zero, List.set_cons_succ]
              refine take' (i := 16) (d := (some 85)) (v := ?_) rfl rfl (by kernel_rfl) (by kernel_rfl) (by kernel_rfl) (fun _ _ _ h => h) (Or.inl ⟨by rfl, ?_⟩) (by assumption) ?_
              rotate_left
              · intro w hSw; (try dsimp only at hSw); go_simp; try with_reducible rfl
              try simp only [Act.put, List.setIfInBounds_toArray, List.set_cons_zero, List.set_cons_succ]
              refine wpAnyH_ready (rs := [14]) (by kernel_rfl) (by simp) ?_
              refine AllReadyH.cons (o := _) rfl (fun K hK => ?_) AllReadyH.nil
              go_simp
              with_reducible refine (MY.out _ hHeld.2).mono ?_
              rintro e w10 ⟨rfl, hb10⟩
              go_wp2_with fail
              refine hK.out _ _ (keep5 hp hq hHeld hb10) (fun hHeld => ?_)
              clear hK K
              try simp only [Act.put, List.setIfInBounds_toArray, List.set_cons_zero, List.set_cons_succ]
              refine wpAnyH_ready (rs := [17]) (by kernel_rfl) (by simp) ?_
              refine AllReadyH.cons (o := _) rfl (fun K hK => ?_) AllReadyH.nil
              go_simp
              with_reducible refine (RM.out _ hHeld.2).mono ?_
              rintro e w10 ⟨rfl, hb10⟩
              go_wp2_with fail
              refine hK.out _ _ (keep5 hp hq hHeld hb10) (fun hHeld => ?_)
              clear hK K
              try simp only [Act.put, List.setIfInBounds_toArray, List.set_cons_zero, List.set_cons_succ]
              refine take' (i := 18) (d := (some 87)) (v := ?_) rfl rfl (by kernel_rfl) (by kernel_rfl) (by kernel_rfl) (fun _ _ _ h => h) (Or.inl ⟨by rfl, ?_⟩) (by assumption) ?_
              rotate_left
              · intro w hSw; (try dsimp only at hSw); go_simp; try with_reducible rfl
              try simp only [Act.put, List.setIfInBounds_toArray, List.set_cons_zero, List.set_cons_succ]
              refine take' (i := 19) (d := (some 88)) (v := ?_) rfl rfl (by kernel_rfl) (by kernel_rfl) (by kernel_rfl) (fun _ _ _ h => h) (Or.inl ⟨by rfl, ?_⟩) (by assumption) ?_
              rotate_left
              · intro w hSw; (try dsimp only at hSw); go_simp; try with_reducible rfl
              try simp only [Act.put, List.setIfInBounds_toArray, List.set_cons_zero, List.set_cons_succ]
              refine take' (i := 20) (d := (some 89)) (v := ?_) rfl rfl (by kernel_rfl) (by kernel_rfl) (by kernel_rfl) (fun _ _ _ h => h) (Or.inl ⟨by rfl, ?_⟩) (by assumption) ?_
              rotate_left
              · intro w hSw; (try dsimp only at hSw); go_simp; try with_reducible rfl
              try simp only [Act.put, List.setIfInBounds_toArray, List.set_cons_zero, List.set_cons_succ]
              refine take' (i := 21) (d := (some 90)) (v := ?_) rfl rfl (by kernel_rfl) (by kernel_rfl) (by kernel_rfl) (fun _ _ _ h => h) (Or.inl ⟨by rfl, ?_⟩) (by assumption) ?_
              rotate_left
              · intro w hSw; (try dsimp only at hSw); go_simp; try with_reducible rfl
              try simp only [Act.put, List.setIfInBounds_toArray, List.set_cons_zero, List.set_cons_succ]
              refine take' (i := 22) (d := (some 91)) (v := ?_) rfl rfl (by kernel_rfl) (by kernel_rfl) (by kernel_rfl) (fun _ _ _ h => h) (Or.inl ⟨by rfl, ?_⟩) (by assumption) ?_
              rotate_left
              · intro w hSw; (try dsimp only at hSw); go_simp; try with_reducible rfl
              try simp only [Act.put, List.setIfInBounds_toArray, List.set_cons_zero, List.set_cons_succ]
              refine take' (i := 23) (d := (some 92)) (v := ?_) rfl rfl (by kernel_rfl) (by kernel_rfl) (by kernel_rfl) (fun _ _ _ h => h) (Or.inl ⟨by rfl, ?_⟩) (by assumption) ?_
              rotate_left
              · intro w hSw; (try dsimp only at hSw); go_simp; try with_reducible rfl
              try simp only [Act.put, List.setIfInBounds_toArray, List.set_cons_zero, List.set_cons_succ]
              refine take' (i := 24) (d := (some 93)) (v := ?_) rfl rfl (by kernel_rfl) (by kernel_rfl) (by kernel_rfl) (fun _ _ _ h => h) (Or.inl ⟨by rfl, ?_⟩) (by assumption) ?_
              rotate_left
              · intro w hSw; (try dsimp only at hSw); go_simp; try with_reducible rfl
              try simp only [Act.put, List.setIfInBounds_toArray, List.set_cons_zero, List.set_cons_succ]
              refine take' (i := 26) (d := (some 95)) (v := ?_) rfl rfl (by kernel_rfl) (by kernel_rfl) (by kernel_rfl) (fun _ _ _ h => h) (Or.inl ⟨by rfl, ?_⟩) (by assumption) ?_
              rotate_left
              · intro w hSw; (try dsimp only at hSw); go_simp; try with_reducible rfl
              try simp only [Act.put, List.setIfInBounds_toArray, List.set_cons_zero, List.set_cons_succ]
              refine wpAnyH_ready (rs := [25]) (by kernel_rfl) (by simp) ?_
              refine AllReadyH.cons (o := _) rfl (fun K hK => ?_) AllReadyH.nil
              go_simp
              with_reducible refine (P1.out _ hHeld.2).mono ?_
              rintro e w10 ⟨rfl, hb10⟩
              go_wp2_with fail
              refine hK.out _ _ (keep5 hp hq hHeld hb10) (fun hHeld => ?_)
              clear hK K
              try simp only [Act.put, List.setIfInBounds_toArray, List.set_cons_zero, List.set_cons_succ]
              refine wpAnyH_ready (rs := [27]) (by kernel_rfl) (by simp) ?_
              refine AllReadyH.cons (o := _) rfl (fun K hK => ?_) AllReadyH.nil
              go_simp
              with_reducible refine (P2.out _ hHeld.2).mono ?_
              rintro e w10 ⟨rfl, hb10⟩
              go_wp2_with fail
              refine hK.out _ _ (keep5 hp hq hHeld hb10) (fun hHeld => ?_)
              clear hK K
              try simp only [Act.put, List.setIfInBounds_toArray, List.set_cons_zero, List.set_cons_succ]
              refine take' (i := 28) (d := (some 97)) (v := ?_) rfl rfl (by kernel_rfl) (by kernel_rfl) (by kernel_rfl) (fun _ _ _ h => h) (Or.inl ⟨by rfl, ?_⟩) (by assumption) ?_
              rotate_left
              · intro w hSw; (try dsimp only at hSw); go_simp; try with_reducible rfl
              try simp only [Act.put, List.setIfInBounds_toArray, List.set_cons_zero, List.set_cons_succ]
              refine take' (i := 29) (d := (some 98)) (v := ?_) rfl rfl (by kernel_rfl) (by kernel_rfl) (by kernel_rfl) (fun _ _ _ h => h) (Or.inl ⟨by rfl, ?_⟩) (by assumption) ?_
              rotate_left
              · intro w hSw; (try dsimp only at hSw); go_simp; try with_reducible rfl
              try simp only [Act.put, List.setIfInBounds_toArray, List.set_cons_zero, List.set_cons_succ]
              refine take' (i := 30) (d := (some 99)) (v := ?_) rfl rfl (by kernel_rfl) (by kernel_rfl) (by kernel_rfl) (fun _ _ _ h => h) (Or.inl ⟨by rfl, ?_⟩) (by assumption) ?_
              rotate_left
              · intro w hSw; (try dsimp only at hSw); go_simp; try with_reducible rfl
              try simp only [Act.put, List.setIfInBounds_toArray, List.set_cons_zero, List.set_cons_succ]
              refine take' (i := 31) (d := (some 100)) (v := ?_) rfl rfl (by kernel_rfl) (by kernel_rfl) (by kernel_rfl) (fun _ _ _ h => h) (Or.inl ⟨by rfl, ?_⟩) (by assumption) ?_
              rotate_left
              · intro w hSw; (try dsimp only at hSw); go_simp; try with_reducible rfl
              try simp only [Act.put, List.setIfInBounds_toArray, List.set_cons_zero, List.set_cons_succ]
              refine take' (i := 32) (d := (some 101)) (v := ?_) rfl rfl (by kernel_rfl) (by kernel_rfl) (by kernel_rfl) (fun _ _ _ h => h) (Or.inl ⟨by rfl, ?_⟩) (by assumption) ?_
              rotate_left
              · intro w hSw; (try dsimp only at hSw); go_simp; try with_reducible rfl
              try simp only [Act.put, List.setIfInBounds_toArray, List.set_cons_zero, List.set_cons_succ]
              refine take' (i := 33) (d := (some 102)) (v := ?_) rfl rfl (by kernel_rfl) (by kernel_rfl) (by kernel_rfl) (fun _ _ _ h => h) (Or.inl ⟨by rfl, ?_⟩) (by assumption) ?_
              rotate_left
              · intro w hSw; (try dsimp only at hSw); go_simp; try with_reducible rfl
              try simp only [Act.put, List.setIfInBounds_toArray, List.set_cons_zero, List.set_cons_succ]
              refine take' (i := 34) (d := (some 103)) (v := ?_) rfl rfl (by kernel_rfl) (by kernel_rfl) (by kernel_rfl) (fun _ _ _ h => h) (Or.inl ⟨by rfl, ?_⟩) (by assumption) ?_
              rotate_left
              · intro w hSw; (try dsimp only at hSw); go_simp; try with_reducible rfl
              try simp only [Act.put, List.setIfInBounds_toArray, List.set_cons_zero, List.set_cons_succ]
              refine wpAnyH_ready (rs := [35]) (by kernel_rfl) (by simp) ?_
              refine AllReadyH.cons (o := _) rfl (fun K hK => ?_) AllReadyH.nil
              go_simp
              with_reducible refine (S2.out _ hHeld.2).mono ?_
              rintro e w10 ⟨rfl, hb10⟩
              go_wp2_with fail
              refine hK.out _ _ (keep5 hp hq hHeld hb10) (fun hHeld => ?_)
              clear hK K
              try simp only [Act.put, List.setIfInBounds_toArray, List.set_cons_zero, List.set_cons_succ]
              refine take' (i := 36) (d := (some 105)) (v := ?_) rfl rfl (by kernel_rfl) (by kernel_rfl) (by kernel_rfl) (fun _ _ _ h => h) (Or.inl ⟨by rfl, ?_⟩) (by assumption) ?_
              rotate_left
              · intro w hSw; (try dsimp only at hSw); go_simp; try with_reducible rfl
              try simp only [Act.put, List.setIfInBounds_toArray, List.set_cons_zero, List.set_cons_succ]
              refine take' (i := 37) (d := (some 106)) (v := ?_) rfl rfl (by kernel_rfl) (by kernel_rfl) (by kernel_rfl) (fun _ _ _ h => h) (Or.inl ⟨by rfl, ?_⟩) (by assumption) ?_
              rotate_left
              · intro w hSw; (try dsimp only at hSw); go_simp; try with_reducible rfl
              try simp only [Act.put, List.setIfInBounds_toArray, List.set_cons_zero, List.set_cons_succ]
              refine take' (i := 38) (d := (some 107)) (v := ?_) rfl rfl (by kernel_rfl) (by kernel_rfl) (by kernel_rfl) (fun _ _ _ h => h) (Or.inl ⟨by rfl, ?_⟩) (by assumption) ?_
              rotate_left
              · intro w hSw; (try dsimp only at hSw); go_simp; try with_reducible rfl
              try simp only [Act.put, List.setIfInBounds_toArray, List.set_cons_zero, List.set_cons_succ]
              refine take' (i := 39) (d := (some 108)) (v := ?_) rfl rfl (by kernel_rfl) (by kernel_rfl) (by kernel_rfl) (fun _ _ _ h => h) (Or.inl ⟨by rfl, ?_⟩) (by assumption) ?_
              rotate_left
              · intro w hSw; (try dsimp only at hSw); go_simp; try with_reducible rfl
              try simp only [Act.put, List.setIfInBounds_toArray, List.set_cons_zero, List.set_cons_succ]
              refine take' (i := 40) (d := (some 109)) (v := ?_) rfl rfl (by kernel_rfl) (by kernel_rfl) (by kernel_rfl) (fun _ _ _ h => h) (Or.inl ⟨by rfl, ?_⟩) (by assumption) ?_
              rotate_left
              · intro w hSw; (try dsimp only at hSw); go_simp; try with_reducible rfl
              try simp only [Act.put, List.setIfInBounds_toArray, List.set_cons_zero, List.set_cons_succ]
              refine take' (i := 41) (d := (some 110)) (v := ?_) rfl rfl (by kernel_rfl) (by kernel_rfl) (by kernel_rfl) (fun _ _ _ h => h) (Or.inl ⟨by rfl, ?_⟩) (by assumption) ?_
              rotate_left
              · intro w hSw; (try dsimp only at hSw); go_simp; try with_reducible rfl
              try simp only [Act.put, List.setIfInBounds_toArray, List.set_cons_zero, List.set_cons_succ]
              refine take' (i := 42) (d := (some 111)) (v := ?_) rfl rfl (by kernel_rfl) (by kernel_rfl) (by kernel_rfl) (fun _ _ _ h => h) (Or.inl ⟨by rfl, ?_⟩) (by assumption) ?_
              rotate_left
              · intro w hSw; (try dsimp only at hSw); go_simp; try with_reducible rfl
              try simp only [Act.put, List.setIfInBounds_toArray, List.set_cons_zero, List.set_cons_succ]
              refine take' (i := 43) (d := (some 112)) (v := ?_) rfl rfl (by kernel_rfl) (by kernel_rfl) (by kernel_rfl) (fun _ _ _ h => h) (Or.inl ⟨by rfl, ?_⟩) (by assumption) ?_
              rotate_left
              · intro w hSw; (try dsimp only at hSw); go_simp; try with_reducible rfl
              try simp only [Act.put, List.setIfInBounds_toArray, List.set_cons_zero, List.set_cons_succ]
              refine take' (i := 44) (d := (some 113)) (v := ?_) rfl rfl (by kernel_rfl) (by kernel_rfl) (by kernel_rfl) (fun _ _ _ h => h) (Or.inl ⟨by rfl, ?_⟩) (by assumption) ?_
              rotate_left
              · intro w hSw; (try dsimp only at hSw); go_simp; try with_reducible rfl
              try simp only [Act.put, List.setIfInBounds_toArray, List.set_cons_zero, List.set_cons_succ]
              refine take' (i := 46) (d := (some 115)) (v := ?_) rfl rfl (by kernel_rfl) (by kernel_rfl) (by kernel_rfl) (fun _ _ _ h => h) (Or.inl ⟨by rfl, ?_⟩) (by assumption) ?_
              rotate_left
              · intro w hSw; (try dsimp only at hSw); go_simp; try with_reducible rfl
              try simp only [Act.put, List.setIfInBounds_toArray, List.set_cons_zero, List.set_cons_succ]
              refine take' (i := 47) (d := (some 116)) (v := ?_) rfl rfl (by kernel_rfl) (by kernel_rfl) (by kernel_rfl) (fun _ _ _ h => h) (Or.inl ⟨by rfl, ?_⟩) (by assumption) ?_
              rotate_left
              · intro w hSw; (try dsimp only at hSw); go_simp; try with_reducible rfl
              try simp only [Act.put, List.setIfInBounds_toArray, List.set_cons_zero, List.set_cons_succ]
              refine wpAnyH_ready (rs := [45]) (by kernel_rfl) (by simp) ?_
              refine AllReadyH.cons (o := _) rfl (fun K hK => ?_) AllReadyH.nil
              go_simp
              with_reducible refine (err_i _ _).mono ?_
              rintro e w10 ⟨rfl, hb10⟩
              cases hb10
              go_wp2_with fail
              refine hK.out _ _ hHeld (fun hHeld => ?_)
              clear hK K
              try simp only [Act.put, List.setIfInBounds_toArray, List.set_cons_zero, List.set_cons_succ]
              refine take' (i := 48) (d := (some 117)) (v := ?_) rfl rfl (by kernel_rfl) (by kernel_rfl) (by kernel_rfl) (fun _ _ _ h => h) (Or.inl ⟨by rfl, ?_⟩) (by assumption) ?_
              rotate_left
              · intro w hSw; (try dsimp only at hSw); go_simp; try with_reducible rfl
              try simp only [Act.put, List.setIfInBounds_toArray, List.set_cons_zero, List.set_cons_succ]
              refine take' (i := 49) (d := (some 118)) (v := ?_) rfl rfl (by kernel_rfl) (by kernel_rfl) (by kernel_rfl) (fun _ _ _ h => h) (Or.inl ⟨by rfl, ?_⟩) (by assumption) ?_
              rotate_left
              · intro w hSw; (try dsimp only at hSw); go_simp; try with_reducible rfl
              try simp only [Act.put, List.setIfInBounds_toArray, List.set_cons_zero, List.set_cons_succ]
              refine take' (i := 50) (d := (some 119)) (v := ?_) rfl rfl (by kernel_rfl) (by kernel_rfl) (by kernel_rfl) (fun _ _ _ h => h) (Or.inl ⟨by rfl, ?_⟩) (by assumption) ?_
              rotate_left
              · intro w hSw; (try dsimp only at hSw); go_simp; try with_reducible rfl
              try simp only [Act.put, List.setIfInBounds_toArray, List.set_cons_zero, List.set_cons_succ]
              refine wpAnyH_ready (rs := [51]) (by kernel_rfl) (by simp) ?_
              refine AllReadyH.cons (o := _) rfl (fun K hK => ?_) AllReadyH.nil
              go_simp
              with_reducible refine (AW.out _).mono ?_
              rintro e w10 ⟨rfl, hb10⟩
              go_wp2_with fail
              refine hK.out _ _ (keep5 hp hq hHeld hb10) (fun hHeld => ?_)
              clear hK K
              try simp only [Act.put, List.setIfInBounds_toArray, List.set_cons_zero, List.set_cons_succ]
              refine take' (i := 52) (d := (some 121)) (v := ?_) rfl rfl (by kernel_rfl) (by kernel_rfl) (by kernel_rfl) (fun _ _ _ h => h) (Or.inl ⟨by rfl, ?_⟩) (by assumption) ?_
              rotate_left
              · intro w hSw; (try dsimp only at hSw); go_simp; try with_reducible rfl
              try simp only [Act.put, List.setIfInBounds_toArray, List.set_cons_zero, List.set_cons_succ]
              refine take' (i := 53) (d := (some 10)) (v := ?_) rfl rfl (by kernel_rfl) (by kernel_rfl) (by kernel_rfl) (fun _ _ _ h => h) (Or.inl ⟨by rfl, ?_⟩) (by assumption) ?_
              rotate_left
              · intro w hSw; (try dsimp only at hSw); go_simp; try with_reducible rfl
              try simp only [Act.put, List.setIfInBounds_toArray, List.set_cons_zero, List.set_cons_succ]
              refine wpAnyH_done (by kernel_rfl) ?_ _
              have HF := Hid.intro (B8.out.trans (hHeld.2.mono B8.out.size))
              clear hHeld
              go_wp2_with fail
              go_ret
              exact ⟨rfl, HF.out⟩
            · have hk' : okl l = false := by simpa using hk
              rw [hk']
              have t1 : ((e1 : Int) == (e1 : Int)) = true := by simp
              have t2 : ((e2 : Int) == (e2 : Int)) = true := by simp
              have t3 : ((nx : Int) == (nx : Int)) = true := by simp
              have t4 : (bm == bm) = true := by simp
              clear hk hk' L8 LL HB hS hlt
              go_wp2_with fail
              refine wp_region_held_drew (S := fun W => (W.cell? ⟨w3.heap.size, 0, none⟩ = some (.slice x2 n1 k2) ∧ W.cell? ⟨w3.heap.size, 1, none⟩ = some (.int .i64 (e1 : Int)) ∧ W.cell? ⟨w6.heap.size, 0, none⟩ = some (.slice x4 n4 k4) ∧ W.cell? ⟨w6.heap.size, 1, none⟩ = some (.int .i64 (nx : Int)) ∧ W.cell? ⟨w6.heap.size, 2, none⟩ = some (.int .i64 (e2 : Int))) ∧ Below w8.heap.size w8 W) (by kernel_rfl) ⟨HS.out.1, HS.out.2.drew⟩ (fun hHeld => ?_)
              refine take' (i := 0) (d := (some 69)) (v := ?_) rfl rfl (by kernel_rfl) (by kernel_rfl) (by kernel_rfl) (fun _ _ _ h => h) (Or.inl ⟨by rfl, ?_⟩) (by assumption) ?_
              rotate_left
              · intro w hSw; (try dsimp only at hSw); go_simp; try with_reducible rfl
              try simp only [Act.put, List.setIfInBounds_toArray, List.set_cons_zero, List.set_cons_succ]
              refine take' (i := 1) (d := (some 70)) (v := ?_) rfl rfl (by kernel_rfl) (by kernel_rfl) (by kernel_rfl) (fun _ _ _ h => h) (Or.inl ⟨by rfl, ?_⟩) (by assumption) ?_
              rotate_left
              · intro w hSw; (try dsimp only at hSw); go_simp; try with_reducible rfl
              try simp only [Act.put, List.setIfInBounds_toArray, List.set_cons_zero, List.set_cons_succ]
              refine take' (i := 2) (d := (some 71)) (v := ?_) rfl rfl (by kernel_rfl) (by kernel_rfl) (by kernel_rfl) (fun _ _ _ h => h) (Or.inl ⟨by rfl, ?_⟩) (by assumption) ?_
              rotate_left
              · intro w hSw; (try dsimp only at hSw); go_simp; try with_reducible rfl
              try simp only [Act.put, List.setIfInBounds_toArray, List.set_cons_zero, List.set_cons_succ]
              refine wpAnyH_ready (rs := [3]) (by kernel_rfl) (by simp) ?_
              refine AllReadyH.cons (o := _) rfl (fun K hK => ?_) AllReadyH.nil
              go_simp
              with_reducible refine (S1.out _ hHeld.2).mono ?_
              rintro e w10 ⟨rfl, hb10⟩
              go_wp2_with fail
              refine hK.out _ _ (keep5 hp hq hHeld hb10) (fun hHeld => ?_)
              clear hK K
              try simp only [Act.put, List.setIfInBounds_toArray, List.set_cons_zero, List.set_cons_succ]
              refine take' (i := 4) (d := (some 73)) (v := ?_) rfl rfl (by kernel_rfl) (by kernel_rfl) (by kernel_rfl) (fun _ _ _ h => h) (Or.inl ⟨by rfl, ?_⟩) (by assumption) ?_
              rotate_left
              · intro w hSw; (try dsimp only at hSw); go_simp; try with_reducible rfl
              try simp only [Act.put, List.setIfInBounds_toArray, List.set_cons_zero, List.set_cons_succ]
              refine take' (i := 5) (d := (some 74)) (v := ?_) rfl rfl (by kernel_rfl) (by kernel_rfl) (by kernel_rfl) (fun _ _ _ h => h) (Or.inl ⟨by rfl, ?_⟩) (by assumption) ?_
              rotate_left
              · intro w hSw; (try dsimp only at hSw); go_simp; try with_reducible rfl
              try simp only [Act.put, List.setIfInBounds_toArray, List.set_cons_zero, List.set_cons_succ]
              refine take' (i := 7) (d := (some 76)) (v := ?_) rfl rfl (by kernel_rfl) (by kernel_rfl) (by kernel_rfl) (fun _ _ _ h => h) (Or.inl ⟨by rfl, ?_⟩) (by assumption) ?_
              rotate_left
              · intro w hSw; (try dsimp only at hSw); go_simp; try with_reducible rfl
              try simp only [Act.put, List.setIfInBounds_toArray, List.set_cons_zero, List.set_cons_succ]
              refine take' (i := 8) (d := (some 77)) (v := ?_) rfl rfl (by kernel_rfl) (by kernel_rfl) (by kernel_rfl) (fun _ _ _ h => h) (Or.inl ⟨by rfl, ?_⟩) (by assumption) ?_
              rotate_left
              · intro w hSw; (try dsimp only at hSw); go_simp; try with_reducible rfl
              try simp only [Act.put, List.setIfInBounds_toArray, List.set_cons_zero, List.set_cons_succ]
              refine wpAnyH_ready (rs := [6]) (by kernel_rfl) (by simp) ?_
              refine AllReadyH.cons (o := _) rfl (fun K hK => ?_) AllReadyH.nil
              go_simp
              with_reducible refine (err_i _ _).mono ?_
              rintro e w10 ⟨rfl, hb10⟩
              cases hb10
              go_wp2_with fail
              refine hK.out _ _ hHeld (fun hHeld => ?_)
              clear hK K
              try simp only [Act.put, List.setIfInBounds_toArray, List.set_cons_zero, List.set_cons_succ]
              refine take' (i := 9) (d := (some 78)) (v := ?_) rfl rfl (by kernel_rfl) (by kernel_rfl) (by kernel_rfl) (fun _ _ _ h => h) (Or.inl ⟨by rfl, ?_⟩) (by assumption) ?_
              rotate_left
              · intro w hSw; (try dsimp only at hSw); go_simp; try with_reducible rfl
              try simp only [Act.put, List.setIfInBounds_toArray, List.set_cons_zero, List.set_cons_succ]
              refine take' (i := 10) (d := (some 79)) (v := ?_) rfl rfl (by kernel_rfl) (by kernel_rfl) (by kernel_rfl) (fun _ _ _ h => h) (Or.inl ⟨by rfl, ?_⟩) (by assumption) ?_
              rotate_left
              · intro w hSw; (try dsimp only at hSw); go_simp; try with_reducible rfl
              try simp only [Act.put, List.setIfInBounds_toArray, List.set_cons_zero, List.set_cons_succ]
              refine take' (i := 11) (d := (some 80)) (v := ?_) rfl rfl (by kernel_rfl) (by kernel_rfl) (by kernel_rfl) (fun _ _ _ h => h) (Or.inl ⟨by rfl, ?_⟩) (by assumption) ?_
              rotate_left
              · intro w hSw; (try dsimp only at hSw); go_simp; try with_reducible rfl
              try simp only [Act.put, List.setIfInBounds_toArray, List.set_cons_zero, List.set_cons_succ]
              refine take' (i := 12) (d := (some 81)) (v := ?_) rfl rfl (by kernel_rfl) (by kernel_rfl) (by kernel_rfl) (fun _ _ _ h => h) (Or.inl ⟨by rfl, ?_⟩) (by assumption) ?_
              rotate_left
              · intro w hSw; (try dsimp only at hSw); go_simp; try with_reducible rfl
              try simp only [Act.put, List.setIfInBounds_toArray, List.set_cons_zero, List.set_cons_succ]
              refine take' (i := 13) (d := (some 82)) (v := ?_) rfl rfl (by kernel_rfl) (by kernel_rfl) (by kernel_rfl) (fun _ _ _ h => h) (Or.inl ⟨by rfl, ?_⟩) (by assumption) ?_
              rotate_left
              · intro w hSw; (try dsimp only at hSw); go_simp; try with_reducible rfl
              try simp only [Act.put, List.setIfInBounds_toArray, List.set_cons_zero, List.set_cons_succ]
              refine take' (i := 15) (d := (some 84)) (v := ?_) rfl rfl (by kernel_rfl) (by kernel_rfl) (by kernel_rfl) (fun _ _ _ h => h) (Or.inl ⟨by rfl, ?_⟩) (by assumption) ?_
              rotate_left
              · intro w hSw; (try dsimp only at hSw); go_simp; try with_reducible rfl
              try simp only [Act.put, List.setIfInBounds_toArray, List.set_cons_zero, List.set_cons_succ]
              refine take' (i := 16) (d := (some 85)) (v := ?_) rfl rfl (by kernel_rfl) (by kernel_rfl) (by kernel_rfl) (fun _ _ _ h => h) (Or.inl ⟨by rfl, ?_⟩) (by assumption) ?_
              rotate_left
              · intro w hSw; (try dsimp only at hSw); go_simp; try with_reducible rfl
              try simp only [Act.put, List.setIfInBounds_toArray, List.set_cons_zero, List.set_cons_succ]
              refine wpAnyH_ready (rs := [14]) (by kernel_rfl) (by simp) ?_
              refine AllReadyH.cons (o := _) rfl (fun K hK => ?_) AllReadyH.nil
              go_simp
              with_reducible refine (MY.out _ hHeld.2).mono ?_
              rintro e w10 ⟨rfl, hb10⟩
              go_wp2_with fail
              refine hK.out _ _ (keep5 hp hq hHeld hb10) (fun hHeld => ?_)
              clear hK K
              try simp only [Act.put, List.setIfInBounds_toArray, List.set_cons_zero, List.set_cons_succ]
              refine wpAnyH_ready (rs := [17]) (by kernel_rfl) (by simp) ?_
              refine AllReadyH.cons (o := _) rfl (fun K hK => ?_) AllReadyH.nil
              go_simp
              with_reducible refine (RM.out _ hHeld.2).mono ?_
              rintro e w10 ⟨rfl, hb10⟩
              go_wp2_with fail
              refine hK.out _ _ (keep5 hp hq hHeld hb10) (fun hHeld => ?_)
              clear hK K
              try simp only [Act.put, List.setIfInBounds_toArray, List.set_cons_zero, List.set_cons_succ]
              refine take' (i := 18) (d := (some 87)) (v := ?_) rfl rfl (by kernel_rfl) (by kernel_rfl) (by kernel_rfl) (fun _ _ _ h => h) (Or.inl ⟨by rfl, ?_⟩) (by assumption) ?_
              rotate_left
              · intro w hSw; (try dsimp only at hSw); go_simp; try with_reducible rfl
              try simp only [Act.put, List.setIfInBounds_toArray, List.set_cons_zero, List.set_cons_succ]
              refine take' (i := 19) (d := (some 88)) (v := ?_) rfl rfl (by kernel_rfl) (by kernel_rfl) (by kernel_rfl) (fun _ _ _ h => h) (Or.inl ⟨by rfl, ?_⟩) (by assumption) ?_
              rotate_left
              · intro w hSw; (try dsimp only at hSw); go_simp; try with_reducible rfl
              try simp only [Act.put, List.setIfInBounds_toArray, List.set_cons_zero, List.set_cons_succ]
              refine take' (i := 20) (d := (some 89)) (v := ?_) rfl rfl (by kernel_rfl) (by kernel_rfl) (by kernel_rfl) (fun _ _ _ h => h) (Or.inl ⟨by rfl, ?_⟩) (by assumption) ?_
              rotate_left
              · intro w hSw; (try dsimp only at hSw); go_simp; try with_reducible rfl
              try simp only [Act.put, List.setIfInBounds_toArray, List.set_cons_zero, List.set_cons_succ]
              refine take' (i := 21) (d := (some 90)) (v := ?_) rfl rfl (by kernel_rfl) (by kernel_rfl) (by kernel_rfl) (fun _ _ _ h => h) (Or.inl ⟨by rfl, ?_⟩) (by assumption) ?_
              rotate_left
              · intro w hSw; (try dsimp only at hSw); go_simp; try with_reducible rfl
              try simp only [Act.put, List.setIfInBounds_toArray, List.set_cons_zero, List.set_cons_succ]
              refine take' (i := 22) (d := (some 91)) (v := ?_) rfl rfl (by kernel_rfl) (by kernel_rfl) (by kernel_rfl) (fun _ _ _ h => h) (Or.inl ⟨by rfl, ?_⟩) (by assumption) ?_
              rotate_left
              · intro w hSw; (try dsimp only at hSw); go_simp; try with_reducible rfl
              try simp only [Act.put, List.setIfInBounds_toArray, List.set_cons_zero, List.set_cons_succ]
              refine take' (i := 23) (d := (some 92)) (v := ?_) rfl rfl (by kernel_rfl) (by kernel_rfl) (by kernel_rfl) (fun _ _ _ h => h) (Or.inl ⟨by rfl, ?_⟩) (by assumption) ?_
              rotate_left
              · intro w hSw; (try dsimp only at hSw); go_simp; try with_reducible rfl
              try simp only [Act.put, List.setIfInBounds_toArray, List.set_cons_zero, List.set_cons_succ]
              refine take' (i := 24) (d := (some 93)) (v := undef) rfl rfl (by kernel_rfl) (by kernel_rfl) (by kernel_rfl) (fun _ _ _ h => h) (Or.inr ⟨by rfl, rfl⟩) (by assumption) ?_
              try simp only [Act.put, List.setIfInBounds_toArray, List.set_cons_zero, List.set_cons_succ]
              refine take' (i := 25) (d := (some 94)) (v := undef) rfl rfl (by kernel_rfl) (by kernel_rfl) (by kernel_rfl) (fun _ _ _ h => h) (Or.inr ⟨by rfl, rfl⟩) (by assumption) ?_
              try simp only [Act.put, List.setIfInBounds_toArray, List.set_cons_zero, List.set_cons_succ]
              refine take' (i := 26) (d := (some 95)) (v := undef) rfl rfl (by kernel_rfl) (by kernel_rfl) (by kernel_rfl) (fun _ _ _ h => h) (Or.inr ⟨by rfl, rfl⟩) (by assumption) ?_
              try simp only [Act.put, List.setIfInBounds_toArray, List.set_cons_zero, List.set_cons_succ]
              refine take' (i := 27) (d := (some 96)) (v := undef) rfl rfl (by kernel_rfl) (by kernel_rfl) (by kernel_rfl) (fun _ _ _ h => h) (Or.inr ⟨by rfl, rfl⟩) (by assumption) ?_
              try simp only [Act.put, List.setIfInBounds_toArray, List.set_cons_zero, List.set_cons_succ]
              refine take' (i := 28) (d := (some 97)) (v := undef) rfl rfl (by kernel_rfl) (by kernel_rfl) (by kernel_rfl) (fun _ _ _ h => h) (Or.inr ⟨by rfl, rfl⟩) (by assumption) ?_
              try simp only [Act.put, List.setIfInBounds_toArray, List.set_cons_zero, List.set_cons_succ]
              refine take' (i := 29) (d := (some 98)) (v := ?_) rfl rfl (by kernel_rfl) (by kernel_rfl) (by kernel_rfl) (fun _ _ _ h => h) (Or.inl ⟨by rfl, ?_⟩) (by assumption) ?_
              rotate_left
              · intro w hSw; (try dsimp only at hSw); go_simp; try with_reducible rfl
              try simp only [Act.put, List.setIfInBounds_toArray, List.set_cons_zero, List.set_cons_succ]
              refine take' (i := 30) (d := (some 99)) (v := ?_) rfl rfl (by kernel_rfl) (by kernel_rfl) (by kernel_rfl) (fun _ _ _ h => h) (Or.inl ⟨by rfl, ?_⟩) (by assumption) ?_
              rotate_left
              · intro w hSw; (try dsimp only at hSw); go_simp; try with_reducible rfl
              try simp only [Act.put, List.setIfInBounds_toArray, List.set_cons_zero, List.set_cons_succ]
              refine take' (i := 31) (d := (some 100)) (v := ?_) rfl rfl (by kernel_rfl) (by kernel_rfl) (by kernel_rfl) (fun _ _ _ h => h) (Or.inl ⟨by rfl, ?_⟩) (by assumption) ?_
              rotate_left
              · intro w hSw; (try dsimp only at hSw); go_simp; try with_reducible rfl
              try simp only [Act.put, List.setIfInBounds_toArray, List.set_cons_zero, List.set_cons_succ]
              refine take' (i := 32) (d := (some 101)) (v := ?_) rfl rfl (by kernel_rfl) (by kernel_rfl) (by kernel_rfl) (fun _ _ _ h => h) (Or.inl ⟨by rfl, ?_⟩) (by assumption) ?_
              rotate_left
              · intro w hSw; (try dsimp only at hSw); go_simp; try with_reducible rfl
              try simp only [Act.put, List.setIfInBounds_toArray, List.set_cons_zero, List.set_cons_succ]
              refine take' (i := 33) (d := (some 102)) (v := ?_) rfl rfl (by kernel_rfl) (by kernel_rfl) (by kernel_rfl) (fun _ _ _ h => h) (Or.inl ⟨by rfl, ?_⟩) (by assumption) ?_
              rotate_left
              · intro w hSw; (try dsimp only at hSw); go_simp; try with_reducible rfl
              try simp only [Act.put, List.setIfInBounds_toArray, List.set_cons_zero, List.set_cons_succ]
              refine take' (i := 34) (d := (some 103)) (v := ?_) rfl rfl (by kernel_rfl) (by kernel_rfl) (by kernel_rfl) (fun _ _ _ h => h) (Or.inl ⟨by rfl, ?_⟩) (by assumption) ?_
              rotate_left
              · intro w hSw; (try dsimp only at hSw); go_simp; try with_reducible rfl
              try simp only [Act.put, List.setIfInBounds_toArray, List.set_cons_zero, List.set_cons_succ]
              refine wpAnyH_ready (rs := [35]) (by kernel_rfl) (by simp) ?_
              refine AllReadyH.cons (o := _) rfl (fun K hK => ?_) AllReadyH.nil
              go_simp
              with_reducible refine (S2.out _ hHeld.2).mono ?_
              rintro e w10 ⟨rfl, hb10⟩
              go_wp2_with fail
              refine hK.out _ _ (keep5 hp hq hHeld hb10) (fun hHeld => ?_)
              clear hK K
              try simp only [Act.put, List.setIfInBounds_toArray, List.set_cons_zero, List.set_cons_succ]
              refine take' (i := 36) (d := (some 105)) (v := ?_) rfl rfl (by kernel_rfl) (by kernel_rfl) (by kernel_rfl) (fun _ _ _ h => h) (Or.inl ⟨by rfl, ?_⟩) (by assumption) ?_
              rotate_left
              · intro w hSw; (try dsimp only at hSw); go_simp; try with_reducible rfl
              try simp only [Act.put, List.setIfInBounds_toArray, List.set_cons_zero, List.set_cons_succ]
              refine take' (i := 37) (d := (some 106)) (v := ?_) rfl rfl (by kernel_rfl) (by kernel_rfl) (by kernel_rfl) (fun _ _ _ h => h) (Or.inl ⟨by rfl, ?_⟩) (by assumption) ?_
              rotate_left
              · intro w hSw; (try dsimp only at hSw); go_simp; try with_reducible rfl
              try simp only [Act.put, List.setIfInBounds_toArray, List.set_cons_zero, List.set_cons_succ]
              refine take' (i := 38) (d := (some 107)) (v := ?_) rfl rfl (by kernel_rfl) (by kernel_rfl) (by kernel_rfl) (fun _ _ _ h => h) (Or.inl ⟨by rfl, ?_⟩) (by assumption) ?_
              rotate_left
              · intro w hSw; (try dsimp only at hSw); go_simp; try with_reducible rfl
              try simp only [Act.put, List.setIfInBounds_toArray, List.set_cons_zero, List.set_cons_succ]
              refine take' (i := 39) (d := (some 108)) (v := ?_) rfl rfl (by kernel_rfl) (by kernel_rfl) (by kernel_rfl) (fun _ _ _ h => h) (Or.inl ⟨by rfl, ?_⟩) (by assumption) ?_
              rotate_left
              · intro w hSw; (try dsimp only at hSw); go_simp; try with_reducible rfl
              try simp only [Act.put, List.setIfInBounds_toArray, List.set_cons_zero, List.set_cons_succ]
              refine take' (i := 40) (d := (some 109)) (v := ?_) rfl rfl (by kernel_rfl) (by kernel_rfl) (by kernel_rfl) (fun _ _ _ h => h) (Or.inl ⟨by rfl, ?_⟩) (by assumption) ?_
              rotate_left
              · intro w hSw; (try dsimp only at hSw); go_simp; try with_reducible rfl
              try simp only [Act.put, List.setIfInBounds_toArray, List.set_cons_zero, List.set_cons_succ]
              refine take' (i := 41) (d := (some 110)) (v := ?_) rfl rfl (by kernel_rfl) (by kernel_rfl) (by kernel_rfl) (fun _ _ _ h => h) (Or.inl ⟨by rfl, ?_⟩) (by assumption) ?_
              rotate_left
              · intro w hSw; (try dsimp only at hSw); go_simp; try with_reducible rfl
              try simp only [Act.put, List.setIfInBounds_toArray, List.set_cons_zero, List.set_cons_succ]
              refine take' (i := 42) (d := (some 111)) (v := ?_) rfl rfl (by kernel_rfl) (by kernel_rfl) (by kernel_rfl) (fun _ _ _ h => h) (Or.inl ⟨by rfl, ?_⟩) (by assumption) ?_
              rotate_left
              · intro w hSw; (try dsimp only at hSw); go_simp; try with_reducible rfl
              try simp only [Act.put, List.setIfInBounds_toArray, List.set_cons_zero, List.set_cons_succ]
              refine take' (i := 43) (d := (some 112)) (v := ?_) rfl rfl (by kernel_rfl) (by kernel_rfl) (by kernel_rfl) (fun _ _ _ h => h) (Or.inl ⟨by rfl, ?_⟩) (by assumption) ?_
              rotate_left
              · intro w hSw; (try dsimp only at hSw); go_simp; try with_reducible rfl
              try simp only [Act.put, List.setIfInBounds_toArray, List.set_cons_zero, List.set_cons_succ]
              refine take' (i := 44) (d := (some 113)) (v := ?_) rfl rfl (by kernel_rfl) (by kernel_rfl) (by kernel_rfl) (fun _ _ _ h => h) (Or.inl ⟨by rfl, ?_⟩) (by assumption) ?_
              rotate_left
              · intro w hSw; (try dsimp only at hSw); go_simp; try with_reducible rfl
              try simp only [Act.put, List.setIfInBounds_toArray, List.set_cons_zero, List.set_cons_succ]
              refine take' (i := 46) (d := (some 115)) (v := ?_) rfl rfl (by kernel_rfl) (by kernel_rfl) (by kernel_rfl) (fun _ _ _ h => h) (Or.inl ⟨by rfl, ?_⟩) (by assumption) ?_
              rotate_left
              · intro w hSw; (try dsimp only at hSw); go_simp; try with_reducible rfl
              try simp only [Act.put, List.setIfInBounds_toArray, List.set_cons_zero, List.set_cons_succ]
              refine take' (i := 47) (d := (some 116)) (v := ?_) rfl rfl (by kernel_rfl) (by kernel_rfl) (by kernel_rfl) (fun _ _ _ h => h) (Or.inl ⟨by rfl, ?_⟩) (by assumption) ?_
              rotate_left
              · intro w hSw; (try dsimp only at hSw); go_simp; try with_reducible rfl
              try simp only [Act.put, List.setIfInBounds_toArray, List.set_cons_zero, List.set_cons_succ]
              refine wpAnyH_ready (rs := [45]) (by kernel_rfl) (by simp) ?_
              refine AllReadyH.cons (o := _) rfl (fun K hK => ?_) AllReadyH.nil
              go_simp
              with_reducible refine (err_i _ _).mono ?_
              rintro e w10 ⟨rfl, hb10⟩
              cases hb10
              go_wp2_with fail
              refine hK.out _ _ hHeld (fun hHeld => ?_)
              clear hK K
              try simp only [Act.put, List.setIfInBounds_toArray, List.set_cons_zero, List.set_cons_succ]
              refine take' (i := 48) (d := (some 117)) (v := ?_) rfl rfl (by kernel_rfl) (by kernel_rfl) (by kernel_rfl) (fun _ _ _ h => h) (Or.inl ⟨by rfl, ?_⟩) (by assumption) ?_
              rotate_left
              · intro w hSw; (try dsimp only at hSw); go_simp; try with_reducible rfl
              try simp only [Act.put, List.setIfInBounds_toArray, List.set_cons_zero, List.set_cons_succ]
              refine take' (i := 49) (d := (some 118)) (v := ?_) rfl rfl (by kernel_rfl) (by kernel_rfl) (by kernel_rfl) (fun _ _ _ h => h) (Or.inl ⟨by rfl, ?_⟩) (by assumption) ?_
              rotate_left
              · intro w hSw; (try dsimp only at hSw); go_simp; try with_reducible rfl
              try simp only [Act.put, List.setIfInBounds_toArray, List.set_cons_zero, List.set_cons_succ]
              refine take' (i := 50) (d := (some 119)) (v := ?_) rfl rfl (by kernel_rfl) (by kernel_rfl) (by kernel_rfl) (fun _ _ _ h => h) (Or.inl ⟨by rfl, ?_⟩) (by assumption) ?_
              rotate_left
              · intro w hSw; (try dsimp only at hSw); go_simp; try with_reducible rfl
              try simp only [Act.put, List.setIfInBounds_toArray, List.set_cons_zero, List.set_cons_succ]
              refine wpAnyH_ready (rs := [51]) (by kernel_rfl) (by simp) ?_
              refine AllReadyH.cons (o := _) rfl (fun K hK => ?_) AllReadyH.nil
              go_simp
              with_reducible refine (AW.out _).mono ?_
              rintro e w10 ⟨rfl, hb10⟩
              go_wp2_with fail
              refine hK.out _ _ (keep5 hp hq hHeld hb10) (fun hHeld => ?_)
              clear hK K
              try simp only [Act.put, List.setIfInBounds_toArray, List.set_cons_zero, List.set_cons_succ]
              refine take' (i := 52) (d := (some 121)) (v := ?_) rfl rfl (by kernel_rfl) (by kernel_rfl) (by kernel_rfl) (fun _ _ _ h => h) (Or.inl ⟨by rfl, ?_⟩) (by assumption) ?_
              rotate_left
              · intro w hSw; (try dsimp only at hSw); go_simp; try with_reducible rfl
              try simp only [Act.put, List.setIfInBounds_toArray, List.set_cons_zero, List.set_cons_succ]
              refine take' (i := 53) (d := (some 10)) (v := ?_) rfl rfl (by kernel_rfl) (by kernel_rfl) (by kernel_rfl) (fun _ _ _ h => h) (Or.inl ⟨by rfl, ?_⟩) (by assumption) ?_
              rotate_left
              · intro w hSw; (try dsimp only at hSw); go_simp; try with_reducible rfl
              try simp only [Act.put, List.setIfInBounds_toArray, List.set_cons_zero, List.set_cons_succ]
              refine wpAnyH_done (by kernel_rfl) ?_ _
              have HF := Hid.intro (B8.out.trans (hHeld.2.mono B8.out.size))
              clear hHeld
              go_wp2_with fail
              go_ret
              exact ⟨rfl, HF.out⟩
end Go.Proofs.Ytplalkhjjndffaa

namespace Go.Proofs.Ytplalkhjjndffaa.normAll
open Go.ChangeShapes Go.WideShapes Go.ChangeAt Go.RowKit
open Go.ChangeMaps (open_string shut_string)
set_option linter.unusedVariables false

theorem own : ownKnob Try.prog.godebug = none := by kernel_rfl
theorem laidOut : laidOutB Try.prog = true := by kernel_rfl

/-- WHAT THE WALK IS TOLD OF A SLICE OF INTEGERS THAT CAME IN: it is nil; or it leads to a row of 'cap' cells, the numbers 'zs' (the first 'len' are its elements, the rest its spare room), each fitting its kind. -/
def IsRow (k : IntKind) (w : World) (a : Option Addr) (len cap : Nat) (zs : List Int) : Prop :=
  (a = none ∧ len = 0 ∧ cap = 0 ∧ zs = []) ∨
  ∃ x, a = some x ∧ len ≤ cap ∧ cap ≤ maxLen ∧ zs.length = cap ∧ (∀ i, i < zs.length → w.cell? (x.add i) = some (.int k (zs.getD i 0))) ∧ ∀ n ∈ zs, (Lit.int k n).wf = true

theorem row_ri {w : World} {a : Option Addr} {len cap : Nat} {zs : List Int} (h : IsRow .i64 w a len cap zs) : len ≤ cap ∧ cap ≤ maxLen ∧ RI w a len (zs.take len) ∧ ∀ x ∈ zs.take len, x ≤ 9223372036854775807 := by
  rcases h with ⟨rfl, rfl, rfl, rfl⟩ | ⟨x, rfl, h1, h2, h3, h4, h5⟩
  · exact ⟨Nat.zero_le _, Nat.zero_le _, ⟨rfl, fun h => absurd h (by omega)⟩, by simp⟩
  · refine ⟨h1, h2, ⟨by rw [List.length_take]; omega, fun _ => ⟨x, rfl, fun i hi => ?_⟩⟩, fun y hy => (bounds_i64 (h5 y (List.mem_of_mem_take hy))).2⟩
    rw [List.length_take] at hi
    rw [h4 i (by omega), List.getD_eq_getElem?_getD, List.getElem?_eq_getElem (by omega), List.getElem_take]; rfl
theorem walk (a0 : Option Addr) (len0 cap0 : Nat) (z0 : List Int) (a1 : Option Addr) (len1 cap1 : Nat) (z1 : List Int) (a2 : Int) (a3 : ByteArray) (a4 : Int) (w : World) (w0 : IsRow .i64 w a0 len0 cap0 z0) (w1 : IsRow .i64 w a1 len1 cap1 z1) (w2 : (Lit.int .i64 a2).wf = true) (w3 : a3.size ≤ maxLen) (w4 : (Lit.int .i64 a4).wf = true) :
    Calls Try.prog 3 #[.slice a0 len0 cap0, .slice a1 len1 cap1, .int .i64 a2, .string a3, .int .i64 a4] w fun e w' => e = .returned (.bool true) ∧ Below w.heap.size w w' := by
  obtain ⟨h1, h2, h3, -⟩ := row_ri w0
  obtain ⟨k1, k2, k3, k4⟩ := row_ri w1
  simp only [maxLen] at h2 k2 w3
  exact all_walk a0 len0 cap0 (z0.take len0) a1 len1 cap1 (z1.take len1) a2 a3 a4 w h3 k3 k4 (by omega) k1 k2 w3

/-! ### THE ROW's STEP: WRITTEN OUT: LEAVE IT -/
set_option maxRecDepth 100000 in
theorem lifted (os : Os) (started : os.Started) (H : Type) (enc : TypeId × Value → H) :
    ReturnsInHanded {} Try.checked os 3 .any (Rows.normAllSpec.pre6 enc Try.prog Try.f3 Rows.normAllRow.domain false) (Rows.normAllSpec.post enc Try.prog Try.f3 false true false false) := by
  refine returnsInHanded_of_change (C := Try.checked) own started (by kernel_rfl) Try.func3
    (ChangeSpec.witness6 (enc := enc) (C := Try.checked) false ⟨#[], #[.slice none 0 0, .slice none 0 0, .int .i64 0, .string ByteArray.empty, .int .i64 0], []⟩ 8 (by kernel_rfl) (by kernel_rfl) (by kernel_rfl) (by kernel_rfl)) ?_
  intro W base args ds gs before hval0 hW hcnd _
  have hval : ∀ (j : Nat) t v, Try.f3.params[j]? = some t → args[j]? = some v → Value.okWide Try.prog W .any base t v := hval0
  have hW' := hW
  obtain ⟨p, q, hA0, hV, rfl, hfz, hnd⟩ := hW
  have hA : DataW.TrodAll enc Try.prog W 0 (fun _ => true) true Try.f3.params.toList args.toList ds p := hA0
  rw [Try.params3] at hA hval
  obtain ⟨v0, vs0, d0, ds0, p0, q0, hargs, rfl, rfl, h0, r0⟩ := trodAll_cons hA
  obtain ⟨v1, vs1, d1, ds1, p1, q1, rfl, rfl, rfl, h1, r1⟩ := trodAll_cons r0
  obtain ⟨v2, vs2, d2, ds2, p2, q2, rfl, rfl, rfl, h2, r2⟩ := trodAll_cons r1
  obtain ⟨v3, vs3, d3, ds3, p3, q3, rfl, rfl, rfl, h3, r3⟩ := trodAll_cons r2
  obtain ⟨v4, vs4, d4, ds4, p4, q4, rfl, rfl, rfl, h4, r4⟩ := trodAll_cons r3
  obtain ⟨rfl, rfl, rfl⟩ := trodAll_nil r4
  obtain rfl : args = #[v0, v1, v2, v3, v4] := by cases args; simp_all
  obtain ⟨rfl, rfl⟩ := trodVars_none hV
  obtain ⟨a0, len0, cap0, rfl⟩ := okWide_slice Try.underlying22 (hval 0 22 v0 rfl rfl)
  have k0 := h0
  have lt0 : ∀ x ∈ p0, x.block < W.heap.size := by obtain ⟨m, hm⟩ := k0; exact DataW.trod_lt m _ _ _ hm
  obtain ⟨z0, w0⟩ : ∃ zs, IsRow .i64 W a0 len0 cap0 zs := by
    obtain ⟨fuel, hf⟩ := h0
    rcases open_ints Try.underlying22 Try.underlying3 (by kernel_rfl) hf with ⟨hcs, _⟩ | ⟨x, l, c, zs, hcs, _, hl, hm, hz, _, hcell, hwz⟩
    · simp [Value.cells] at hcs
      obtain ⟨rfl, rfl, rfl⟩ := hcs
      exact ⟨[], .inl ⟨rfl, rfl, rfl, rfl⟩⟩
    · simp [Value.cells] at hcs
      obtain ⟨rfl, rfl, rfl⟩ := hcs
      exact ⟨zs, .inr ⟨_, rfl, hl, hm, by simpa using hz, hcell, hwz⟩⟩
  obtain ⟨a1, len1, cap1, rfl⟩ := okWide_slice Try.underlying22 (hval 1 22 v1 rfl rfl)
  have k1 := h1
  have lt1 : ∀ x ∈ p1, x.block < W.heap.size := by obtain ⟨m, hm⟩ := k1; exact DataW.trod_lt m _ _ _ hm
  obtain ⟨z1, w1⟩ : ∃ zs, IsRow .i64 W a1 len1 cap1 zs := by
    obtain ⟨fuel, hf⟩ := h1
    rcases open_ints Try.underlying22 Try.underlying3 (by kernel_rfl) hf with ⟨hcs, _⟩ | ⟨x, l, c, zs, hcs, _, hl, hm, hz, _, hcell, hwz⟩
    · simp [Value.cells] at hcs
      obtain ⟨rfl, rfl, rfl⟩ := hcs
      exact ⟨[], .inl ⟨rfl, rfl, rfl, rfl⟩⟩
    · simp [Value.cells] at hcs
      obtain ⟨rfl, rfl, rfl⟩ := hcs
      exact ⟨zs, .inr ⟨_, rfl, hl, hm, by simpa using hz, hcell, hwz⟩⟩
  obtain ⟨a2, rfl, rfl, rfl, w2⟩ := open_int Try.underlying3 (hval 2 3 v2 rfl rfl) h2
  obtain ⟨a3, rfl, rfl, rfl, w3⟩ := open_string Try.underlying9 (hval 3 9 v3 rfl rfl) h3
  obtain ⟨a4, rfl, rfl, rfl, w4⟩ := open_int Try.underlying3 (hval 4 3 v4 rfl rfl) h4
  clear hA0 hval0
  refine (walk a0 len0 cap0 z0 a1 len1 cap1 z1 a2 a3 a4 W w0 w1 w2 w3 w4).mono fun e W' ⟨he, bel⟩ => ?_
  subst he
  exact ⟨_, rfl, _, _, _, [], _, [], hW', trodAll_mk1 (shut_bool Try.underlying4 _), (trodAll_cons_mk (Below.trod laidOut (by kernel_rfl) (of_decide_eq_true (by kernel_rfl)) k0 bel lt0) (trodAll_cons_mk (Below.trod laidOut (by kernel_rfl) (of_decide_eq_true (by kernel_rfl)) k1 bel lt1) (trodAll_cons_mk (shut_int Try.underlying3 w2) (trodAll_cons_mk (shut_string Try.underlying9 w3) (trodAll_cons_mk (shut_int Try.underlying3 w4) trodAll_mk0))))), rfl, bel.frame _, fun h => by cases h⟩

theorem over : Rows.normAllRow.holds Try.pinned (OpenSpec.ofChange Rows.normAllSpec) :=
  OpenClaim.holds_of_wide 3 Try.f3 rfl rfl rfl rfl rfl rfl rfl ⟨rfl, rfl, rfl, rfl, rfl⟩ rfl rfl rfl rfl rfl (by kernel_rfl) Try.func3 (by kernel_rfl)
    (of_decide_eq_true (by kernel_rfl)) (by unfold Func.isWrapper; first | (rw [if_pos (by decide +kernel)]; kernel_rfl) | (rw [if_neg (by decide +kernel)]; exact ⟨rfl, rfl⟩))
    (fun os started H enc _ => lifted os started H enc)

/-- ████ THE STATEMENT ████ -/
theorem proved : Rows.NormAllSaid := over
end Go.Proofs.Ytplalkhjjndffaa.normAll

namespace Go.Proofs.Ytplalkhjjndffaa
theorem normAll_holds : Rows.NormAllSaid := normAll.proved
#print axioms normAll_holds
end Go.Proofs.Ytplalkhjjndffaa
