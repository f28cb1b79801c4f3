/-
  LensRuns: the walk.
-/
import Derived.Test.YthjokhfjfiaaiaaRu
import Derived.Test.YthjokhfjfiaaiaaRf
import Derived.Test.YthjokhfjfiaaiaaPush
namespace Go.Proofs.Ythjokhfjfiaaiaa
open Go.ChangeShapes Go.WideShapes Go.ChangeAt Go.RowKit
open Go.ChangeMaps (open_string shut_string)

def R1Rel (N : List Nat) (w : World) (nv iv : Value) (wr : World) : Prop :=
  ∃ i : Nat, i ≤ N.length ∧ iv = .int .i64 i ∧ wr.ownsRow 0 3 1 nv i (ni (N.take i)) ∧ From w.heap.size nv ∧ Below w.heap.size w wr
theorem ni_take_len (N : List Nat) (i : Nat) (h : i ≤ N.length) : (ni (N.take i)).length = i := by simp [ni, ivs]; omega
theorem ni_snoc (N : List Nat) (i : Nat) (h : i < N.length) : ni (N.take i) ++ [.int .i64 (at0 N i : Int)] = ni (N.take (i + 1)) := by
  rw [take_snoc N i h, ni_append, at0_of N i h]; rfl
theorem one_at (W : World) (v : Value) : ∀ j u, [v][j]? = some u → (W.alloc (.cells #[v] 3)).cell? ((⟨W.heap.size, 0, none⟩ : Addr).add j) = some u := by
  intro j u hj
  match j, hj with
  | 0, hj =>
    simp at hj; subst hj
    rw [Addr.add_lit, blk_cell (blk_new W #[v] 3)]; rfl
theorem two_new (W : World) (v v' : Value) : ∀ j u, [v, v'][j]? = some u → (W.alloc (.cells #[v, v'] 3)).cell? ((⟨W.heap.size, 0, none⟩ : Addr).add j) = some u := by
  intro j u hj
  rw [Addr.add_lit, blk_cell (blk_new W #[v, v'] 3)]
  match j, hj with
  | 0, hj => simpa using hj
  | 1, hj => simpa using hj
/-- What an append to a row of the call's own leaves. -/
theorem push_step {w wr w2 : World} {o : Obj} {nv v2 : Value} {n : Nat} {xs : List Value} (d2 : From w.heap.size nv) (d3 : Below w.heap.size w wr) (g1 : w2.ownsRow 0 3 1 v2 n xs) (g2 : (wr.alloc o).grownBy w2 nv.ownBlock) (g3 : Moved (wr.alloc o) nv v2) :
    w2.ownsRow 0 3 1 v2 n xs ∧ From w.heap.size v2 ∧ Below w.heap.size w w2 := by
  have d4 := d3.alloc d3.size o
  exact ⟨g1, from_moved d2 g3 d4.size, below_grown d4 g2 d4.size (fun k hk => d2 k hk)⟩
theorem ints_one (l : List Int) : ∀ u ∈ l.map (Value.int .i64), u.oneCell' = true := by
  intro u hu
  obtain ⟨z, _, rfl⟩ := List.mem_map.1 hu
  rfl
/-- Two rows of the call's own, apart from one another. -/
def Two (w : World) (nv : Value) (N : List Nat) (wv : Value) (acc : List Nat) (wr : World) : Prop :=
  wr.ownsRow 0 3 1 wv acc.length (ni acc) ∧ From w.heap.size wv ∧ wr.ownsRow 0 3 1 nv N.length (ni N) ∧ From w.heap.size nv ∧ (∀ k, nv.ownBlock = some k → wv.ownBlock ≠ some k) ∧ Below w.heap.size w wr
theorem two_step {w wr w2 : World} {o : Obj} {nv wv v2 : Value} {N acc zs : List Nat} {m : Nat} (h : Two w nv N wv acc wr) (hm : m = zs.length) (g1 : w2.ownsRow 0 3 1 v2 (acc.length + m) (ni acc ++ ni zs)) (g2 : (wr.alloc o).grownBy w2 wv.ownBlock) (g3 : Moved (wr.alloc o) wv v2) :
    Two w nv N v2 (acc ++ zs) w2 := by
  obtain ⟨h1, h2, h3, h4, h5, h6⟩ := h
  subst hm
  obtain ⟨k1, k2, k3⟩ := push_step h2 h6 g1 g2 g3
  have h3' := World.ownsRow.alloc h3 o
  refine ⟨by rw [List.length_append, ni_append]; exact k1, k2, ?_, h4, fun k hk e => ?_, k3⟩
  · refine own_kept (S := fun k => wv.ownBlock = some k) h3' (chg_grown (chg_refl _ _) g2 (fun k hk _ => hk)) (fun k hk => h5 k hk)
  · rcases g3 k e with h | h
    · exact h5 k hk h
    · have := (h3.lt k hk).2
      simp at h; omega
def R2Rel (T : List Nat) (nv : Value) (N : List Nat) (w : World) (wv iv : Value) (wr : World) : Prop :=
  ∃ (i : Int) (f : Nat) (acc : List Nat), -16 ≤ i ∧ i ≤ 64 ∧ iv = .int .i64 i ∧ i ≤ 16 * (f : Int) ∧ acc ++ runsF f i.toNat = T ∧ Two w nv N wv acc wr
theorem ni_two (y : Nat) : ni [0, y] = [.int .i64 0, .int .i64 (y : Int)] := rfl
theorem r2_next {T acc : List Nat} {f n y : Nat} (hn : 0 < n) (hy : y = min n 16 - 1) (hf : (n : Int) ≤ 16 * (f : Int)) (h : acc ++ runsF f (n : Int).toNat = T) : ∃ g : Nat, (n : Int) - 16 ≤ 16 * (g : Int) ∧ (acc ++ [0, y]) ++ runsF g ((n : Int) - 16).toNat = T := by
  obtain ⟨g, rfl⟩ : ∃ g, f = g + 1 := ⟨f - 1, by omega⟩
  refine ⟨g, by omega, ?_⟩
  rw [Int.toNat_natCast, runs_step g n hn] at h
  rw [← h, hy, show ((n : Int) - 16).toNat = n - 16 from by omega]
  simp
theorem r2_done {T acc : List Nat} {f : Nat} {i : Int} (hi : i ≤ 0) (h : acc ++ runsF f i.toNat = T) : acc = T := by
  rw [show i.toNat = 0 from by omega, runs_zero, List.append_nil] at h; exact h
def R4Rel (q : Nat) (w2 : World) (iv : Value) (wr : World) : Prop := ∃ j : Nat, j ≤ q ∧ iv = .int .i64 j ∧ Below w2.heap.size w2 wr
set_option maxRecDepth 100000 in
set_option maxHeartbeats 4000000 in
theorem runs_walk (a0 : Int) (h0 : 0 ≤ a0 ∧ a0 ≤ 255) (w : World) :
    Calls Try.prog 5 #[.int .u8 a0] w fun e w' => e = .returned (.bool true) ∧ Below w.heap.size w w' := by
  have mk := make_noughts 65 (by omega) w 65 rfl
  have om := own_made_ints w 3 65 (by omega)
  have b1 : Below w.heap.size w (w.alloc (.cells (madeCells #[.int .i64 0] 65) 3)) := (Below.refl _ _).alloc (Nat.le_refl _) _
  generalize w.alloc (.cells (madeCells #[.int .i64 0] 65) 3) = w1 at *
  obtain ⟨k, hk⟩ : ∃ k : Nat, a0 % 65 = (k : Int) := ⟨(a0 % 65).toNat, by omega⟩
  have hk65 : k < 65 := by omega
  have om1 : w1.ownsRow w.heap.size 3 1 (.slice (some ⟨w.heap.size, 0, none⟩) 65 65) 65 (ivs lZ) := om
  obtain ⟨S, hS⟩ : ∃ S, w.heap.size = S := ⟨_, rfl⟩
  obtain ⟨u, hu, fu⟩ := own_one om1 k hk65
  have om2 := own_set om1 k (.int .i64 1)
  rw [ivs_set] at om2
  have b2 : Below w.heap.size w (w1.setCell ⟨w.heap.size, k, none⟩ (.int .i64 1)) := b1.setCell (Nat.le_refl _) _
  have B2 := Hid.intro b2
  have P := lput_made om2
  have RP : Unit → nbs (putL (lZ.set k 1)) = runP k ∧ (putL (lZ.set k 1)).length ≤ 8 ∧ (runK k).length ≤ 16 := fun _ => runs_put k hk65
  have hP8 : (putL (lZ.set k 1)).length ≤ 8 := (RP ()).2.1
  have hps : (bs (putL (lZ.set k 1))).size ≤ 8 := by rw [size_bs]; exact hP8
  have RT : Unit → nbs (bs (putL (lZ.set k 1))).data.toList = runP k := fun _ => by rw [bs_data]; exact (RP ()).1
  have RL : Unit → (runP k).length = 2 * (bs (putL (lZ.set k 1))).size := fun _ => by rw [← RT (), nbs_len, len_data]
  have RK : Unit → (runK k).length ≤ 16 := fun _ => (RP ()).2.2
  generalize bs (putL (lZ.set k 1)) = s at *
  obtain ⟨N, hN⟩ : ∃ N, runP k = N := ⟨_, rfl⟩
  have HNK : Unit → runP k = N := fun _ => hN
  have NT : Hid (∀ i d p, i / 2 = d → i % 2 = p → ∀ (h : d < s.size) (z : Int), z = (s[d].toNat : Int) / 2 ^ (p * 4) → bits .and .i64 z 15 = (at0 N i : Int)) := fun i d p hd hp h z hz => by
    rw [nib_text s i d p hd hp h z hz, RT (), hN]
  have NL : Hid (N.length = 2 * s.size) := by show _ = _; rw [← hN, RL ()]
  have NB : Hid (∀ i, at0 N i < 16) := fun i => by
    by_cases h : i < N.length
    · rw [at0_of N i h]
      have := nbs_lt s.data.toList
      rw [RT (), hN] at this
      exact this _ (List.getElem_mem h)
    · rw [at0_out N i (by omega)]; omega
  clear om om1 om2 b1 b2 RP hP8 RT RL hN
  obtain ⟨i0, hi0, hz0, hz1, hz2⟩ := info_all info3
  simp only [hS] at hu fu mk P B2 ⊢
  have HS := Hid.intro hS
  clear hS
  go_enter Try.func5, Try.ntmps5
  go_wp2_with fail
  with_reducible refine P.mono ?_
  rintro e w3 ⟨rfl, c3⟩
  have B3 : Hid (Below w.heap.size w w3) := by
    have h2 := B2.out; rw [← HS.out] at h2
    have h3 := c3; rw [← HS.out] at h3
    exact h2.trans (h3.mono h2.size)
  clear P c3 B2 mk hu fu
  go_wp2_with fail
  go_loopw [6, 7] (fun nv iv wr => R1Rel N w nv iv wr) (fun _ iv _ => 2 * s.size - (intOf iv).toNat)
  case atStart => exact ⟨0, by omega, rfl, World.ownsRow_nil _ _ _ _, fun j hj => by simp [Value.ownBlock] at hj, B3.out⟩
  case round =>
    clear B3
    obtain ⟨i, hi, rfl, d1, d2, d3⟩ := hrel
    have hnl := NL.out
    rw [hnl] at hi
    by_cases hlt : i < 2 * s.size
    · obtain ⟨d, hd⟩ : ∃ d, i / 2 = d := ⟨_, rfl⟩
      obtain ⟨p, hp⟩ : ∃ p, i % 2 = p := ⟨_, rfl⟩
      have e1 : (i : Int) / 2 = (d : Int) := by omega
      have e2 : (i : Int) % 2 = (p : Int) := by omega
      have hds : d < s.size := by omega
      have hp2 : p < 2 := by omega
      have hlt2 : (i : Int) < 2 * (s.size : Int) := by omega
      have nt := NT.out i d p hd hp hds _ rfl
      obtain ⟨y, hy⟩ : ∃ y, s[d].toNat = y := ⟨_, rfl⟩
      have hy256 : y < 256 := by rw [← hy]; exact UInt8.toNat_lt _
      rw [hy] at nt
      have hx16 : at0 N i < 16 := NB.out i
      have SN := Hid.intro (ni_snoc N i (by rw [hnl]; exact hlt))
      generalize at0 N i = x at *
      clear hd hp hnl
      go_wp2_with (first | (at_builtin; refine wpList_push _ rfl (.tmp 35) (.tmp 46) 22 rfl 3 i0 (.int .i64 0) 1 8 Try.underlying22 hi0 hz0 hz1 hz2 rfl (by decide) (by decide) _ i (ni (N.take i)) rfl (World.ownsRow.alloc d1 _) ⟨wr.heap.size, 0, none⟩ 1 1 [.int .i64 (x : Int)] rfl rfl (one_at _ _) (ints_one [(x : Int)]) (by omega) ?_) | go_in)
      intro v2 w2 g1 g2 g3
      rw [SN.out] at g1
      have G := Hid.intro (push_step d2 d3 g1 g2 g3)
      clear g1 g2 g3 d1 d2 d3 SN nt
      go_wp2_with fail
      go_roundw
      case rel => exact ⟨i + 1, by rw [NL.out]; omega, by go_num, G.out⟩
      case measure => simp [intOf]; omega
    · have hiN : i = N.length := by omega
      have hge : 2 * (s.size : Int) ≤ (i : Int) := by omega
      rw [hiN, List.take_of_length_le (Nat.le_refl _)] at d1
      clear hi hnl hlt hiN
      have D1 := Hid.intro d1
      have D2 := Hid.intro d2
      have D3 := Hid.intro d3
      clear d1 d2 d3
      have ST2 : Unit → R2Rel (runsF 5 k) u6 N w (.slice none 0 0) (.int .i64 (k : Int)) wr := fun _ => ⟨k, 5, [], by omega, by omega, rfl, by omega, by simp, World.ownsRow_nil _ _ _ _, fun j hj => by simp [Value.ownBlock] at hj, D1.out, D2.out, fun j hj e => by simp [Value.ownBlock] at e, D3.out⟩
      have T1L : Unit → (runsF 5 k).length ≤ 16 := fun _ => by have := RK (); unfold runK at this; simp at this; omega
      have TK : Unit → (runsF 5 k ++ [1]) ++ runsF 5 ((64 : Int) - (k : Int)).toNat = runK k := fun _ => by rw [show ((64 : Int) - (k : Int)).toNat = 64 - k from by omega]; rfl
      have HNK2 : Unit → N = runK k ++ (if (runK k).length % 2 = 1 then [0] else []) := fun _ => by rw [← HNK ()]; rfl
      obtain ⟨T1, hT1⟩ : ∃ T1, runsF 5 k = T1 := ⟨_, rfl⟩
      obtain ⟨T2, hT2⟩ : ∃ T2, runK k = T2 := ⟨_, rfl⟩
      rw [hT1] at ST2 T1L TK
      rw [hT2] at TK HNK2 RK
      clear hT1 hT2 D1 D2 D3 HNK
      go_wp2_with fail
      go_loopw [8, 9] (fun wv iv wr => R2Rel T1 u6 N w wv iv wr) (fun _ iv _ => (intOf iv).toNat)
      case atStart => exact ST2 ()
      case round =>
        clear ST2
        obtain ⟨i, f, acc, i1, i2, rfl, i3, i4, TW⟩ := hrel
        by_cases hpos : 0 < i
        · obtain ⟨n, rfl⟩ : ∃ n : Nat, i = (n : Int) := ⟨i.toNat, by omega⟩
          have al : acc.length ≤ 16 := by have := T1L (); rw [← i4] at this; simp at this; omega
          have hown := TW.1
          have HTW := Hid.intro TW
          have hn : 0 < n := by omega
          by_cases h16 : 16 < n
          · obtain ⟨g, q1, q2⟩ := r2_next hn (show 15 = min n 16 - 1 by omega) i3 i4
            have Q2 : Unit → (acc ++ [0, 15]) ++ runsF g ((n : Int) - 16).toNat = T1 := fun _ => q2
            have HQ1 := Hid.intro q1
            clear i3 i4 q1 q2 TW hpos
            go_wp2_with (first | (at_builtin; refine wpList_push _ rfl (.tmp 53) (.tmp 57) 22 rfl 3 i0 (.int .i64 0) 1 8 Try.underlying22 hi0 hz0 hz1 hz2 rfl (by decide) (by decide) _ acc.length (ni acc) rfl (World.ownsRow.alloc hown _) ⟨wr.heap.size, 0, none⟩ 2 2 [.int .i64 0, .int .i64 15] rfl rfl (two_new _ _ _) (ints_one [0, 15]) (by omega) ?_) | go_in)
            intro v2 w2 g1 g2 g3
            have G := Hid.intro (two_step (zs := [0, 15]) HTW.out rfl g1 g2 g3)
            clear g1 g2 g3 hown HTW
            go_wp2_with fail
            go_roundw
            case rel => exact ⟨(n : Int) - 16, g, _, by omega, by omega, by go_num, HQ1.out, Q2 (), G.out⟩
            case measure => simp [intOf]; omega
          · obtain ⟨y, hy⟩ : ∃ y : Nat, (n : Int) - 1 = (y : Int) := ⟨n - 1, by omega⟩
            obtain ⟨g, q1, q2⟩ := r2_next hn (show y = min n 16 - 1 by omega) i3 i4
            have Q2 : Unit → (acc ++ [0, y]) ++ runsF g ((n : Int) - 16).toNat = T1 := fun _ => q2
            have HQ1 := Hid.intro q1
            clear i3 i4 q1 q2 TW hpos
            go_wp2_with (first | (at_builtin; refine wpList_push _ rfl (.tmp 53) (.tmp 57) 22 rfl 3 i0 (.int .i64 0) 1 8 Try.underlying22 hi0 hz0 hz1 hz2 rfl (by decide) (by decide) _ acc.length (ni acc) rfl (World.ownsRow.alloc hown _) ⟨wr.heap.size, 0, none⟩ 2 2 [.int .i64 0, .int .i64 (y : Int)] rfl rfl (two_new _ _ _) (ints_one [0, (y : Int)]) (by omega) ?_) | go_in)
            intro v2 w2 g1 g2 g3
            have G := Hid.intro (two_step (zs := [0, y]) HTW.out rfl g1 g2 g3)
            clear g1 g2 g3 hown HTW
            go_wp2_with fail
            go_roundw
            case rel => exact ⟨(n : Int) - 16, g, _, by omega, by omega, by go_num, HQ1.out, Q2 (), G.out⟩
            case measure => simp [intOf]; omega
        · have ea := r2_done (by omega) i4
          subst ea
          have al : acc.length ≤ 16 := T1L ()
          have hown := TW.1
          have HTW := Hid.intro TW
          clear i3 i4 TW T1L
          go_wp2_with (first | (at_builtin; refine wpList_push _ rfl (.tmp 59) (.tmp 60) 22 rfl 3 i0 (.int .i64 0) 1 8 Try.underlying22 hi0 hz0 hz1 hz2 rfl (by decide) (by decide) _ acc.length (ni acc) rfl (World.ownsRow.alloc hown _) ⟨wr.heap.size, 0, none⟩ 1 1 [.int .i64 1] rfl rfl (one_at _ _) (ints_one [1]) (by omega) ?_) | go_in)
          intro v2 w2 g1 g2 g3
          have G := Hid.intro (two_step (zs := [1]) HTW.out rfl g1 g2 g3)
          clear g1 g2 g3 hown HTW
          have ST3 : Unit → R2Rel T2 u6 N w v2 (.int .i64 ((64 : Int) - (k : Int))) w2 := fun _ => ⟨(64 : Int) - (k : Int), 5, _, by omega, by omega, rfl, by omega, TK (), G.out⟩
          clear G TK
          go_wp2_with fail
          go_loopw [8, 10] (fun wv iv wr => R2Rel T2 u6 N w wv iv wr) (fun _ iv _ => (intOf iv).toNat)
          case atStart => exact ST3 ()
          case round =>
            clear ST3
            obtain ⟨i', f, acc, i1, i2, rfl, i3, i4, TW⟩ := hrel
            by_cases hpos' : 0 < i'
            · obtain ⟨n, rfl⟩ : ∃ n : Nat, i' = (n : Int) := ⟨i'.toNat, by omega⟩
              have al : acc.length ≤ 16 := by have := RK (); rw [← i4] at this; simp at this; omega
              have hown := TW.1
              have HTW := Hid.intro TW
              have hn : 0 < n := by omega
              by_cases h16 : 16 < n
              · obtain ⟨g, q1, q2⟩ := r2_next hn (show 15 = min n 16 - 1 by omega) i3 i4
                have Q2 : Unit → (acc ++ [0, 15]) ++ runsF g ((n : Int) - 16).toNat = T2 := fun _ => q2
                have HQ1 := Hid.intro q1
                clear i3 i4 q1 q2 TW hpos'
                go_wp2_with (first | (at_builtin; refine wpList_push _ rfl (.tmp 68) (.tmp 72) 22 rfl 3 i0 (.int .i64 0) 1 8 Try.underlying22 hi0 hz0 hz1 hz2 rfl (by decide) (by decide) _ acc.length (ni acc) rfl (World.ownsRow.alloc hown _) ⟨wr.heap.size, 0, none⟩ 2 2 [.int .i64 0, .int .i64 15] rfl rfl (two_new _ _ _) (ints_one [0, 15]) (by omega) ?_) | go_in)
                intro v2 w2 g1 g2 g3
                have G := Hid.intro (two_step (zs := [0, 15]) HTW.out rfl g1 g2 g3)
                clear g1 g2 g3 hown HTW
                go_wp2_with fail
                go_roundw
                case rel => exact ⟨(n : Int) - 16, g, _, by omega, by omega, by go_num, HQ1.out, Q2 (), G.out⟩
                case measure => simp [intOf]; omega
              · obtain ⟨y, hy⟩ : ∃ y : Nat, (n : Int) - 1 = (y : Int) := ⟨n - 1, by omega⟩
                obtain ⟨g, q1, q2⟩ := r2_next hn (show y = min n 16 - 1 by omega) i3 i4
                have Q2 : Unit → (acc ++ [0, y]) ++ runsF g ((n : Int) - 16).toNat = T2 := fun _ => q2
                have HQ1 := Hid.intro q1
                clear i3 i4 q1 q2 TW hpos'
                go_wp2_with (first | (at_builtin; refine wpList_push _ rfl (.tmp 68) (.tmp 72) 22 rfl 3 i0 (.int .i64 0) 1 8 Try.underlying22 hi0 hz0 hz1 hz2 rfl (by decide) (by decide) _ acc.length (ni acc) rfl (World.ownsRow.alloc hown _) ⟨wr.heap.size, 0, none⟩ 2 2 [.int .i64 0, .int .i64 (y : Int)] rfl rfl (two_new _ _ _) (ints_one [0, (y : Int)]) (by omega) ?_) | go_in)
                intro v2 w2 g1 g2 g3
                have G := Hid.intro (two_step (zs := [0, y]) HTW.out rfl g1 g2 g3)
                clear g1 g2 g3 hown HTW
                go_wp2_with fail
                go_roundw
                case rel => exact ⟨(n : Int) - 16, g, _, by omega, by omega, by go_num, HQ1.out, Q2 (), G.out⟩
                case measure => simp [intOf]; omega
            · have ea := r2_done (by omega) i4
              subst ea
              obtain ⟨wr0, hwr0⟩ : ∃ wr0, wr0 = wr := ⟨_, rfl⟩
              subst hwr0
              have HTW := Hid.intro TW
              obtain ⟨wa, wc, hwv, -, -, -⟩ := own_ri (zs := acc.map Int.ofNat) TW.1
              obtain ⟨q, hq⟩ : ∃ q, acc.length = q := ⟨_, rfl⟩
              have al : q ≤ 16 := by rw [← hq]; exact RK ()
              rw [hq] at hwv
              subst hwv
              have HQ := Hid.intro hq
              clear i3 i4 TW hq
              by_cases hodd : q % 2 = 1
              · have ho : (q : Int) % 2 = 1 := by omega
                have EN : Unit → N = acc ++ [0] := fun _ => by rw [HNK2 (), HQ.out, if_pos hodd]
                have hown : wr0.ownsRow 0 3 1 (.slice wa q wc) q (ni acc) := by have := HTW.out.1; rw [HQ.out] at this; exact this
                clear hodd HNK2
                go_wp2_with (first | (at_builtin; refine wpList_push _ rfl (.tmp 78) (.tmp 79) 22 rfl 3 i0 (.int .i64 0) 1 8 Try.underlying22 hi0 hz0 hz1 hz2 rfl (by decide) (by decide) _ q (ni acc) rfl (World.ownsRow.alloc hown _) ⟨wr0.heap.size, 0, none⟩ 1 1 [.int .i64 0] rfl rfl (one_at _ _) (ints_one [0]) (by omega) ?_) | go_in)
                intro v2 w2 g1 g2 g3
                have G : Hid (Two w u6 N v2 (acc ++ [0]) w2) := two_step (zs := [0]) HTW.out rfl (by rw [HQ.out]; exact g1) g2 g3
                clear g1 g2 g3 hown HTW
                have TW2 : Two w u6 N v2 N w2 := (by have := G.out; rw [← EN ()] at this; exact this)
                have r1 := own_ri (zs := N.map Int.ofNat) TW2.2.2.1
                have r2 := own_ri (zs := N.map Int.ofNat) TW2.1
                have HB := Hid.intro TW2.2.2.2.2.2
                have NFR : Hid (∀ j (h : j < N.length), (N.map Int.ofNat)[j]'(by simpa using h) = (N[j] : Int)) := fun j h => by simp
                have hN20 : N.length ≤ 20 := by have := NL.out; omega
                obtain ⟨q2, hq2⟩ : ∃ q2, N.length = q2 := ⟨_, rfl⟩
                rw [hq2] at r1 r2
                obtain ⟨na, nc, rfl, -, -, rn⟩ := r1
                obtain ⟨va, vc, rfl, -, -, rv⟩ := r2
                have RN := Hid.intro rn
                have RV := Hid.intro rv
                have hq20 : q2 ≤ 20 := by rw [← hq2]; exact hN20
                have t0 : ((q2 : Int) == (q2 : Int)) = true := by simp
                have HQ2 := Hid.intro hq2
                clear TW2 rn rv hq2 hN20 NFR
                clear G EN
                go_wp2_with fail
                go_loopw [11] (fun iv wr => R4Rel q2 w2 iv wr) (fun iv _ => q2 - (intOf iv).toNat)
                case atStart => exact ⟨0, by omega, rfl, Below.refl _ _⟩
                case round =>
                  obtain ⟨j, hj, rfl, e3⟩ := hrel
                  by_cases hjl : j < q2
                  · obtain ⟨xn, rfl, cn⟩ := ri_at (ri_below RN.out e3) j hjl
                    obtain ⟨xv, rfl, cv⟩ := ri_at (ri_below RV.out e3) j hjl
                    have B1 : Hid (∀ k, Below (World.heap w2).size w2 (wr.drewN k)) := fun k => below_drewN e3 k
                    generalize fr (N.map Int.ofNat) j = z at *
                    have t1 : (z == z) = true := by simp
                    have t2 : (z != z) = false := by simp
                    clear e3
                    go_wp2_with fail
                    go_quiet (fail)
                    clear t1 t2
                    go_wp2_with fail
                    go_roundw
                    case rel => exact ⟨j + 1, by omega, by go_num, B1.out nq⟩
                    case measure => simp [intOf]; omega
                  · have B4 : Hid (Below w.heap.size w wr) := HB.out.trans (e3.mono HB.out.size)
                    clear e3 RN RV HB
                    have hsz : s.size ≤ 100000 := by omega
                    have ga : getA s.data.toList ((s.size : Int) + 1) = (1, [], 0) := getA_arg _ _ (.inr (by rw [len_data]; omega))
                    go_wp2_with fail
                    with_reducible refine (lget_err ⟨#[0, 0, 224, 240, 240, 240]⟩ 0 w wr B4.out (by decide) 3 runs_odd).mono ?_
                    rintro e w5 ⟨a5, n5, cap5, rfl, -, b5⟩
                    have B5 := Hid.intro b5
                    clear B4 b5
                    go_wp2_with fail
                    with_reducible refine (lget_err s ((s.size : Int) + 1) w w5 B5.out hsz 1 ga).mono ?_
                    rintro e w6 ⟨a6, n6, cap6, rfl, -, b6⟩
                    have B6 := Hid.intro b6
                    clear B5 b6 ga
                    have E3 := err_any 3 w6
                    have E1 := err_any 1 w6
                    have AW := awake_own B6.out
                    go_wp2_with fail
                    refine E3.mono ?_
                    rintro e w8 ⟨rfl, rfl⟩
                    go_wp2_with fail
                    refine E1.mono ?_
                    rintro e w8 ⟨rfl, rfl⟩
                    go_wp2_with fail
                    with_reducible refine AW.mono ?_
                    rintro e w9 ⟨rfl, b9⟩
                    clear E3 E1 AW
                    go_wp2_with fail
                    go_ret
                    exact ⟨rfl, by have := HS.out; rw [← this]; exact b9⟩
              · have ho : (q : Int) % 2 = 0 := by omega
                have EN : Unit → N = acc := fun _ => by rw [HNK2 (), HQ.out, if_neg hodd, List.append_nil]
                clear hodd HNK2
                have TW2 : Two w u6 N (.slice wa q wc) N wr0 := (by have := HTW.out; rw [← EN ()] at this; exact this)
                have r1 := own_ri (zs := N.map Int.ofNat) TW2.2.2.1
                have r2 := own_ri (zs := N.map Int.ofNat) TW2.1
                have HB := Hid.intro TW2.2.2.2.2.2
                have NFR : Hid (∀ j (h : j < N.length), (N.map Int.ofNat)[j]'(by simpa using h) = (N[j] : Int)) := fun j h => by simp
                have hN20 : N.length ≤ 20 := by have := NL.out; omega
                obtain ⟨q2, hq2⟩ : ∃ q2, N.length = q2 := ⟨_, rfl⟩
                rw [hq2] at r1 r2
                obtain ⟨na, nc, rfl, -, -, rn⟩ := r1
                obtain ⟨va, vc, hve, -, -, rv⟩ := r2
                injection hve with v1 v2 v3
                subst v1 v3
                have v2' := v2.symm
                clear v2
                subst v2'
                have RN := Hid.intro rn
                have RV := Hid.intro rv
                have hq20 : q2 ≤ 20 := by rw [← hq2]; exact hN20
                have t0 : ((q2 : Int) == (q2 : Int)) = true := by simp
                have HQ2 := Hid.intro hq2
                clear TW2 rn rv hq2 hN20 NFR
                clear HTW EN
                go_wp2_with fail
                go_loopw [11] (fun iv wr => R4Rel q2 wr0 iv wr) (fun iv _ => q2 - (intOf iv).toNat)
                case atStart => exact ⟨0, by omega, rfl, Below.refl _ _⟩
                case round =>
                  obtain ⟨j, hj, rfl, e3⟩ := hrel
                  by_cases hjl : j < q2
                  · obtain ⟨xn, rfl, cn⟩ := ri_at (ri_below RN.out e3) j hjl
                    obtain ⟨xv, rfl, cv⟩ := ri_at (ri_below RV.out e3) j hjl
                    have B1 : Hid (∀ k, Below (World.heap wr0).size wr0 (wr.drewN k)) := fun k => below_drewN e3 k
                    generalize fr (N.map Int.ofNat) j = z at *
                    have t1 : (z == z) = true := by simp
                    have t2 : (z != z) = false := by simp
                    clear e3
                    go_wp2_with fail
                    go_quiet (fail)
                    clear t1 t2
                    go_wp2_with fail
                    go_roundw
                    case rel => exact ⟨j + 1, by omega, by go_num, B1.out nq⟩
                    case measure => simp [intOf]; omega
                  · have B4 : Hid (Below w.heap.size w wr) := HB.out.trans (e3.mono HB.out.size)
                    clear e3 RN RV HB
                    have hsz : s.size ≤ 100000 := by omega
                    have ga : getA s.data.toList ((s.size : Int) + 1) = (1, [], 0) := getA_arg _ _ (.inr (by rw [len_data]; omega))
                    go_wp2_with fail
                    with_reducible refine (lget_err ⟨#[0, 0, 224, 240, 240, 240]⟩ 0 w wr B4.out (by decide) 3 runs_odd).mono ?_
                    rintro e w5 ⟨a5, n5, cap5, rfl, -, b5⟩
                    have B5 := Hid.intro b5
                    clear B4 b5
                    go_wp2_with fail
                    with_reducible refine (lget_err s ((s.size : Int) + 1) w w5 B5.out hsz 1 ga).mono ?_
                    rintro e w6 ⟨a6, n6, cap6, rfl, -, b6⟩
                    have B6 := Hid.intro b6
                    clear B5 b6 ga
                    have E3 := err_any 3 w6
                    have E1 := err_any 1 w6
                    have AW := awake_own B6.out
                    go_wp2_with fail
                    refine E3.mono ?_
                    rintro e w8 ⟨rfl, rfl⟩
                    go_wp2_with fail
                    refine E1.mono ?_
                    rintro e w8 ⟨rfl, rfl⟩
                    go_wp2_with fail
                    with_reducible refine AW.mono ?_
                    rintro e w9 ⟨rfl, b9⟩
                    clear E3 E1 AW
                    go_wp2_with fail
                    go_ret
                    exact ⟨rfl, by have := HS.out; rw [← this]; exact b9⟩
end Go.Proofs.Ythjokhfjfiaaiaa
