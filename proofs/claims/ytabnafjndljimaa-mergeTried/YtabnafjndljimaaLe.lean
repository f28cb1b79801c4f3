/-
  Lengths: of whatever frequencies and limit, or the error.
-/
import Derived.Test.YtabnafjndljimaaMy
namespace Go.Proofs.Ytabnafjndljimaa
open Go.ChangeShapes Go.WideShapes Go.ChangeAt Go.RowKit
open Go.ChangeMaps (open_string shut_string)

theorem chg_cell {S : Nat → Prop} {W W' : World} {p : Addr} (c : Chg S W W') (hp : ¬ S p.block) (hlt : p.block < W.heap.size) : W'.cell? p = W.cell? p := by
  have h := c.2.2.2.2 p.block hlt hp
  simp [World.cell?, h]
def LeRel (o r : List Nat) (S : Nat) (w3 : World) (sv : Value) (wr : World) : Prop :=
  ∃ i : Nat, i ≤ o.length ∧ sv = .int .i64 i ∧ wr.ownsRow 0 3 1 (.slice (some ⟨S, 0, none⟩) 65 65) 65 (ni (put (o.take i) (r.take i))) ∧ Chg (· = S) w3 wr
set_option maxRecDepth 100000 in
set_option maxHeartbeats 2000000 in
theorem lengths_yes (a : Option Addr) (cap : Nat) (f : List Int) (limit : Nat) (w : World) (h : RI w a 65 f) (hm : mayB f 65 (limit : Int) = true) :
    Calls Try.prog 10 #[.slice a 65 cap, .int .i64 (limit : Int)] w fun e w' => ∃ v o r, e = .returned (.tuple #[v, .int .i64 0]) ∧ Ordered f 65 o ∧ Ranks f limit o r ∧ w'.ownsRow w.heap.size 3 1 v 65 (ni (put o r)) ∧ Below w.heap.size w w' := by
  have MY := may_any a 65 cap f limit w h (by omega)
  rw [hm] at MY
  obtain ⟨_, hfb, h7, h15⟩ := mayB_facts hm
  have hl := h.1
  have mk := make_ints 22 3 Try.underlying22 info3 65 (by omega) w
  have om := own_made_ints w 3 65 (by omega)
  have b1 : Below w.heap.size w (w.alloc (.cells (madeCells #[.int .i64 0] 65) 3)) := (Below.refl _ _).alloc (Nat.le_refl _) _
  have OR := order_any a 65 cap f _ (ri_below h b1) (fun z hz => by have := hfb z hz; omega) (by omega)
  have bz : (w.alloc (.cells (madeCells #[.int .i64 0] 65) 3)).heap.size = w.heap.size + 1 := by simp
  rw [show ((65 : Nat) : Int) = 65 from rfl] at mk
  generalize w.alloc (.cells (madeCells #[.int .i64 0] 65) 3) = w1 at *
  have HH := Hid.intro (And.intro h (And.intro om (And.intro b1 bz)))
  have HFB := Hid.intro hfb
  have HL := Hid.intro hl
  clear h om b1 bz hfb hl hm
  go_enter Try.func10, Try.ntmps10
  go_wp2_with fail
  with_reducible refine MY.mono ?_
  rintro e w0 ⟨rfl, rfl⟩
  clear MY
  go_wp2_with fail
  with_reducible refine OR.mono ?_
  rintro e w2 ⟨ov, o, rfl, k1, k2, k3⟩
  clear OR mk
  obtain ⟨h, om, b1, bz⟩ := HH.out
  rw [bz] at k2 k3
  have b2 : Below w0.heap.size w0 w2 := b1.trans (k3.mono (by omega))
  obtain ⟨ao, co, hov⟩ : ∃ ao co, ov = .slice ao o.length co := by
    rcases k2.2 with ⟨hv, h0⟩ | ⟨g9, c9, cur, hv, _⟩
    · exact ⟨none, 0, by rw [hv, h0]⟩
    · exact ⟨_, c9, hv⟩
  subst hov
  have hol := ordered_len k1
  have RA := ranked_any a cap f ao o.length co limit o w2 (by rw [HL.out]; exact ri_below h b2) HFB.out (by rw [HL.out]; exact k1) rfl HL.out (own_low k2 (Nat.zero_le _)) (by omega) (by omega)
  rw [HL.out] at RA
  have HO := Hid.intro (And.intro k1 (And.intro k2 (And.intro k3 b2)))
  clear k1 k2 k3 b2 h om b1 bz
  go_wp2_with fail
  with_reducible refine RA.mono ?_
  rintro e w3 ⟨a3, c3, r, rfl, m1, m4, m2, m3⟩
  obtain ⟨k1, k2, k3, b2⟩ := HO.out
  obtain ⟨h, om, b1, bz⟩ := HH.out
  have szl : w0.heap.size + 1 ≤ w2.heap.size := by have := k3.size; rw [bz] at this; exact this
  have om3 := own_low (own_below (own_below om k3 (fun k hk => by simp [Value.ownBlock] at hk; omega)) m3 (fun k hk => by simp [Value.ownBlock] at hk; omega)) (Nat.zero_le w0.heap.size)
  have k23 := own_later k2 m3
  have b3 : Below w0.heap.size w0 w3 := b2.trans (m3.mono b2.size)
  have z0 : ivs (List.replicate 65 0) = ni (List.replicate 65 0) := by simp [ni]
  rw [z0] at om3
  have m4' : 0 < o.length → ∀ x, a3 = some x → w0.heap.size < x.block := fun h0 x hx => by have := m4 h0 x hx; omega
  have HA := Hid.intro (And.intro k1 (And.intro m1 (And.intro m2 (And.intro b3 (And.intro k23 m4')))))
  have ST := Hid.intro om3
  have rl := m2.1
  clear RA HO HH k1 k2 k3 b2 h om b1 bz m1 m2 m3 om3 k23 b3 z0 m4 m4'
  go_wp2_with fail
  obtain ⟨S, hS⟩ : ∃ S, w0.heap.size = S := ⟨_, rfl⟩
  simp only [hS] at ST ⊢
  have HS := Hid.intro hS
  clear hS
  go_loopw [22] (fun sv wr => LeRel o r S w3 sv wr) (fun sv _ => o.length - (intOf sv).toNat)
  case atStart => exact ⟨0, by omega, rfl, ST.out, chg_refl _ _⟩
  case round =>
    clear ST
    obtain ⟨i, hi, rfl, d1, d2⟩ := hrel
    obtain ⟨k1, m1, m2, b3, k23, m4⟩ := HA.out
    have hSS := HS.out
    by_cases hlt : i < o.length
    · have hlr : i < r.length := by omega
      have omm := (ordered_mem k1 (g o i)).1 (g_mem o i hlt)
      rw [g_eq o i hlt] at omm
      obtain ⟨x, hx, hxc⟩ := m1.2 (by omega)
      subst hx
      obtain ⟨bo, co', hvo⟩ := own_slice k23 (by omega)
      injection hvo with hvo _ _
      subst hvo
      have hbo := k23.lt bo rfl
      have co1 : w3.cell? ⟨bo, i, none⟩ = some (.int .i64 (o[i] : Int)) := by rw [(own_there k23 i (by omega)).1]; simp [nis, ivs, iv, hlt]
      have co2 : wr.cell? ⟨bo, i, none⟩ = some (.int .i64 (o[i] : Int)) := by
        rw [chg_cell d2 (p := ⟨bo, i, none⟩) (by show ¬ bo = S; omega) hbo.2]; exact co1
      have hxi : i < (r.map Int.ofNat).length := by simpa using hlr
      have cx0 := hxc i hxi
      have mx := m4 (by omega) x rfl
      have cx1 : wr.cell? (x.add i) = some (.int .i64 (r[i] : Int)) := by
        have e : (x.add i).block = x.block := by cases x; simp [Addr.add]; split <;> rfl
        rw [chg_cell d2 (by rw [e]; omega) (World.block_lt_of_cell? _ _ cx0), cx0]; simp
      have o1 := own_set d1 o[i] (.int .i64 (r[i] : Int))
      rw [ni_set, ← put_step o r i hlt hlr] at o1
      have c1 : Chg (· = S) w3 (wr.setCell ⟨S, o[i], none⟩ (.int .i64 (r[i] : Int))) := chg_in d2 _ _
      have R := Hid.intro (And.intro o1 c1)
      obtain ⟨cs0, cs1, cs2⟩ := own_there d1 o[i] (by omega)
      obtain ⟨u, hu⟩ := Option.isSome_iff_exists.1 cs1
      have o65 : o[i] < 65 := omm.1
      generalize o[i] = p at *
      generalize r[i] = q at *
      clear d1 d2 k1 m1 m2 b3 k23 m4 omm hxc hbo co1 hxi cx0 mx o1 c1 cs0 cs1 rl hlr
      go_wp2_with fail
      go_roundw
      case rel => exact ⟨i + 1, by omega, by go_num, R.out.1, R.out.2⟩
      case measure => simp [intOf]; omega
    · obtain rfl : i = o.length := by omega
      rw [List.take_of_length_le (Nat.le_refl _), List.take_of_length_le (by omega)] at d1
      have R := Hid.intro (And.intro k1 (And.intro m2 (And.intro (own_up (B := w0.heap.size) d1 (fun k hk => by simp [Value.ownBlock] at hk; omega)) (b3.trans (chg_below d2 b3.size (fun k hk => by omega))))))
      clear d1 d2 k1 m1 m2 b3 k23 m4
      go_wp2_with fail
      go_ret2
      exact ⟨_, o, r, rfl, R.out.1, R.out.2.1, R.out.2.2.1, R.out.2.2.2⟩
set_option maxRecDepth 100000 in
set_option maxHeartbeats 1000000 in
theorem lengths_no (a : Option Addr) (n cap : Nat) (f : List Int) (limit : Int) (w : World) (h : RI w a n f) (hn : n ≤ 100000) (hm : mayB f n limit = false) :
    Calls Try.prog 10 #[.slice a n cap, .int .i64 limit] w fun e w' => e = .returned (.tuple #[.slice none 0 0, .int .i64 1]) ∧ w' = w := by
  have MY := may_any a n cap f limit w h hn
  rw [hm] at MY
  clear h hm
  go_enter Try.func10, Try.ntmps10
  go_wp2_with fail
  with_reducible refine MY.mono ?_
  rintro e w0 ⟨rfl, rfl⟩
  clear MY
  go_wp2_with fail
  go_ret2
  exact ⟨rfl, rfl⟩
theorem err_any (x : Int) (w : World) : Calls Try.prog 13 #[.int .i64 x] w fun e w' => e = .returned (.int .i64 x) ∧ w' = w := by
  go_enter Try.func13, Try.ntmps13
  go_wp2
  go_ret
  exact ⟨rfl, rfl⟩
end Go.Proofs.Ytabnafjndljimaa
