/-
  Shares, without their rests; each condition stands at its theorem.
-/
import Derived.Test.YtplalkhjjndffaaNd
import Derived.Test.YtplalkhjjndffaaNl
import Derived.Test.YtplalkhjjndffaaOx
namespace Go.Proofs.Ytplalkhjjndffaa
open Go.ChangeShapes Go.WideShapes Go.ChangeAt Go.RowKit
open Go.ChangeMaps (open_string shut_string)

theorem fill_step {α β : Type} (f : α → β) (z : β) (l : List α) (i : Nat) (h : i < l.length) : ((l.take i).map f ++ List.replicate (l.length - i) z).set i (f l[i]) = (l.take (i + 1)).map f ++ List.replicate (l.length - (i + 1)) z := by
  rw [List.set_append_right _ _ (by simp; omega), List.take_succ_eq_append_getElem h, List.map_append, List.append_assoc]
  have e : l.length - i = (l.length - (i + 1)) + 1 := by omega
  rw [e, List.replicate_succ]
  simp
  rw [show i - min i l.length = 0 from by omega]; rfl
theorem fill_done {α β : Type} (f : α → β) (z : β) (l : List α) : (l.take l.length).map f ++ List.replicate (l.length - l.length) z = l.map f := by simp
theorem fill_zero {α β : Type} (f : α → β) (z : β) (l : List α) : (l.take 0).map f ++ List.replicate (l.length - 0) z = List.replicate l.length z := by simp
theorem own_one {W : World} {base e g n cap : Nat} {xs : List Value} (h : W.ownsRow base e 1 (.slice (some ⟨g, 0, none⟩) n cap) n xs) (i : Nat) (hi : i < n) :
    ∃ u, W.cell? ⟨g, i, none⟩ = some u ∧ W.frozen? ⟨g, i, none⟩ = false := by
  obtain ⟨_, s0, f0⟩ := own_there h i (by omega)
  obtain ⟨u, hu⟩ := Option.isSome_iff_exists.1 s0
  exact ⟨u, hu, f0⟩

/-! ### places by two: a heap in a list -/
theorem fill_same {α β : Type} (f : α → β) (z : β) (l : List α) (i : Nat) (h : i < l.length) (hz : f l[i] = z) : (l.take i).map f ++ List.replicate (l.length - i) z = (l.take (i + 1)).map f ++ List.replicate (l.length - (i + 1)) z := by
  obtain ⟨k, hk⟩ : ∃ k, l.length - i = k + 1 := ⟨l.length - i - 1, by omega⟩
  rw [hk, show l.length - (i + 1) = k from by omega, List.take_succ_eq_append_getElem h, List.map_append, List.replicate_succ, List.append_assoc]
  simp [hz]

theorem pow_bd (k : Nat) (h : k ≤ 12) : 2 ^ k ≤ 4096 := by
  have : (2 : Nat) ^ k ≤ 2 ^ 12 := Nat.pow_le_pow_right (by omega) h
  omega
theorem nat_ofNat (F : List Nat) (i : Nat) (h : i < (F.map Int.ofNat).length) : (F.map Int.ofNat)[i] = ((F[i]'(by simpa using h) : Nat) : Int) := by simp
theorem sum_ofNat (F : List Nat) : (F.map Int.ofNat).sum = ((F.sum : Nat) : Int) := by
  induction F with
  | nil => rfl
  | cons x F ih => simp only [List.map_cons, List.sum_cons, ih]; simp
def ShRel (F : List Nat) (p : Nat → Nat) (S : Nat) (w : World) (iv : Value) (wr : World) : Prop :=
  ∃ i : Nat, i ≤ F.length ∧ iv = .int .i64 i ∧ wr.ownsRow S 3 1 (.slice (some ⟨S, 0, none⟩) F.length F.length) F.length (nis ((F.take i).map p ++ List.replicate (F.length - i) 0)) ∧ Below S w wr
set_option maxRecDepth 100000 in
set_option maxHeartbeats 2000000 in
theorem shares_any (a : Option Addr) (n cap log : Nat) (F : List Nat) (w : World) (h : RI w a n (F.map Int.ofNat)) (hn : n ≤ 1000) (hf : ∀ x ∈ F, x ≤ 16777216) (hs : 0 < F.sum) (hl : log ≤ 12) :
    Calls Try.prog 24 #[.slice a n cap, .int .i64 ((2 ^ log : Nat) : Int)] w fun e w' => e = .returned (.slice (some ⟨w.heap.size, 0, none⟩) n n) ∧ w'.ownsRow w.heap.size 3 1 (.slice (some ⟨w.heap.size, 0, none⟩) n n) n (nis (shares log F)) ∧ Below w.heap.size w w' := by
  have SM := sum_any a n cap (F.map Int.ofNat) w h hn (fun z hz => by obtain ⟨x, hx, rfl⟩ := List.mem_map.1 hz; have := hf x hx; exact ⟨Int.natCast_nonneg _, by show (x : Int) ≤ _; omega⟩)
  rw [sum_ofNat] at SM
  obtain ⟨h1, h2⟩ := h
  rw [List.length_map] at h1
  subst h1
  have HX := Hid.intro h2
  have HF := Hid.intro hf
  have SD : Hid (shares log F = F.map (share log F.sum)) := rfl
  have SP : ∀ x, share log F.sum x = if x = 0 then 0 else max 1 (x * 2 ^ log / F.sum) := fun x => rfl
  have pb := pow_bd log hl
  have all1 : F.sum ≤ 1000 * 16777216 := by
    have := sm_bd 16777216 (F.map Int.ofNat) (fun z hz => by obtain ⟨x, hx, rfl⟩ := List.mem_map.1 hz; have := hf x hx; exact ⟨Int.natCast_nonneg _, by show (x : Int) ≤ _; omega⟩) F.length (by simp)
    rw [sm_all _ _ (by simp), sum_ofNat] at this
    have k : F.length * 16777216 ≤ 1000 * 16777216 := Nat.mul_le_mul_right _ hn
    omega
  generalize share log F.sum = P at *
  generalize 2 ^ log = s at *
  generalize F.sum = A at *
  have SP2 := Hid.intro SP
  have mk := make_ints 22 3 Try.underlying22 info3 F.length (by omega) w
  have om := own_made_ints w 3 F.length (by omega)
  have b1 : Below w.heap.size w (w.alloc (.cells (madeCells #[.int .i64 0] F.length) 3)) := (Below.refl _ _).alloc (Nat.le_refl _) _
  obtain ⟨w1, hw1⟩ : ∃ w1, w.alloc (.cells (madeCells #[.int .i64 0] F.length) 3) = w1 := ⟨_, rfl⟩
  rw [hw1] at mk om b1
  obtain ⟨S, hS⟩ : ∃ S, w.heap.size = S := ⟨_, rfl⟩
  have HS := Hid.intro hS
  rw [hS] at mk om b1 ⊢
  have ST : Hid (ShRel F P S w (.int .i64 0) w1) := ⟨0, Nat.zero_le _, rfl, by rw [fill_zero, nis_map, List.map_replicate]; exact om, b1⟩
  clear h2 hf SP hw1 om b1 hS
  go_enter Try.func24, Try.ntmps24
  go_wp2_with fail
  with_reducible refine SM.mono ?_
  rintro e w2 ⟨rfl, rfl⟩
  clear SM
  go_wp2_with fail
  clear mk
  go_loopw [16] (fun iv wr => ShRel F P S w2 iv wr) (fun iv _ => F.length - (intOf iv).toNat)
  case atStart => exact ST.out
  case round =>
    clear ST
    obtain ⟨i, hi, rfl, d1, d2⟩ := hrel
    by_cases hlt : i < F.length
    · obtain ⟨x, rfl, hx⟩ := HX.out (by omega)
      have cx := hx i (by simpa using hlt)
      rw [nat_ofNat] at cx
      have cx' := cx
      rw [← d2.cell (by rw [← HS.out]; exact World.block_lt_of_cell? _ _ cx)] at cx'
      have bd := HF.out F[i] (List.getElem_mem hlt)
      have FS := fill_step P 0 F i hlt
      have FZ := fill_same P 0 F i hlt
      have PX := SP2.out F[i]
      obtain ⟨u1, c1, f1⟩ := own_one d1 i hlt
      have o2 := fun z : Nat => own_set d1 i (.int .i64 (z : Int))
      generalize F[i] = y at *
      clear hx cx
      by_cases hy : y = 0
      · have FZ' := Hid.intro (FZ (by rw [PX, if_pos hy]))
        rw [FZ'.out] at d1
        have D1 := Hid.intro d1
        clear FZ FS PX o2 d1
        subst hy
        go_wp2_with fail
        go_roundw
        case rel => exact ⟨i + 1, by omega, by go_num, D1.out, d2⟩
        case measure => simp [intOf]; omega
      · rw [if_neg hy] at PX
        obtain ⟨q, hq⟩ : ∃ q, y * s / A = q := ⟨_, rfl⟩
        obtain ⟨r, hr⟩ : ∃ r, max 1 q = r := ⟨_, rfl⟩
        rw [hq, hr] at PX
        have ys : y * s ≤ 16777216 * 4096 := Nat.mul_le_mul bd pb
        have qb : q ≤ 16777216 * 4096 := by rw [← hq]; exact Nat.le_trans (Nat.div_le_self _ _) ys
        have e1 : ((y : Int) * (s : Int)).tdiv (A : Int) = (q : Int) := by
          rw [Int.tdiv_eq_ediv_of_nonneg (by have := Int.natCast_nonneg (y * s); rw [Int.natCast_mul] at this; exact this), ← hq]
          push_cast
          rfl
        have y0 : 0 < y := by omega
        have e0 : IntKind.i64.wrap ((y : Int) * (s : Int)) = (y : Int) * (s : Int) := by
          have h1 : (y : Int) * (s : Int) = ((y * s : Nat) : Int) := by push_cast; rfl
          rw [h1, IntKind.wrap_i64]; omega
        have eA : ((A : Int) == 0) = false := by simp; omega
        have em : max (q : Int) 1 = (r : Int) := by omega
        have o3 := o2 r
        have fl : (nis ((F.take i).map P ++ List.replicate (F.length - i) 0)).set i (.int .i64 (r : Int)) = nis ((F.take (i + 1)).map P ++ List.replicate (F.length - (i + 1)) 0) := by
          rw [nis_map, ← FS, PX, nis_map, List.map_set, ← ivs_set]; rfl
        rw [fl] at o3
        have O3 := Hid.intro o3
        have D2 := Hid.intro (d2.setCell (p := ⟨S, i, none⟩) (Nat.le_refl _) (.int .i64 (r : Int)))
        clear hq ys FS FZ o3 fl o2 d1 d2 hr PX hy
        go_wp2_with fail
        go_roundw
        case rel => exact ⟨i + 1, by omega, by go_num, O3.out, D2.out⟩
        case measure => simp [intOf]; omega
    · obtain rfl : i = F.length := by omega
      rw [fill_done, ← SD.out] at d1
      go_wp2_with fail
      go_ret
      exact ⟨rfl, d1, d2⟩
end Go.Proofs.Ytplalkhjjndffaa
