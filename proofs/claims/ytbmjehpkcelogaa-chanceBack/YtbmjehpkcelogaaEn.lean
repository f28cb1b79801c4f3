/-
  Package chance, the encoder: its size, what is cut; below, half, carry.
-/
import Derived.Test.YtbmjehpkcelogaaOb
namespace Go.Proofs.Ytbmjehpkcelogaa
open Go.ChangeShapes Go.WideShapes Go.ChangeAt Go.RowKit
open Go.ChangeMaps (open_string shut_string)

/-- Cells among which an encoder's three lie from place o on. -/
def Fit (F : Value → Value → Value → Array Value) (o : Nat) : Prop :=
  ∀ x y z, (F x y z)[o]? = some x ∧ (F x y z)[o + 1]? = some y ∧ (F x y z)[o + 2]? = some z ∧
    (∀ u, (F x y z).setIfInBounds o u = F u y z) ∧ (∀ u, (F x y z).setIfInBounds (o + 1) u = F x u z) ∧ ∀ u, (F x y z).setIfInBounds (o + 2) u = F x y u
def lstV (L : Nat) : Value := .int .u32 ((L % 4294967296 : Nat) : Int)
def gonV (R : Nat) : Value := .int .u32 ((4294967295 - R : Nat) : Int)
/-- An encoder within block A: its row has j bytes, low is L (its lowest j + 4 bytes), range is R. -/
def En (F : Value → Value → Value → Array Value) (t : TypeId) (W : World) (A : Nat) (v : Value) (j L R : Nat) : Prop :=
  Blk W A (F v (lstV L) (gonV R)) t ∧ W.ownsRow 0 5 1 v j ((be j (L / 4294967296)).map byteV) ∧ v.ownBlock ≠ some A ∧ R ≤ 4294967295
def ptrO (A o : Nat) : Value := .pointer (some ⟨A, o, none⟩)
/-- What a change of an encoder leaves. -/
def EnPost (F : Value → Value → Value → Array Value) (t : TypeId) (A : Nat) (v : Value) (j L R : Nat) (W : World) (e : Ending) (W' : World) : Prop :=
  e = .returned (.tuple #[]) ∧ ∃ v', En F t W' A v' j L R ∧ Chg (foot A v) W W' ∧ Moved W v v'

theorem size_any {F : Value → Value → Value → Array Value} {o : Nat} {t : TypeId} (hF : Fit F o) (A : Nat) (v : Value) (j L R : Nat) (W : World) (h : En F t W A v j L R) :
    Calls Try.prog 35 #[ptrO A o] W fun e W' => e = .returned (.int .u32 R) ∧ W = W' := by
  have c2 : W.cell? ⟨A, o + 2, none⟩ = some (gonV R) := by rw [blk_cell h.1]; exact (hF _ _ _).2.2.1
  have hR := h.2.2.2
  have he : (4294967295 : Int) - ((4294967295 - R : Nat) : Int) = R := by omega
  unfold gonV at c2
  generalize 4294967295 - R = g at *
  unfold ptrO
  go_enter Try.func35, Try.ntmps35
  go_wp2
  go_ret
  exact ⟨ret_int (by omega), rfl⟩
theorem within_any (l n m : Int) (W : World) (x : Int) (hx : x = min (max n l) m) :
    Calls Try.prog 28 #[.int .i64 l, .int .i64 n, .int .i64 m] W fun e W' => e = .returned (.int .i64 x) ∧ W = W' := by
  subst hx
  go_enter Try.func28, Try.ntmps28
  go_wp2
  all_goals
    go_ret
    refine ⟨ret_int ?_, rfl⟩
    rename_i hh
    revert hh
    split <;> intro hh <;> omega
theorem below_any {F : Value → Value → Value → Array Value} {o : Nat} {t : TypeId} (hF : Fit F o) (A : Nat) (v : Value) (j L R : Nat) (p : Int) (W : World) (h : En F t W A v j L R) :
    Calls Try.prog 34 #[ptrO A o, .int .i64 p] W fun e W' => e = .returned (.int .u32 ((bel p R : Nat) : Int)) ∧ W = W' := by
  have Z := size_any hF A v j L R W h
  have N := within_any 1 p 4095 W ((cut p : Nat) : Int) (by unfold cut; (repeat' split) <;> omega)
  have hc := cut_le p
  have hR := h.2.2.2
  have hm : R / 4096 * cut p ≤ R / 4096 * 4095 := Nat.mul_le_mul_left _ hc
  have hq : R / 4096 ≤ 1048575 := by omega
  have q1 : (R : Int) / 4096 = ((R / 4096 : Nat) : Int) := by omega
  have he : Hid ((bel p R : Nat) = R / 4096 * cut p) := rfl
  have hw : IntKind.u32.wrap (((R / 4096 : Nat) : Int) * ((cut p : Nat) : Int)) = ((bel p R : Nat) : Int) := by
    rw [he.out, Int.natCast_mul, IntKind.wrap_u32]
    rw [← Int.natCast_mul]; omega
  clear hm
  generalize bel p R = b at *
  generalize cut p = c at *
  generalize R / 4096 = q at *
  unfold ptrO at *
  go_enter Try.func34, Try.ntmps34
  go_wp2_with (first | (go_at_call 35; refine Z.mono ?_; rintro e w1 ⟨rfl, rfl⟩) | (go_at_call 28; refine N.mono ?_; rintro e w1 ⟨rfl, rfl⟩))
  go_ret
  exact ⟨rfl, rfl⟩
theorem half_any {F : Value → Value → Value → Array Value} {o : Nat} {t : TypeId} (hF : Fit F o) (A : Nat) (v : Value) (j L R : Nat) (W : World) (h : En F t W A v j L R) :
    Calls Try.prog 30 #[ptrO A o] W fun e W' => e = .returned (.int .u32 ((R / 2 : Nat) : Int)) ∧ W = W' := by
  have Z := size_any hF A v j L R W h
  have hR := h.2.2.2
  unfold ptrO at *
  go_enter Try.func30, Try.ntmps30
  go_wp2_with (first | (go_at_call 35; refine Z.mono ?_; rintro e w1 ⟨rfl, rfl⟩))
  go_ret
  exact ⟨ret_int (by omega), rfl⟩

theorem blk_got {W : World} {A : Nat} {cs : Array Value} {t : TypeId} (h : Blk W A cs t) (j : Nat) (u : Value) (hj : j < cs.size) : (W.setCell ⟨A, j, none⟩ u).cell? ⟨A, j, none⟩ = some u := by
  rw [blk_cell (blk_set h j u)]; simp [hj]
/-- One more, with what is carried, of the number whose bytes these are. -/
def CaRel (g j cap : Nat) (tgt : List UInt8) (W : World) (iv : Value) (wr : World) : Prop :=
  ∃ (m Y : Nat) (tl : List UInt8), m ≤ j ∧ tl.length = j - m ∧ iv = .int .i64 ((m : Int) - 1) ∧
    wr.ownsRow 0 5 1 (.slice (some ⟨g, 0, none⟩) j cap) j ((be m Y ++ tl).map byteV) ∧ be m (Y + 1) ++ tl = tgt ∧ Chg (· = g) W wr
theorem be_get (m Y : Nat) (tl : List UInt8) : (be (m + 1) Y ++ tl)[m]? = some (UInt8.ofNat Y) := by
  rw [be, List.append_assoc, List.getElem?_append_right (by rw [be_len]; exact Nat.le_refl _), be_len]; simp
theorem be_put (m Y : Nat) (c : UInt8) (tl : List UInt8) : (be (m + 1) Y ++ tl).set m c = be m (Y / 256) ++ (c :: tl) := by
  rw [be, List.append_assoc, List.set_append_right _ _ (by rw [be_len]; exact Nat.le_refl _), be_len, Nat.sub_self]; rfl
theorem carry_nil (W : World) : Calls Try.prog 44 #[.slice none 0 0] W fun e W' => e = .returned (.tuple #[]) ∧ W = W' := by
  go_enter Try.func44, Try.ntmps44
  go_wp2_with fail
  go_loopw [2] (fun iv wr => iv = .int .i64 (-1) ∧ W = wr) (fun _ _ => 0)
  case atStart => exact ⟨rfl, rfl⟩
  case round =>
    obtain ⟨rfl, rfl⟩ := hrel
    go_wp2
    go_end0
    exact ⟨rfl, rfl⟩
set_option maxRecDepth 100000 in
set_option maxHeartbeats 1000000 in
theorem carry_at (g j cap X : Nat) (W : World) (h : W.ownsRow 0 5 1 (.slice (some ⟨g, 0, none⟩) j cap) j ((be j X).map byteV)) (hj : j ≤ 1000000) :
    Calls Try.prog 44 #[.slice (some ⟨g, 0, none⟩) j cap] W fun e W' => e = .returned (.tuple #[]) ∧ W'.ownsRow 0 5 1 (.slice (some ⟨g, 0, none⟩) j cap) j ((be j (X + 1)).map byteV) ∧ Chg (· = g) W W' := by
  go_enter Try.func44, Try.ntmps44
  go_wp2_with fail
  go_loopw [2] (fun iv wr => CaRel g j cap (be j (X + 1)) W iv wr) (fun iv _ => (intOf iv + 1).toNat)
  case atStart => exact ⟨j, X, [], Nat.le_refl _, by simp, rfl, by simpa using h, by simp, chg_refl _ _⟩
  case round =>
    clear h
    obtain ⟨m, Y, tl, hm, htl, rfl, d1, d2, d3⟩ := hrel
    rcases Nat.eq_zero_or_pos m with h0 | h0
    · subst h0
      have hn : ¬ (0 : Int) ≤ ((0 : Nat) : Int) - 1 := by omega
      simp only [be] at d1 d2
      rw [d2] at d1
      go_wp2
      go_end0
      exact ⟨rfl, d1, d3⟩
    · obtain ⟨q, rfl⟩ : ∃ q, m = q + 1 := ⟨m - 1, by omega⟩
      have hq : (((q + 1 : Nat) : Int) - 1) = (q : Int) := by omega
      rw [hq]
      have hqj : q < j := by omega
      obtain ⟨g', cap', cur', hv', hc', hg', hcs', ht', hl'⟩ := own_at d1 (by omega)
      injection hv' with e1 _ e3
      injection e1 with e1
      injection e1 with e1
      subst e1 e3
      have cg := own_cell hg' ht' q (by simp [be_len, htl]; omega) hl'
      rw [show (be (q + 1) Y ++ tl)[q]'(by simp [be_len, htl]; omega) = UInt8.ofNat Y from by
        have := be_get q Y tl; rw [List.getElem?_eq_getElem (by simp [be_len, htl]; omega)] at this; simpa using this, byteV, u8_mod] at cg
      have fg := blk_free hg' q
      have hset := own_set d1 q (UInt8.ofNat (Y + 1)) _ (u8_mod (Y + 1)).symm
      rw [be_put] at hset
      have HSET := Hid.intro hset
      have hY : ((Y % 256 : Nat) : Int) < 256 := by omega
      have hw : (((Y % 256 : Nat) : Int) + 1) % 256 = (((Y + 1) % 256 : Nat) : Int) := by omega
      have hd2 : Hid (be (q + 1) (Y + 1) ++ tl = be j (X + 1)) := d2
      have hT : (Y + 1) % 256 < 256 := Nat.mod_lt _ (by decide)
      have hcs : (wr.setCell ⟨g, q, none⟩ (.int .u8 (((Y + 1) % 256 : Nat) : Int))).cell? ⟨g, q, none⟩ = some (.int .u8 (((Y + 1) % 256 : Nat) : Int)) := blk_got hg' q _ (by omega)
      have k3 : Chg (· = g) W (wr.setCell ⟨g, q, none⟩ (.int .u8 (((Y + 1) % 256 : Nat) : Int))) := chg_set d3 _ _ (fun _ => rfl)
      have hz : Hid ((Y + 1) % 256 = (Y + 1) % 256) := rfl
      clear d1 d2 ht' hl' hc' hcs' d3 hg'
      generalize hgz : (Y + 1) % 256 = z at *
      have HZ : Hid ((Y + 1) % 256 = z) := hgz
      clear hz hgz
      generalize hgy : Y % 256 = y at cg hw hY
      clear hgy
      by_cases hz0 : z = 0
      · have hzb : ((z : Int) != 0) = false := by rw [hz0]; rfl
        have HZ0 : Hid (z = 0) := hz0
        clear hz0
        go_wp2_with fail
        generalize wr.setCell ⟨g, q, none⟩ (.int .u8 (z : Int)) = w3 at *
        go_roundw
        case rel => exact ⟨q, Y / 256, UInt8.ofNat (Y + 1) :: tl, by omega, by simp [htl]; omega, rfl, HSET.out, by rw [← hd2.out, be, show (Y + 1) / 256 = Y / 256 + 1 from by have := HZ.out; have := HZ0.out; omega, List.append_assoc]; rfl, k3⟩
        case measure => simp [intOf]
      · have hz1 : ((z : Int) != 0) = true := by simpa using hz0
        have hw2 : (y : Int) + 1 = z := by omega
        clear hw
        go_wp2_with fail
        refine bodyPost_ret (results_none rfl _ _ _) rfl ?_
        refine ⟨rfl, ?_, k3⟩
        rw [← hd2.out, be, show (Y + 1) / 256 = Y / 256 from by have := HZ.out; omega, List.append_assoc]
        exact HSET.out
theorem carry_any (v : Value) (j X : Nat) (W : World) (h : W.ownsRow 0 5 1 v j ((be j X).map byteV)) (hj : j ≤ 1000000) :
    Calls Try.prog 44 #[v] W fun e W' => e = .returned (.tuple #[]) ∧ W'.ownsRow 0 5 1 v j ((be j (X + 1)).map byteV) ∧ Chg (fun k => v.ownBlock = some k) W W' := by
  rcases h.2 with ⟨rfl, rfl⟩ | ⟨g, cap, cur, rfl, _⟩
  · refine (carry_nil W).mono ?_
    rintro e w1 ⟨rfl, rfl⟩
    exact ⟨rfl, h, chg_refl _ _⟩
  · refine (carry_at g j cap X W h hj).mono ?_
    rintro e w1 ⟨rfl, h1, h2⟩
    exact ⟨rfl, h1, chg_mono h2 (fun k _ e => by subst e; rfl)⟩
end Go.Proofs.Ytbmjehpkcelogaa
