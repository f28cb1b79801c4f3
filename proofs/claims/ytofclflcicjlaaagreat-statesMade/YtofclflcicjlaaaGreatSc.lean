/-
  Frequencies by numbers; what the reference's Get asks; noughts appended to any row of the call's own; the reference's bytes of any numbers from nought on; each condition stands at its theorem; the document's example; normEven: the walk; normMade: the walk; whether two rows of cells are one: of the same cells.
-/
import Derived.Test.YtofclflcicjlaaaGreatSh
import Derived.Test.YtofclflcicjlaaaGreatRn
import Derived.Test.YtofclflcicjlaaaGreatBd
import Derived.Test.YtofclflcicjlaaaGreatNr
import Derived.Test.YtofclflcicjlaaaGreatSp
import Derived.BigRegion
import Derived.Deep.RegionHeld3
import Derived.Deep.QuietTactic
import Derived.Deep.RegionWith
import Derived.OwnWalk
import Derived.BigQuiet
namespace Go.Proofs.YtofclflcicjlaaaGreat
open Go.ChangeShapes Go.WideShapes Go.ChangeAt Go.RowKit
open Go.ChangeMaps (open_string shut_string)
def RU (w : World) (a : Option Addr) (n : Nat) : Prop := 0 < n → ∃ x, a = some x ∧ ∀ i, i < n → ∃ z : Int, 0 ≤ z ∧ z ≤ 65535 ∧ w.cell? (x.add i) = some (.int .u16 z)
def cz : Array Value := #[.slice none 0 0, .int .i64 0, .int .i64 0]
theorem blk_grown {A : Nat} {cs : Array Value} {t : TypeId} {b c : World} {row : Option Nat} (h : Blk b A cs t) (g : b.grownBy c row) (hne : some A ≠ row) : Blk c A cs t := (g.block A (blk_lt h) hne).trans h
theorem bs_add (a b : List UInt8) : bs a ++ bs b = bs (a ++ b) := by
  apply Go.WideShapes.bytes_inj
  rw [app_list]; rfl

theorem err_i (n : Int) (w : World) : Calls Tryz.prog 10 #[.int .i64 n] w fun e w' => e = .returned (.int .i64 n) ∧ w' = w := by
  go_enter Tryz.func10, Tryz.ntmps10
  go_wp2
  go_ret
  exact ⟨rfl, rfl⟩


theorem held_c {w8 a b : World} {B C j k : Nat} {u v : Value} (hB : B < w8.heap.size) (hC : C < w8.heap.size) (h : (a.cell? ⟨B, j, none⟩ = some u ∧ a.cell? ⟨C, k, none⟩ = some v) ∧ Below w8.heap.size w8 a) (hk : Below a.heap.size a b) :
    (b.cell? ⟨B, j, none⟩ = some u ∧ b.cell? ⟨C, k, none⟩ = some v) ∧ Below w8.heap.size w8 b :=
  ⟨⟨by rw [hk.cell (p := ⟨B, j, none⟩) (Nat.lt_of_lt_of_le hB h.2.size)]; exact h.1.1, by rw [hk.cell (p := ⟨C, k, none⟩) (Nat.lt_of_lt_of_le hC h.2.size)]; exact h.1.2⟩, h.2.trans (hk.mono h.2.size)⟩


theorem conv_nat (l : List Nat) : Conv (fun n => (n : Int)) l := fun _n _ => ⟨fun _ => rfl, fun _ _ => rfl⟩
theorem norm_cases (f : List Int) (z : Int) : normA f z = (1, []) ∨ ∃ M, normA f z = (0, M) ∧ M.length = 65 ∧ f.length = 65 ∧ may z (M.map Int.ofNat) = true ∧ (∀ x ∈ M, x ≤ 4096) ∧ (∀ i, 0 < g M i ↔ 0 < fr f i) ∧ ∀ i j, fr f j < fr f i → g M j ≤ g M i + 1 := by
  by_cases h : f.length = 65 ∧ (∀ z ∈ f, 0 ≤ z ∧ z ≤ 16777216) ∧ 0 < f.sum ∧ 7 ≤ z ∧ z ≤ 12
  · right
    obtain ⟨h1, h2, h3, h4, h5⟩ := h
    have hb := toNat_back (fun x hx => (h2 x hx).1)
    obtain ⟨F, hF⟩ : ∃ F, f.map Int.toNat = F := ⟨_, rfl⟩
    rw [hF] at hb
    subst hb
    have Fl : F.length = 65 := by simpa using h1
    have Fb : ∀ x ∈ F, x ≤ 16777216 := fun x hx => by have := (h2 _ (List.mem_map_of_mem hx)).2; have e : (Int.ofNat x) = (x : Int) := rfl; omega
    rw [sum_ofNat] at h3
    have p7 : 2 ^ 7 ≤ 2 ^ z.toNat := Nat.pow_le_pow_right (by omega) (by omega)
    obtain ⟨⟨f1, f2, f3⟩, f4⟩ := nrm_fair (log := z.toNat) (f := F) (by omega) (by omega)
    have mN : mayN z (nrm z.toNat F) = true := mayN_yes.2 ⟨⟨h4, h5⟩, by rw [f1, Fl], f4⟩
    refine ⟨_, norm_yes ((lgB_iff z).2 ⟨h4, h5⟩) Fl Fb (by omega), by rw [f1, Fl], h1, ?_, mayN_bd mN, fun i => ?_, fun i j hij => ?_⟩
    · have := conv_may (conv_nat (nrm z.toNat F)) z
      rw [mN] at this
      exact this
    · rw [fr_map]
      have := f2 i
      show 0 < (nrm z.toNat F).getD i 0 ↔ _
      rw [this]; omega
    · rw [fr_map, fr_map] at hij
      exact f3 i j (by omega)
  · left
    unfold normA; rw [if_neg h]

/-- Cells of a table that can be read from a slice's address on. -/
def RC (W : World) (a : Option Addr) (n : Nat) (l : List Tri) : Prop :=
  l.length = n ∧ (0 < n → ∃ b, a = some ⟨b, 0, none⟩ ∧ b < W.heap.size ∧ ∀ i, i < n → W.cell? ⟨b, i * 3, none⟩ = some (.int .i64 ((l.getD i (0, 0, 0)).1 : Int)) ∧ W.cell? ⟨b, i * 3 + 1, none⟩ = some (.int .i64 ((l.getD i (0, 0, 0)).2.1 : Int)) ∧ W.cell? ⟨b, i * 3 + 2, none⟩ = some (.int .i64 ((l.getD i (0, 0, 0)).2.2 : Int)))
theorem own_rc {W : World} {base : Nat} {v : Value} {n : Nat} {l : List Tri} (h : W.ownsRow base 77 3 v n (cvs l)) : ∃ a cap, v = .slice a n cap ∧ RC W a n l := by
  have hl : l.length = n := by have := h.1; rw [cvs_len] at this; omega
  rcases Nat.eq_zero_or_pos n with h0 | h0
  · rcases h.2 with ⟨hv, hn⟩ | ⟨g, cap, cur, hv, _⟩
    · exact ⟨none, 0, by rw [hv, hn], hl, fun h => by omega⟩
    · exact ⟨_, cap, hv, hl, fun h => by omega⟩
  · obtain ⟨b, cap, rfl⟩ := own_slice h h0
    exact ⟨_, cap, rfl, hl, fun _ => ⟨b, rfl, (h.lt b rfl).2, fun i hi => cv_cells h i hi⟩⟩
theorem rc_later {W W' : World} {a : Option Addr} {n : Nat} {l : List Tri} (h : RC W a n l) (g : Below W.heap.size W W') : RC W' a n l :=
  ⟨h.1, fun h0 => by
    obtain ⟨b, hb, lt, hc⟩ := h.2 h0
    have k := bcell g
    exact ⟨b, hb, Nat.lt_of_lt_of_le lt g.size, fun i hi => by rw [k.1 _ _ lt, k.1 _ _ lt, k.1 _ _ lt]; exact hc i hi⟩⟩
end Go.Proofs.YtofclflcicjlaaaGreat
