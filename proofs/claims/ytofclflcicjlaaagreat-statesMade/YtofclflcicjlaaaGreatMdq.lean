/-
  What the walk of StatesMade stands on.
-/
import Derived.Test.YtofclflcicjlaaaGreatLwq
import Derived.Test.YtofclflcicjlaaaGreatTyh
import Derived.Test.YtofclflcicjlaaaGreatGv
import Derived.WalkKit
import Derived.ProofKit
import Derived.OpenShut
import Derived.Deep.QuietTactic
import Derived.Deep.RegionWith
import Derived.Deep.RegionHeld3
import Derived.OwnWalk
import Derived.ChangeOld
import Derived.Below
import Derived.BigQuiet
import Derived.Laws.BitsAllLaws
namespace Go.Proofs.YtofclflcicjlaaaGreat
open Go.ChangeShapes Go.WideShapes Go.ChangeAt Go.RowKit
open Go.ChangeMaps (open_string shut_string)
set_option linter.unusedVariables false
theorem room_upd {B : Nat} {w wr : World} {cap : Nat} {l : List UInt8} (h : Room B w wr cap l) (k : Nat) (hk : k < l.length) (c : UInt8) (v : Int) (hv : v = (c.toNat : Int)) :
    Room B w (wr.setCell ⟨B, k, none⟩ (.int .u8 v)) cap (l.set k c) := by
  obtain ⟨h1, h2, h3, h4⟩ := h
  subst hv
  have same := World.cell?_setCell_same wr ⟨B, k, none⟩ (.int .u8 (c.toNat : Int)) (h2 k hk)
  have other : ∀ j, j ≠ k → (wr.setCell ⟨B, k, none⟩ (.int .u8 (c.toNat : Int))).cell? ⟨B, j, none⟩ = wr.cell? ⟨B, j, none⟩ := fun j hj => by
    rw [World.cell?_setCell_other _ _ _ _ (by intro e; injection e; omega)]
  refine ⟨fun j hj => ⟨?_, ?_⟩, fun j hj => ?_, h3.setCell (Nat.le_refl _) _, by simp; omega⟩
  · by_cases e : j = k
    · rw [e, same]; rfl
    · rw [other j e]; exact (h1 j hj).1
  · simpa using (h1 j hj).2
  · by_cases e : j = k
    · subst e; simpa using same
    · rw [other j e, h2 j (by simpa using hj), List.getElem_set_ne (by omega)]
theorem bytes_of2 (s : ByteArray) (w : World) (hs : s.size ≤ 100000) : ∃ cap W3, (convert 9 48 (.string s)).run Tryz.prog w = .ok (.slice (some ⟨w.heap.size, 0, none⟩) s.size cap) W3 ∧ Room w.heap.size w W3 s.size s.data.toList ∧ s.size ≤ cap ∧ cap ≤ maxLen := by
  obtain ⟨cap, W3, h, r⟩ := bytes_of s w
  have e := run_bytes_of_string (P := Tryz.prog) w 9 48 5 s Tryz.underlying9 Tryz.underlying48 Tryz.underlying5
  rw [h] at e
  injection e with e1 e2
  injection e1 with _ _ e3
  subst e3
  exact ⟨_, _, h, r, grownCap_ge _ _ _ _, grownCap_le_maxLen _ _ _ _ (by simp only [maxLen]; omega)⟩
theorem room_str2 {B : Nat} {w wr : World} {cap : Nat} {l : List UInt8} (h : Room B w wr cap l) (n c : Nat) (hn : n ≤ l.length) :
    (convert 48 9 (.slice (some ⟨B, 0, none⟩) n c)).run Tryz.prog wr.drew = .ok (.string (bs (l.take n))) wr.drew := by
  have hl : (l.take n).length = n := by rw [List.length_take]; omega
  have := run_convert_bytes_back wr.drew 48 9 5 ⟨B, 0, none⟩ c (l.take n) Tryz.underlying48 Tryz.underlying5 Tryz.underlying9 (fun j hj => by
    rw [Addr.add_lit, Nat.zero_add]
    have h2 := h.2.1 j (by omega)
    rw [List.getElem_take]
    exact h2)
  rw [hl] at this
  exact this
theorem held_keep {w8 a b : World} {B : Nat} {u v : Value} (hB : B < w8.heap.size) (h : (a.cell? ⟨B, 0, none⟩ = some u ∧ a.cell? ⟨B, 1, none⟩ = some v) ∧ Below w8.heap.size w8 a) (k : Below a.heap.size a b) :
    (b.cell? ⟨B, 0, none⟩ = some u ∧ b.cell? ⟨B, 1, none⟩ = some v) ∧ Below w8.heap.size w8 b := by
  have hlt : B < a.heap.size := Nat.lt_of_lt_of_le hB h.2.size
  exact ⟨⟨by rw [k.cell (p := ⟨B, 0, none⟩) hlt]; exact h.1.1, by rw [k.cell (p := ⟨B, 1, none⟩) hlt]; exact h.1.2⟩, h.2.trans (k.mono h.2.size)⟩
theorem spl_ok {z : Int} (h1 : -9223372036854775808 ≤ z) (h2 : z ≤ 9223372036854775807) : jok (spl z).1 (spl z).2 = true ∧ (0 ≤ (spl z).2 ∧ (spl z).2 ≤ 18446744073709551615) ∧ 0 ≤ (spl z).1 ∧ (spl z).1 ≤ 64 := by
  have zb := zmap_bd z h1 h2
  unfold spl
  simp only
  generalize zmap z = u at *
  by_cases h0 : u = 0
  · subst h0
    refine ⟨by decide, by decide, by decide, by decide⟩
  · obtain ⟨b1, b2, b3, b4⟩ := blen_spec u (by omega) zb.2
    have hp := hi_pos (blen u)
    refine ⟨?_, ?_, by omega, b2⟩
    · unfold jok srest
      rw [if_neg (by omega), if_neg h0, decide_eq_true_eq]
      omega
    · unfold srest; rw [if_neg h0]; omega
theorem fp_spl (zs : List Int) (hf : FI zs) : ∀ p ∈ zs.map spl, 0 ≤ p.2 ∧ p.2 ≤ 18446744073709551615 := by
  intro p hp
  obtain ⟨z, hz, rfl⟩ := List.mem_map.1 hp
  exact (spl_ok (hf z hz).1 (hf z hz).2).2.1
theorem putB_size {K : Nat} {L cs : List Nat} (h : Spd K L cs) (P : List (Nat × Nat)) (hP : ∀ p ∈ P, 0 < g L p.1) (hn : P.length ≤ 60) (hc : ∀ p ∈ P, p.1 ≤ 64) : (putB K L cs P).length ≤ 9000 := by
  have h1 := tail_small h P hP (by omega)
  unfold putB
  rw [List.length_append, List.length_append]
  have h2 := (vb_len (tailB K L cs P).length).2
  have h3 : (restB P).length ≤ 600 := by
    unfold restB
    rw [byt_len]
    have : szs (vK (rstV P)) P.length ≤ 64 * P.length := szs_bd (B := 64) (fun i => vK_bd (V := rstV P) (B := 64) (fun v hv => by
      obtain ⟨p, hp, rfl⟩ := List.mem_map.1 hv
      have := hc p hp
      show p.1 - 1 ≤ 64; omega) i) P.length
    unfold byc; omega
  omega
theorem putS_size {f : List Int} {z : Int} {ps : List (Int × Int)} (hf : ∀ p ∈ ps, 0 ≤ p.2 ∧ p.2 ≤ 18446744073709551615) (hn : ps.length ≤ 60) : (putS f z ps).2.length ≤ 9000 := by
  by_cases hm : may z f = true
  · by_cases ha : ps.all (okPS (f.map Int.toNat)) = true
    · rw [putS_yes hm ha]
      obtain ⟨h1, h2, h3⟩ := ok_facts hf ha
      refine putB_size (may_sp hm) _ h1 (by rw [List.length_map]; exact hn) (fun p hp => ?_)
      obtain ⟨⟨c, r⟩, hq, rfl⟩ := List.mem_map.1 hp
      obtain ⟨k, v, e1, e2, e3, -⟩ := okPS_is (hf _ hq).1 (List.all_eq_true.1 ha _ hq)
      subst e1
      show ((k : Int)).toNat ≤ 64
      omega
    · rw [putS_arg hm (by simpa using ha)]; exact Nat.zero_le _
  · rw [putS_form (by simpa using hm)]; exact Nat.zero_le _
/-- A text of those that are tried. -/
def MdO (w14 : World) (iv : Value) (wr : World) : Prop := ∃ i : Nat, i ≤ 4 ∧ iv = .int .i64 i ∧ Below w14.heap.size w14 wr
def MdI (w14 : World) (kv : Value) (wr : World) : Prop := ∃ z : Int, -1 ≤ z ∧ z ≤ 2 ∧ kv = .int .i64 z ∧ Below w14.heap.size w14 wr
end Go.Proofs.YtofclflcicjlaaaGreat
