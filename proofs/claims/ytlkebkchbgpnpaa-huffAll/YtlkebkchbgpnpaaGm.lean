/-
  What the reference's Get of parts goes by.
-/
import Derived.Test.YtlkebkchbgpnpaaPu
import Derived.Test.YtlkebkchbgpnpaaHr
import Derived.Test.YtlkebkchbgpnpaaRefHx
import Derived.Laws.BitsAllLaws
namespace Go.Proofs.Ytlkebkchbgpnpaa
open Go.ChangeShapes Go.WideShapes Go.ChangeAt Go.RowKit
open Go.ChangeMaps (open_string shut_string)

theorem wk_kept {W W' : World} {S : Nat → Prop} {A : Nat} {v : Value} {X L a : Nat} (h : Wk W A v X L a) (g : Chg S W W') (hS : ∀ k, foot A v k → ¬ S k) : Wk W' A v X L a :=
  ⟨blk_kept h.1 g (hS A (.inl rfl)), own_kept h.2.1 g (fun k hk => hS k (.inr hk)), h.2.2⟩
theorem wk_lt {W : World} {A : Nat} {v : Value} {X L a : Nat} (h : Wk W A v X L a) (k : Nat) (hk : foot A v k) : k < W.heap.size :=
  hk.elim (fun e => e ▸ blk_lt h.1) (fun e => (h.2.1.lt k e).2)
/-- The last class so far whose code these bits are; whether they begin one. -/
def clsF (C : Nat → List Nat) (P : List Nat) : Nat → Int
  | 0 => -1
  | i + 1 => if C i = P then (i : Int) else clsF C P i
def begF (C : Nat → List Nat) (P : List Nat) : Nat → Bool
  | 0 => false
  | i + 1 => begF C P i || decide (P <+: C i)
theorem cls_none {C : Nat → List Nat} {P : List Nat} : ∀ m, (∀ c, c < m → C c ≠ P) → clsF C P m = -1
  | 0, _ => rfl
  | m + 1, h => by
    rw [clsF, if_neg (h m (by omega))]
    exact cls_none m (fun c hc => h c (by omega))
theorem cls_le (C : Nat → List Nat) (P : List Nat) : ∀ m, -1 ≤ clsF C P m ∧ clsF C P m < (m : Int)
  | 0 => ⟨Int.le_refl _, by show (-1 : Int) < 0; decide⟩
  | m + 1 => by
    have := cls_le C P m
    rw [clsF]
    split <;> omega
theorem cls_some {C : Nat → List Nat} {P : List Nat} (pf : PF C) (hP : P ≠ []) (c : Nat) (hc : C c = P) : ∀ m, c < m → m ≤ 65 → clsF C P m = (c : Int)
  | 0, h, _ => by omega
  | m + 1, h, h65 => by
    rw [clsF]
    by_cases e : C m = P
    · rw [if_pos e]
      have := pf m c (by omega) (by omega) (by rw [e]; exact hP) (by rw [e, hc]; exact List.prefix_rfl)
      omega
    · rw [if_neg e]
      have hcm : c ≠ m := fun h => e (by rw [← h]; exact hc)
      exact cls_some pf hP c hc m (by omega) (by omega)
theorem begF_iff (C : Nat → List Nat) (P : List Nat) : ∀ m, begF C P m = true ↔ ∃ c, c < m ∧ P <+: C c
  | 0 => by simp [begF]
  | m + 1 => by
    rw [begF, Bool.or_eq_true, begF_iff C P m, decide_eq_true_eq]
    constructor
    · rintro (⟨c, h1, h2⟩ | h)
      · exact ⟨c, by omega, h2⟩
      · exact ⟨m, by omega, h⟩
    · rintro ⟨c, h1, h2⟩
      by_cases e : c = m
      · rw [e] at h2; exact .inr h2
      · exact .inl ⟨c, by omega, h2⟩
theorem begF_beg {C : Nat → List Nat} {P : List Nat} (hP : P ≠ []) : begF C P 65 = beg C P := by
  rw [Bool.eq_iff_iff, begF_iff, beg_iff]
  constructor
  · rintro ⟨c, h1, h2⟩
    refine ⟨c, h1, fun e => ?_, h2⟩
    rw [e, List.prefix_nil] at h2
    exact hP h2
  · rintro ⟨c, h1, _, h2⟩; exact ⟨c, h1, h2⟩
/-- What the reference's Get of parts leaves. -/
def RgPost (g : Nat × List (Nat × Nat)) (W : World) (e : Ending) (W' : World) : Prop :=
  ∃ a n cap, e = .returned (.agg #[.slice a n cap, .int .i64 (g.1 : Nat)]) ∧ RP W' a n (g.2.map toI) ∧ n ≤ 4096 ∧ n ≤ cap ∧ cap ≤ maxLen ∧ Below W.heap.size W W'
theorem rg_none {er : Nat} {w w' : World} (h : Below w.heap.size w w') : RgPost (er, []) w (.returned (.agg #[.slice none 0 0, .int .i64 (er : Nat)])) w' :=
  ⟨none, 0, 0, rfl, ⟨rfl, fun h => by omega⟩, by omega, by omega, by decide, h⟩
def slen : Value → Nat
  | .slice _ m _ => m
  | _ => 0
def H1Rel (C : Nat → List Nat) (n A : Nat) (wv : Value) (s : ByteArray) (w4 : World) (ov : Value) (wr : World) : Prop :=
  ∃ (i a : Nat) (ps : List (Nat × Nat)), i ≤ n ∧ ps.length = i ∧ a ≤ 8 * s.size ∧ Wk wr A wv (le s.data.toList) (8 * s.size) a ∧ wr.ownsRow w4.heap.size 54 2 ov i (pvs (ps.map toI)) ∧ Chg (· = A) w4 wr ∧ RdAt C n (bts s.data.toList) ps (n - i) ((bts s.data.toList).drop a)
def ClsAt (C : Nat → List Nat) (B : List Nat) (k : Nat) (cls : Int) : Prop :=
  (cls = -1 ∧ ∀ c, c < 65 → C c ≠ [] → ∀ j, j ≤ k → C c ≠ B.take j) ∨ ∃ c : Nat, c < 65 ∧ cls = (c : Int) ∧ C c ≠ [] ∧ C c = B.take k ∧ ∀ d, d < 65 → C d ≠ [] → ∀ j, j < k → C d ≠ B.take j
def H2Rel (C : Nat → List Nat) (A : Nat) (wv : Value) (s : ByteArray) (a : Nat) (B : List Nat) (wS : World) (bv cv kv : Value) (wr : World) : Prop :=
  ∃ (k : Nat) (cls : Int), k ≤ B.length ∧ k ≤ 15 ∧ bv = .int .i64 (num (B.take k) : Nat) ∧ cv = .int .i64 cls ∧ kv = .int .i64 ((k + 1 : Nat) : Int) ∧ Wk wr A wv (le s.data.toList) (8 * s.size) (a + k) ∧ Chg (· = A) wS wr ∧ ClsAt C B k cls ∧ (k = 0 ∨ beg C (B.take k) = true)
def H3Rel (C : Nat → List Nat) (P : List Nat) (w5 : World) (cv bv iv : Value) (wr : World) : Prop :=
  ∃ i : Nat, i ≤ 65 ∧ iv = .int .i64 i ∧ cv = .int .i64 (clsF C P i) ∧ bv = .bool (begF C P i) ∧ Chg (fun _ => False) w5 wr
theorem i64_or_bit (v x : Nat) (hv : v < 32768) (hx : x < 2) : bits .or .i64 ((v : Int) * 2) (x : Int) = ((2 * v + x : Nat) : Int) := by
  have e : ((v : Int) * 2) = ((v * 2 : Nat) : Int) := by omega
  rw [e]
  show IntKind.i64.wrap ((BitVec.ofInt 64 ((v * 2 : Nat) : Int) ||| BitVec.ofInt 64 (x : Int)).toNat : Int) = _
  rw [BitVec.toNat_or, ofInt_u64 _ (by omega), ofInt_u64 _ (by omega), Nat.or_comm, show v * 2 = v * 2 ^ 1 from by omega, or_hi _ _ _ (by omega), IntKind.wrap_i64]
  omega
theorem prt_err {C : Nat → List Nat} {B : List Nat} {er : Nat} (h : one C B = (er, 0, [])) (h0 : er ≠ 0) : (prt C B).1 = er := by
  unfold prt; rw [h]; simp [h0]
theorem prt_more {C : Nat → List Nat} {B R : List Nat} {c : Nat} (h : one C B = (0, c, R)) (hl : R.length < c - 1) : (prt C B).1 = 2 := by
  unfold prt; rw [h]; simp [hl]
theorem prt_ok {C : Nat → List Nat} {B R : List Nat} {c : Nat} (h : one C B = (0, c, R)) (hl : ¬ R.length < c - 1) : prt C B = (0, (c, b2 (R.take (c - 1))), R.drop (c - 1)) := by
  unfold prt; rw [h]; simp [hl]
theorem cls_at {C : Nat → List Nat} (pf : PF C) {B P : List Nat} {k : Nat} (hP : B.take (k + 1) = P) (hN : P ≠ []) (no : ∀ c, c < 65 → C c ≠ [] → ∀ j, j ≤ k → C c ≠ B.take j) : ClsAt C B (k + 1) (clsF C P 65) := by
  by_cases ex : ∃ c, c < 65 ∧ C c = P
  · obtain ⟨c, hc, e⟩ := ex
    exact .inr ⟨c, hc, cls_some pf hN c e 65 hc (Nat.le_refl _), by rw [e]; exact hN, by rw [e, hP], fun d h1 h2 j hj => no d h1 h2 j (by omega)⟩
  · refine .inl ⟨cls_none 65 (fun c hc e => ex ⟨c, hc, e⟩), fun c hc h0 j hj e => ?_⟩
    by_cases hjk : j ≤ k
    · exact no c hc h0 j hjk e
    · rw [show j = k + 1 from by omega, hP] at e
      exact ex ⟨c, hc, e⟩
end Go.Proofs.Ytlkebkchbgpnpaa
