/-
  One length turned: lists and numbers; the steps of a region with guards.
-/
import Derived.Test.YtgejcdmiihmlfaaMd
import Derived.Test.YtgejcdmiihmlfaaOm
namespace Go.Proofs.Ytgejcdmiihmlfaa
open Go.ChangeShapes Go.WideShapes Go.ChangeAt Go.RowKit
open Go.ChangeMaps (open_string shut_string)

/-- With one length another one they may not be, but where few are left. -/
theorem turned_no {L : List Nat} (hl : L.length = 65) (hb : ∀ c, at0 L c ≤ 15) (hok : okL L = true) (k v : Nat) (hk : k < 65) (hv : v ≤ 15) (hne : ¬ v = at0 L k) (hm : 2 < mC (L.set k v) 65) : okL (L.set k v) = false := by
  have h1 := mS_set L k v (by omega) 65
  have h2 := mC_set L k v (by omega) 65
  rw [if_pos hk, if_pos hk] at h1 h2
  have c1 : ct v ≤ 1 := by unfold ct; split <;> omega
  have w1 : ¬ wt v = wt (at0 L k) := fun e => hne (wt_inj v (at0 L k) hv (hb k) e)
  cases hok2 : okL (L.set k v) with
  | false => rfl
  | true =>
    exfalso
    rcases (okL_iff _).1 hok with h | h | h
    · omega
    · rcases (okL_iff _).1 hok2 with g | g | g
      · omega
      · omega
      · omega
    · omega
theorem set_same (L : List Nat) (k : Nat) (h : k < L.length) : L.set k (at0 L k) = L := by
  rw [at0_of L k h]; exact List.set_getElem_self h
theorem codes_some (a : Option Addr) (n cap : Nat) (f : List Int) (w : World) (h : RI w a n f) (hn : n ≤ 100000) :
    Calls Try.prog 9 #[.slice a n cap] w fun e w' => ∃ (av : Option Addr) (nv cv e' : Nat), e = .returned (.tuple #[.slice av nv cv, .int .i64 (e' : Int)]) ∧ (mayL f = false → e' = 3) ∧ e' ≤ 3 ∧ Below w.heap.size w w' := by
  by_cases hm : mayL f = true
  · refine (codes_yes a n cap f w h hm).mono ?_
    rintro e w' ⟨v, rfl, k3, k4⟩
    obtain ⟨b, c, rfl⟩ := own_slice k3 (by omega)
    exact ⟨_, _, _, 0, rfl, (fun h => by rw [hm] at h; cases h), by omega, k4⟩
  · refine (codes_no a n cap f w h hn (by simpa using hm)).mono ?_
    rintro e w' ⟨rfl, rfl⟩
    exact ⟨_, _, _, 3, rfl, fun _ => rfl, by omega, Below.refl _ _⟩
/-- Elements behind a row, as one step of a region that draws, where the guard says yes. -/
theorem step_pushG {P : Program} {ops : Array Oper} {o : Oper} {a : Act} {w : World} {K : Act → World → Prop} {Q : Exit → Act → World → Prop} {E : Prop}
    (hw : Region.wanted o (yielded ops a.tmps) = true) (s x : Operand) (t : TypeId) (hop : o.op = Op.call { callee := Callee.builtin Builtin.append, args := #[s, x], argTypes := #[t, t] })
    (e : TypeId) (i : TypeInfo) (z : Value) (size bytes : Nat) (ht : P.underlying t = some (.slice e)) (hi : P.info? e = some i) (hz : i.zero = some z)
    (hsize : i.size = size) (hby : i.bytes = bytes) (hzs : z.cells.size = size) (hsz : 0 < size) (h16 : bytes ≤ 64)
    (v : Value) (n : Nat) (xs : List Value) (hs : a.eval s = v) (hown : w.ownsRow 0 e size v n xs)
    (ad : Addr) (m c : Nat) (news : List Value) (hx : a.eval x = .slice (some ad) m c) (hl : news.length = m * size) (hnews : ∀ j u, news[j]? = some u → w.cell? (ad.add j) = some u) (h1 : ∀ u ∈ news, u.oneCell' = true) (hn : n + m ≤ 100000)
    (hK : ∀ v' w', w'.ownsRow 0 e size v' (n + m) (xs ++ news) → w.grownBy w' v.ownBlock → Moved w v v' → K (a.put o.dst v') w') :
    if Region.wanted o (yielded ops a.tmps) = true then Oper.wp P o a w K Q else E := by
  rw [if_pos hw]
  obtain ⟨v', w', hrun, r1, r2, r3⟩ := run_push (P := P) w t o.type e i z size bytes ht hi hz hsize hby hzs hsz h16 v n xs hown ad m c news hl hnews h1 hn
  unfold Oper.wp
  simp [execOp, hop, resolve, invoke, builtin, hs, hx, hrun, Result.andThen]
  exact hK v' w' r1 r2 r3
/-- An operation is taken first; where it puts its answer is named. -/
theorem take' {P : Program} {md : Region.Mode} {ops : Array Oper} {Q : Exit → Act → World → Prop} {S : World → Prop} {i : Nat} {oi : Oper} {d : Option Tmp} {v : Value} {fuel : Nat} {listed : Array Bool} {a : Act} {w : World} (hi : ops[i]? = some oi) (hd : oi.dst = d)
    (hs : Region.noSelect ops = true) (hf : Region.free md ops listed i = true) (hr : (Region.ready md ops listed).contains i = true)
    (hQ : ∀ c a w, Q (.panic c) (a.put d v) w → Q (.panic c) a w) (hy : YieldsIf P ops S oi v a) (hS : S w)
    (h : wpAnyH P md ops Q S fuel (listed.setIfInBounds i true) (a.put d v) w) : wpAnyH P md ops Q S (fuel + 1) listed a w := by
  subst hd
  exact wpAnyH_take hi hs hf hr hQ hy hS h
theorem ri_take {W : World} {a : Option Addr} {n : Nat} {zs : List Int} (h : RI W a n zs) (m : Nat) (hm : m ≤ n) : RI W a m (zs.take m) := by
  have hl := h.1
  refine ⟨by rw [List.length_take]; omega, fun h0 => ?_⟩
  obtain ⟨x, hx, hc⟩ := h.2 (by omega)
  refine ⟨x, hx, fun i hi => ?_⟩
  rw [List.length_take] at hi
  rw [hc i (by omega), List.getElem_take]
end Go.Proofs.Ytgejcdmiihmlfaa
