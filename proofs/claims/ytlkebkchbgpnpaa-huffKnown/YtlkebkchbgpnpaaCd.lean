/-
  Which blocks a call may change; blocks and rows of the call's own; lists of whole numbers and of parts that can be read; a heap in a list, by its steps up and down, and what comes out of it one after the other; entries in memory; the queue's own methods: what is called through the interface, Len, Less, Swap, Push; the heap's step up: from a place whose parent alone may be below it, to a heap; the heap's step down: from the first place, among all but the last one, to a heap; push and Pop of the heap, and the queue's next: what comes out, and what is left; order comes out of the heap: the places whose number is above nought, the greatest first, for every list of a thousand at the most; whether lengths may be asked for; lengths put at their classes' places; what holds of the lengths at their places: costs, bounds, lengths that may be; codes by their lengths: whole numbers and lists alone; no Go in sight; shares and May: of whatever lengths; the queue's next; a queue of all classes that have a length; rows of codes; codes: of whatever lengths, or the error.
-/
import Derived.Test.YtlkebkchbgpnpaaAl
import Derived.Test.YtlkebkchbgpnpaaPush
import Derived.WalkKit
import Derived.ProofKit
import Derived.OpenShut
import Derived.Deep.QuietTactic
import Derived.BigQuiet
import Derived.Deep.RegionHeld3
import Derived.Below
import Derived.Deep.Heap
import Derived.ArgAppend
import Derived.Maps.AppendAt
import Derived.Laws.IdiomStrings
import Derived.Deep.OwnRows
import Derived.Deep.RegionLaw
import Derived.Handy
import Derived.Deep.RegionWith
import Derived.OwnWalk
import Derived.Laws.OwnMore
import Derived.Lib.AppendZeros
import Derived.Laws.BitsAllLaws
import Derived.Laws.IdiomCopy
import Derived.BigRegion
namespace Go.Proofs.Ytlkebkchbgpnpaa
open Go.ChangeShapes Go.WideShapes Go.ChangeAt Go.RowKit
open Go.ChangeMaps (open_string shut_string)
theorem info105 : (Try.prog.info? 105).map (fun i => (i.zero, i.size, i.bytes)) = some (some (.agg #[.int .i64 0, .int .i64 0]), 2, 16) := by kernel_rfl
def sw (l : List Nat) (i j : Nat) : List Nat := (l.set i (g l j)).set j (g l i)
theorem sw_len (l : List Nat) (i j : Nat) : (sw l i j).length = l.length := by unfold sw; rw [List.length_set, List.length_set]
theorem sw_at (l : List Nat) (i j : Nat) (hi : i < l.length) (hj : j < l.length) (k : Nat) : g (sw l i j) k = if k = j then g l i else if k = i then g l j else g l k := by
  unfold sw g
  simp only [List.getD_eq_getElem?_getD, List.getElem?_set, List.length_set]
  by_cases h1 : j = k
  · subst h1; simp [hj]
  · have h1' : ¬ k = j := fun e => h1 e.symm
    by_cases h2 : i = k
    · subst h2; simp [h1, h1', hi]
    · have h2' : ¬ k = i := fun e => h2 e.symm
      simp [h1, h1', h2, h2']
theorem sw_perm (l : List Nat) (i j : Nat) (hi : i < l.length) (hj : j < l.length) : (sw l i j).Perm l := by
  unfold sw
  rw [g_eq l i hi, g_eq l j hj]
  exact List.set_set_perm hi hj

/-- An order that is asked by 'lt' alone: what is not above goes on. -/
structure Ord (lt : Nat → Nat → Prop) : Prop where
  irr : ∀ a, ¬ lt a a
  tr : ∀ a b c, lt a b → lt b c → lt a c
  ntr : ∀ a b c, ¬ lt b a → ¬ lt c b → ¬ lt c a
theorem Ord.asym {lt : Nat → Nat → Prop} (o : Ord lt) {a b : Nat} (h : lt a b) : ¬ lt b a := fun k => o.irr _ (o.tr _ _ _ h k)

def HeapFrom (lt : Nat → Nat → Prop) (l : List Nat) (n i0 : Nat) : Prop := ∀ k, 0 < k → k < n → i0 ≤ (k - 1) / 2 → ¬ lt (g l k) (g l ((k - 1) / 2))

/-! ### up -/
def UpInv (lt : Nat → Nat → Prop) (l : List Nat) (j : Nat) : Prop :=
  j < l.length ∧ (∀ k, 0 < k → k < l.length → k ≠ j → ¬ lt (g l k) (g l ((k - 1) / 2))) ∧ (0 < j → ∀ c, 0 < c → c < l.length → (c - 1) / 2 = j → ¬ lt (g l c) (g l ((j - 1) / 2)))
theorem up_done {lt : Nat → Nat → Prop} {l : List Nat} {j : Nat} (h : UpInv lt l j) (hd : j = 0 ∨ ¬ lt (g l j) (g l ((j - 1) / 2))) : HeapFrom lt l l.length 0 := by
  intro k h0 hk _
  by_cases e : k = j
  · subst e
    rcases hd with hd | hd
    · omega
    · exact hd
  · exact h.2.1 k h0 hk e
theorem up_step {lt : Nat → Nat → Prop} (o : Ord lt) {l : List Nat} {j : Nat} (h : UpInv lt l j) (hj : 0 < j) (hl : lt (g l j) (g l ((j - 1) / 2))) : UpInv lt (sw l ((j - 1) / 2) j) ((j - 1) / 2) := by
  obtain ⟨h1, h2, h3⟩ := h
  obtain ⟨i, hi⟩ : ∃ i, (j - 1) / 2 = i := ⟨_, rfl⟩
  rw [hi] at hl ⊢
  have hij : i < j := by omega
  have hil : i < l.length := by omega
  have S := sw_at l i j hil h1
  have Si : g (sw l i j) i = g l j := by rw [S, if_neg (by omega), if_pos rfl]
  have Sj : g (sw l i j) j = g l i := by rw [S, if_pos rfl]
  have So : ∀ k, k ≠ i → k ≠ j → g (sw l i j) k = g l k := fun k a b => by rw [S, if_neg b, if_neg a]
  have h3' := h3 hj
  rw [hi] at h3'
  refine ⟨by rw [sw_len]; exact hil, fun k hk0 hk hki => ?_, fun hi0 c hc0 hc hci => ?_⟩
  · rw [sw_len] at hk
    by_cases e : k = j
    · subst e; rw [hi, Sj, Si]; exact o.asym hl
    · by_cases e1 : (k - 1) / 2 = j
      · rw [e1, Sj, So k hki e]; exact h3' k hk0 hk e1
      · by_cases e2 : (k - 1) / 2 = i
        · rw [e2, Si, So k hki e]
          have a := h2 k hk0 hk e
          rw [e2] at a
          exact o.ntr _ _ _ (o.asym hl) a
        · rw [So k hki e, So _ e2 e1]; exact h2 k hk0 hk e
  · rw [sw_len] at hc
    have hp : (i - 1) / 2 ≠ i := by omega
    have hp2 : (i - 1) / 2 ≠ j := by omega
    have hI := h2 i hi0 hil (by omega)
    rw [So _ hp hp2]
    by_cases e : c = j
    · subst e; rw [Sj]; exact hI
    · rw [So c (by omega) e]
      have a := h2 c hc0 hc e
      rw [hci] at a
      exact o.ntr _ _ _ hI a
theorem up_start {lt : Nat → Nat → Prop} {l : List Nat} (h : HeapFrom lt l l.length 0) (x : Nat) : UpInv lt (l ++ [x]) l.length := by
  have e : ∀ k, k < l.length → g (l ++ [x]) k = g l k := fun k hk => by unfold g; rw [List.getD_eq_getElem?_getD, List.getD_eq_getElem?_getD, List.getElem?_append_left hk]
  refine ⟨by simp, fun k h0 hk hne => ?_, fun _ c h0 hc hcl => ?_⟩
  · rw [List.length_append, List.length_singleton] at hk
    rw [e k (by omega), e _ (by omega)]
    exact h k h0 (by omega) (Nat.zero_le _)
  · rw [List.length_append, List.length_singleton] at hc
    omega

/-! ### down, among the first n -/
def DnInv (lt : Nat → Nat → Prop) (l : List Nat) (n i0 i : Nat) : Prop :=
  n ≤ l.length ∧ i0 ≤ i ∧ (∀ k, 0 < k → k < n → i0 ≤ (k - 1) / 2 → (k - 1) / 2 ≠ i → ¬ lt (g l k) (g l ((k - 1) / 2))) ∧
    (i0 < i → i0 ≤ (i - 1) / 2 ∧ ∀ c, 0 < c → c < n → (c - 1) / 2 = i → ¬ lt (g l c) (g l ((i - 1) / 2)))
theorem dn_start {lt : Nat → Nat → Prop} {l : List Nat} {n i0 : Nat} (hn : n ≤ l.length) (h : HeapFrom lt l n (i0 + 1)) : DnInv lt l n i0 i0 :=
  ⟨hn, Nat.le_refl _, fun k h0 hk hi hne => h k h0 hk (by omega), fun a => by omega⟩
theorem dn_done {lt : Nat → Nat → Prop} {l : List Nat} {n i0 i : Nat} (h : DnInv lt l n i0 i) (hd : ∀ c, 0 < c → c < n → (c - 1) / 2 = i → ¬ lt (g l c) (g l i)) : HeapFrom lt l n i0 := by
  intro k h0 hk hi
  by_cases e : (k - 1) / 2 = i
  · rw [e]; exact hd k h0 hk e
  · exact h.2.2.1 k h0 hk hi e
theorem dn_step {lt : Nat → Nat → Prop} (o : Ord lt) {l : List Nat} {n i0 i j : Nat} (h : DnInv lt l n i0 i) (hj0 : 0 < j) (hj : j < n) (hji : (j - 1) / 2 = i)
    (hm : ∀ c, 0 < c → c < n → (c - 1) / 2 = i → ¬ lt (g l c) (g l j)) (hl : lt (g l j) (g l i)) : DnInv lt (sw l i j) n i0 j := by
  obtain ⟨h1, h2, h3, h4⟩ := h
  have hij : i < j := by omega
  have S := sw_at l i j (by omega) (by omega)
  have Si : g (sw l i j) i = g l j := by rw [S, if_neg (by omega), if_pos rfl]
  have Sj : g (sw l i j) j = g l i := by rw [S, if_pos rfl]
  have So : ∀ k, k ≠ i → k ≠ j → g (sw l i j) k = g l k := fun k a b => by rw [S, if_neg b, if_neg a]
  refine ⟨by rw [sw_len]; exact h1, by omega, fun k hk0 hk hi hne => ?_, fun _ => ⟨by omega, fun c hc0 hc hcj => ?_⟩⟩
  · by_cases e : k = j
    · subst e; rw [hji, Sj, Si]; exact o.asym hl
    · by_cases e1 : (k - 1) / 2 = i
      · rw [e1, Si, So k (by omega) e]; exact hm k hk0 hk e1
      · by_cases e2 : k = i
        · subst e2
          rw [Si, So _ (by omega) (by omega)]
          exact (h4 (by omega)).2 j hj0 hj hji
        · rw [So k e2 e, So _ e1 hne]; exact h3 k hk0 hk hi e1
  · rw [hji, Si, So c (by omega) (by omega)]
    have a := h3 c hc0 hc (by omega) (by omega)
    rw [hcj] at a
    exact a
theorem heap_root {lt : Nat → Nat → Prop} (o : Ord lt) {l : List Nat} {n : Nat} (h : HeapFrom lt l n 0) : ∀ k, k < n → ¬ lt (g l k) (g l 0) := by
  intro k
  induction k using Nat.strongRecOn with
  | _ k ih =>
    intro hk
    by_cases e : k = 0
    · subst e; exact o.irr _
    · exact o.ntr _ _ _ (ih ((k - 1) / 2) (by omega) (by omega)) (h k (by omega) hk (Nat.zero_le _))
/-- Of a heap, with its first and its last one changed for one another, down is to be gone from the first. -/
theorem pop_start {lt : Nat → Nat → Prop} {l : List Nat} {n : Nat} (hn : l.length = n + 1) (h : HeapFrom lt l (n + 1) 0) : DnInv lt (sw l 0 n) n 0 0 := by
  have S := sw_at l 0 n (by omega) (by omega)
  refine dn_start (by rw [sw_len]; omega) fun k h0 hk hi => ?_
  rw [S, if_neg (by omega), if_neg (by omega), S, if_neg (by omega), if_neg (by omega)]
  exact h k h0 (by omega) (Nat.zero_le _)

/-! ### one after the other -/
def PopInv (lt : Nat → Nat → Prop) (all out l : List Nat) : Prop :=
  (out ++ l).Perm all ∧ out.Pairwise (fun a b => ¬ lt b a) ∧ (∀ a ∈ out, ∀ b ∈ l, ¬ lt b a) ∧ HeapFrom lt l l.length 0
theorem split_last (c : List Nat) (n : Nat) (h : c.length = n + 1) : c = c.take n ++ [g c n] := by
  have h' : n < c.length := by omega
  rw [g_eq c n h']
  have := List.take_append_getElem h'
  rw [this, List.take_of_length_le (by omega)]
theorem pop_next {lt : Nat → Nat → Prop} (o : Ord lt) {all out l c : List Nat} {n : Nat} (h : PopInv lt all out l) (hn : l.length = n + 1) (hc : c.Perm (sw l 0 n)) (hcn : g c n = g (sw l 0 n) n) (hh : HeapFrom lt c n 0) :
    g c n = g l 0 ∧ PopInv lt all (out ++ [g l 0]) (c.take n) := by
  obtain ⟨h1, h2, h3, h4⟩ := h
  have p := hc.trans (sw_perm l 0 n (by omega) (by omega))
  have hl : c.length = n + 1 := by rw [p.length_eq]; exact hn
  have e : g c n = g l 0 := by rw [hcn, sw_at l 0 n (by omega) (by omega), if_pos rfl]
  have sp := split_last c n hl
  rw [e] at sp
  have mem : ∀ b, b ∈ c.take n → b ∈ l := fun b hb => p.mem_iff.1 (List.mem_of_mem_take hb)
  refine ⟨e, ?_, ?_, ?_, ?_⟩
  · refine List.Perm.trans ?_ h1
    rw [List.append_assoc]
    refine List.Perm.append_left _ ?_
    refine List.Perm.trans List.perm_append_comm ?_
    rw [← sp]; exact p
  · rw [List.pairwise_append]
    refine ⟨h2, List.pairwise_singleton _ _, fun a ha b hb => ?_⟩
    rw [List.mem_singleton.1 hb]
    exact h3 a ha _ (g_mem l 0 (by omega))
  · intro a ha b hb
    rcases List.mem_append.1 ha with ha | ha
    · exact h3 a ha b (mem b hb)
    · rw [List.mem_singleton.1 ha]
      obtain ⟨i, hi, rfl⟩ := mem_g (mem b hb)
      exact heap_root o h4 i hi
  · have ht : (c.take n).length = n := by rw [List.length_take]; omega
    have gt : ∀ k, k < n → g (c.take n) k = g c k := fun k hk => by unfold g; rw [List.getD_eq_getElem?_getD, List.getD_eq_getElem?_getD, List.getElem?_take, if_pos hk]
    rw [ht]
    intro k h0 hk hi
    rw [gt k hk, gt _ (by omega)]
    exact hh k h0 hk hi

def ltl (f : List Int) (p q : Nat) : Prop := fr f p < fr f q ∨ (fr f p = fr f q ∧ p < q)
theorem ltl_ord (f : List Int) : Ord (ltl f) where
  irr a := by unfold ltl; omega
  tr a b c := by unfold ltl; omega
  ntr a b c := by unfold ltl; omega
theorem ltl_anti (f : List Int) (a b : Nat) (h : ¬ ltl f b a) (k : ¬ ltl f a b) : a = b := by unfold ltl at h k; omega
/-! ### the entries: a place, and the number that stands there -/
def ev (f : List Int) (p : Nat) : List Value := [.int .i64 (p : Int), .int .i64 (fr f p)]
def evs (f : List Int) (l : List Nat) : List Value := l.flatMap (ev f)
theorem evs_append (f : List Int) (a b : List Nat) : evs f (a ++ b) = evs f a ++ evs f b := by simp [evs]
theorem evs_fst (f : List Int) (l : List Nat) (i : Nat) (h : i < l.length) : (evs f l)[i * 2]? = some (.int .i64 (g l i : Int)) := by
  rw [g_eq l i h]
  induction l generalizing i with
  | nil => simp at h
  | cons p l ih =>
    cases i with
    | zero => rfl
    | succ i =>
      rw [evs, List.flatMap_cons, ← evs, List.getElem?_append_right (by simp [ev]; omega)]
      have : (i + 1) * 2 - (ev f p).length = i * 2 := by simp [ev]; omega
      rw [this, ih i (by simpa using h)]; rfl
theorem evs_snd (f : List Int) (l : List Nat) (i : Nat) (h : i < l.length) : (evs f l)[i * 2 + 1]? = some (.int .i64 (fr f (g l i))) := by
  rw [g_eq l i h]
  induction l generalizing i with
  | nil => simp at h
  | cons p l ih =>
    cases i with
    | zero => rfl
    | succ i =>
      rw [evs, List.flatMap_cons, ← evs, List.getElem?_append_right (by simp [ev]; omega)]
      have : (i + 1) * 2 + 1 - (ev f p).length = i * 2 + 1 := by simp [ev]; omega
      rw [this, ih i (by simpa using h)]; rfl
theorem evs_set (f : List Int) (l : List Nat) (i p : Nat) : ((evs f l).set (i * 2) (.int .i64 (p : Int))).set (i * 2 + 1) (.int .i64 (fr f p)) = evs f (l.set i p) := by
  induction l generalizing i with
  | nil => rfl
  | cons q l ih =>
    cases i with
    | zero => rfl
    | succ i =>
      have e : evs f (q :: l) = .int .i64 (q : Int) :: .int .i64 (fr f q) :: evs f l := rfl
      rw [e, show (i + 1) * 2 = i * 2 + 1 + 1 from by omega, List.set_cons_succ, List.set_cons_succ, List.set_cons_succ, List.set_cons_succ, ih]; rfl
theorem evs_take (f : List Int) (l : List Nat) (n : Nat) : (evs f l).take (n * 2) = evs f (l.take n) := by
  induction l generalizing n with
  | nil => simp [evs]
  | cons q l ih =>
    cases n with
    | zero => simp [evs]
    | succ n =>
      have e : evs f (q :: l) = .int .i64 (q : Int) :: .int .i64 (fr f q) :: evs f l := rfl
      rw [e, show (n + 1) * 2 = n * 2 + 1 + 1 from by omega, List.take_succ_cons, List.take_succ_cons, ih, List.take_succ_cons]; rfl
/-- Block A holds a queue of these places; its row lies in v. -/
def Qu (W : World) (A : Nat) (v : Value) (f : List Int) (l : List Nat) : Prop :=
  Blk W A #[v] 134 ∧ W.ownsRow 0 105 2 v l.length (evs f l) ∧ v.ownBlock ≠ some A
theorem qu_kept {W W' : World} {S : Nat → Prop} {A : Nat} {v : Value} {f : List Int} {l : List Nat} (h : Qu W A v f l) (c : Chg S W W') (hS : ∀ k, foot A v k → ¬ S k) : Qu W' A v f l :=
  ⟨blk_kept h.1 c (hS A (.inl rfl)), own_kept h.2.1 c (fun k hk => hS k (.inr hk)), h.2.2⟩
theorem qu_cell {W : World} {A : Nat} {v : Value} {f : List Int} {l : List Nat} (h : Qu W A v f l) : W.cell? ⟨A, 0, none⟩ = some v ∧ W.frozen? ⟨A, 0, none⟩ = false :=
  ⟨by rw [blk_cell h.1]; rfl, blk_free h.1 0⟩
theorem qu_val {W : World} {A : Nat} {v : Value} {f : List Int} {l : List Nat} (h : Qu W A v f l) : ∃ a cap, v = .slice a l.length cap ∧ l.length ≤ cap ∧ (0 < l.length → ∃ b, a = some ⟨b, 0, none⟩) := by
  rcases h.2.1.2 with ⟨hv, hn⟩ | ⟨b, cap, cur, hv, _, _, hc, _⟩
  · exact ⟨none, 0, by rw [hv, hn], by omega, fun h0 => by omega⟩
  · exact ⟨_, cap, hv, hc, fun _ => ⟨b, rfl⟩⟩

theorem assert_entry (p q : Int) (W : World) : (Instr.typeAssert (.iface 105 (.agg #[.int .i64 p, .int .i64 q])) 20 105 false).run Try.prog W = .ok (.agg #[.int .i64 p, .int .i64 q]) W := by kernel_rfl
theorem infoQ (W : World) : (typeInfo 101).run Try.prog W = .ok (Try.prog.info? 101).get! W := by kernel_rfl
theorem recvQ (A : Nat) (v : Value) (nm : String) (W : World) (h : W.cell? ⟨A, 0, none⟩ = some v) :
    (receiverAt 101 (.val (.pointer (some ⟨A, 0, none⟩))) false (some nm)).run Try.prog W = .ok v W := by
  have ck : (Builtin.ssaWrapNilChk_ #[101] 101 #[.pointer (some ⟨A, 0, none⟩), strVal "", strVal nm]).run Try.prog W = .ok (.pointer (some ⟨A, 0, none⟩)) W := by kernel_rfl
  have st : Sem.run Try.prog (underlying 101) W = .ok (.pointer 134) W := by kernel_rfl
  unfold receiverAt
  simp only [Sem.run_bind, st, Result.andThen_ok]
  simp [Place.get, ck, loadVar, go_sem, h]
theorem method_less (A : Nat) (v : Value) (W : World) (h : W.cell? ⟨A, 0, none⟩ = some v) :
    (method 262 101 (.pointer (some ⟨A, 0, none⟩)) "Less").run Try.prog W = .ok (90, v) W := by
  have fi : (Try.prog.info? 101).get!.methods.find? (·.name == "Less") = some ⟨ "Less", 146, #[], some (90, false)⟩ := by kernel_rfl
  unfold method
  simp only [Sem.run_bind, infoQ, Result.andThen_ok, fi]
  simp [follow, recvQ A v _ W h, go_sem]
theorem method_len (A : Nat) (v : Value) (W : World) (h : W.cell? ⟨A, 0, none⟩ = some v) :
    (method 262 101 (.pointer (some ⟨A, 0, none⟩)) "Len").run Try.prog W = .ok (46, v) W := by
  have fi : (Try.prog.info? 101).get!.methods.find? (·.name == "Len") = some ⟨ "Len", 103, #[], some (46, false)⟩ := by kernel_rfl
  unfold method
  simp only [Sem.run_bind, infoQ, Result.andThen_ok, fi]
  simp [follow, recvQ A v _ W h, go_sem]
theorem method_swap (A : Nat) (v : Value) (W : World) (h : W.cell? ⟨A, 0, none⟩ = some v) :
    (method 262 101 (.pointer (some ⟨A, 0, none⟩)) "Swap").run Try.prog W = .ok (93, v) W := by
  have fi : (Try.prog.info? 101).get!.methods.find? (·.name == "Swap") = some ⟨ "Swap", 143, #[], some (93, false)⟩ := by kernel_rfl
  unfold method
  simp only [Sem.run_bind, infoQ, Result.andThen_ok, fi]
  simp [follow, recvQ A v _ W h, go_sem]
theorem len_q (a : Option Addr) (n cap : Nat) (W : World) : Calls Try.prog 46 #[.slice a n cap] W fun e W' => e = .returned (.int .i64 n) ∧ W' = W := by
  go_enter Try.func46, Try.ntmps46
  go_wp2
  go_ret
  exact ⟨rfl, rfl⟩

set_option maxRecDepth 100000 in
set_option maxHeartbeats 1000000 in
theorem less_any (b n cap i j p q : Nat) (x y : Int) (W : World) (hi : i < n) (hj : j < n) (_hn : n ≤ 100000)
    (ci : W.cell? ⟨b, i * 2, none⟩ = some (.int .i64 (p : Int))) (ci1 : W.cell? ⟨b, i * 2 + 1, none⟩ = some (.int .i64 x))
    (cj : W.cell? ⟨b, j * 2, none⟩ = some (.int .i64 (q : Int))) (cj1 : W.cell? ⟨b, j * 2 + 1, none⟩ = some (.int .i64 y)) :
    Calls Try.prog 90 #[.slice (some ⟨b, 0, none⟩) n cap, .int .i64 i, .int .i64 j] W fun e W' => e = .returned (.bool (decide (x < y ∨ (x = y ∧ p < q)))) ∧ Chg (fun _ => False) W W' := by
  by_cases h : x = y
  · have t : (x == y) = true := by simp [h]
    have D : Hid (decide (x < y ∨ (x = y ∧ p < q)) = decide (p < q)) := by show _ = _; simp [h]
    clear h
    go_enter Try.func90, Try.ntmps90
    go_wp2_with fail
    go_quiet (fail)
    go_wp2_with fail
    go_quiet (fail)
    go_wp2_with fail
    go_ret
    rw [D.out]
    exact ⟨rfl, drewN_chg _ _⟩
  · have t : (x == y) = false := by simp [h]
    have D : Hid (decide (x < y ∨ (x = y ∧ p < q)) = decide (x < y)) := by show _ = _; simp [h]
    clear h
    go_enter Try.func90, Try.ntmps90
    go_wp2_with fail
    go_quiet (fail)
    go_wp2_with fail
    go_quiet (fail)
    go_wp2_with fail
    go_ret
    rw [D.out]
    exact ⟨rfl, drewN_chg _ _⟩

theorem evs_sw (f : List Int) (l : List Nat) (i j : Nat) : ((((evs f l).set (i * 2) (.int .i64 (g l j : Int))).set (i * 2 + 1) (.int .i64 (fr f (g l j)))).set (j * 2) (.int .i64 (g l i : Int))).set (j * 2 + 1) (.int .i64 (fr f (g l i))) = evs f (sw l i j) := by
  rw [evs_set, evs_set]; rfl

def llb (f : List Int) (p q : Nat) : Bool := decide (fr f p < fr f q ∨ (fr f p = fr f q ∧ p < q))
theorem llb_iff (f : List Int) (p q : Nat) : llb f p q = true ↔ ltl f p q := by unfold llb ltl; simp
theorem llb_not (f : List Int) (p q : Nat) : llb f p q = false ↔ ¬ ltl f p q := by rw [← llb_iff]; simp
set_option maxRecDepth 100000 in
set_option maxHeartbeats 400000 in
theorem swap_walk (b n cap i j : Nat) (p q x y : Int) (W : World) (hi : i < n) (hj : j < n) (_hn : n ≤ 100000)
    (ci : W.cell? ⟨b, i * 2, none⟩ = some (.int .i64 p)) (ci1 : W.cell? ⟨b, i * 2 + 1, none⟩ = some (.int .i64 x))
    (cj : W.cell? ⟨b, j * 2, none⟩ = some (.int .i64 q)) (cj1 : W.cell? ⟨b, j * 2 + 1, none⟩ = some (.int .i64 y))
    (fi : W.frozen? ⟨b, i * 2, none⟩ = false) (fi1 : W.frozen? ⟨b, i * 2 + 1, none⟩ = false) (fj : W.frozen? ⟨b, j * 2, none⟩ = false) (fj1 : W.frozen? ⟨b, j * 2 + 1, none⟩ = false) :
    Calls Try.prog 93 #[.slice (some ⟨b, 0, none⟩) n cap, .int .i64 i, .int .i64 j] W fun e W' => e = .returned (.tuple #[]) ∧
      W' = (((W.drew.setCell ⟨b, i * 2, none⟩ (.int .i64 q)).setCell ⟨b, i * 2 + 1, none⟩ (.int .i64 y)).setCell ⟨b, j * 2, none⟩ (.int .i64 p)).setCell ⟨b, j * 2 + 1, none⟩ (.int .i64 x) := by
  have zi : (0 : Int) ≤ (i : Int) := by omega
  have zj : (0 : Int) ≤ (j : Int) := by omega
  have li : (i : Int) < (n : Int) := by omega
  have lj : (j : Int) < (n : Int) := by omega
  by_cases hne : i = j
  · subst hne
    obtain rfl : p = q := by rw [ci] at cj; injection cj with cj; injection cj
    obtain rfl : x = y := by rw [ci1] at cj1; injection cj1 with cj1; injection cj1
    clear cj cj1 fj fj1 zj lj hj
    go_enter Try.func93, Try.ntmps93
    go_wp2_with fail
    go_region
    all_goals
      go_wp2_with fail
      go_returns
      exact ⟨rfl, rfl⟩
  · go_enter Try.func93, Try.ntmps93
    go_wp2_with fail
    go_region
    all_goals
      go_wp2_with fail
      go_returns
      exact ⟨rfl, rfl⟩

theorem swap_any (b cap i j : Nat) (f : List Int) (l : List Nat) (W : World) (hi : i < l.length) (hj : j < l.length) (hn : l.length ≤ 100000)
    (h : W.ownsRow 0 105 2 (.slice (some ⟨b, 0, none⟩) l.length cap) l.length (evs f l)) :
    Calls Try.prog 93 #[.slice (some ⟨b, 0, none⟩) l.length cap, .int .i64 i, .int .i64 j] W fun e W' => e = .returned (.tuple #[]) ∧ W'.ownsRow 0 105 2 (.slice (some ⟨b, 0, none⟩) l.length cap) l.length (evs f (sw l i j)) ∧ Chg (· = b) W W' := by
  obtain ⟨ci, _, fi⟩ := own_there h (i * 2) (by omega)
  obtain ⟨ci1, _, fi1⟩ := own_there h (i * 2 + 1) (by omega)
  obtain ⟨cj, _, fj⟩ := own_there h (j * 2) (by omega)
  obtain ⟨cj1, _, fj1⟩ := own_there h (j * 2 + 1) (by omega)
  refine (swap_walk b l.length cap i j _ _ _ _ W hi hj hn (ci.trans (evs_fst f l i hi)) (ci1.trans (evs_snd f l i hi)) (cj.trans (evs_fst f l j hj)) (cj1.trans (evs_snd f l j hj)) fi fi1 fj fj1).mono ?_
  rintro e W' ⟨rfl, rfl⟩
  refine ⟨rfl, ?_, chg_in (chg_in (chg_in (chg_in (chg_drew (chg_refl _ W)) _ _) _ _) _ _) _ _⟩
  have h' := own_drew h
  have k := own_set (own_set (own_set (own_set h' (i * 2) (.int .i64 (g l j : Int))) (i * 2 + 1) (.int .i64 (fr f (g l j)))) (j * 2) (.int .i64 (g l i : Int))) (j * 2 + 1) (.int .i64 (fr f (g l i)))
  rw [evs_sw] at k
  exact k
theorem less_at (b cap i j : Nat) (f : List Int) (l : List Nat) (W : World) (hi : i < l.length) (hj : j < l.length) (hn : l.length ≤ 100000)
    (h : W.ownsRow 0 105 2 (.slice (some ⟨b, 0, none⟩) l.length cap) l.length (evs f l)) :
    Calls Try.prog 90 #[.slice (some ⟨b, 0, none⟩) l.length cap, .int .i64 i, .int .i64 j] W fun e W' => e = .returned (.bool (llb f (g l i) (g l j))) ∧ Chg (fun _ => False) W W' := by
  exact less_any b l.length cap i j (g l i) (g l j) (fr f (g l i)) (fr f (g l j)) W hi hj hn ((own_there h (i * 2) (by omega)).1.trans (evs_fst f l i hi)) ((own_there h (i * 2 + 1) (by omega)).1.trans (evs_snd f l i hi)) ((own_there h (j * 2) (by omega)).1.trans (evs_fst f l j hj)) ((own_there h (j * 2 + 1) (by omega)).1.trans (evs_snd f l j hj))

theorem push_factsq {w1 w2 : World} {A : Nat} {v1 : Value} (hb1 : Blk w1 A #[v1] 134) (d3 : v1.ownBlock ≠ some A) (g2 : w1.grownBy w2 v1.ownBlock) :
    w2.cell? ⟨A, 0, none⟩ = some v1 ∧ w2.frozen? ⟨A, 0, none⟩ = false ∧ Hid (Blk w2 A #[v1] 134) := by
  have hb : Blk w2 A #[v1] 134 := (g2.block A (blk_lt hb1) (fun e => d3 e.symm)).trans hb1
  exact ⟨by rw [blk_cell hb]; rfl, blk_free hb 0, hb⟩
theorem qu_step {W w1 w2 : World} {A n : Nat} {v1 v2 : Value} {xs : List Value} (d1 : Blk W A #[v1] 134) (d3 : v1.ownBlock ≠ some A)
    (h1 : Chg (fun _ => False) W w1) (g7 : Blk w2 A #[v1] 134) (G1 : w2.ownsRow 0 105 2 v2 n xs) (G2 : w1.grownBy w2 v1.ownBlock) (G3 : Moved w1 v1 v2) :
    Blk (w2.setCell ⟨A, 0, none⟩ v2) A #[v2] 134 ∧ (w2.setCell ⟨A, 0, none⟩ v2).ownsRow 0 105 2 v2 n xs ∧ v2.ownBlock ≠ some A ∧ Chg (foot A v1) W (w2.setCell ⟨A, 0, none⟩ v2) ∧ Moved W v1 v2 := by
  have hA : A < w1.heap.size := Nat.lt_of_lt_of_le (blk_lt d1) (chg_size h1)
  have hne : v2.ownBlock ≠ some A := fun e => by
    rcases G3 A e with h | h
    · exact d3 h
    · omega
  have c1 : Chg (foot A v1) W w1 := chg_mono h1 (fun _ _ h => h.elim)
  have c2 : Chg (foot A v1) W w2 := chg_grown c1 G2 (fun k hk _ => .inr hk)
  refine ⟨by simpa using blk_set g7 0 v2, own_kept (S := (· = A)) G1 (chg_set (chg_refl _ _) _ _ (fun _ => rfl)) (fun k hk e => hne (by rw [hk, e])), hne, chg_set c2 _ _ (fun _ => .inl rfl), fun k hk => ?_⟩
  rcases G3 k hk with h | h
  · exact .inl h
  · exact .inr (Nat.le_trans (chg_size c1) h)
theorem two_new (w : World) (x y : Value) (t : TypeId) : ∀ j u, [x, y][j]? = some u → (w.alloc (.cells #[x, y] t)).cell? ((⟨w.heap.size, 0, none⟩ : Addr).add j) = some u := by
  intro j u hj
  rw [Addr.add_lit, blk_cell (blk_new w #[x, y] t), ← hj]
  simp
set_option maxRecDepth 100000 in
set_option maxHeartbeats 1000000 in
theorem qpush_any (A : Nat) (v : Value) (f : List Int) (l : List Nat) (p : Nat) (x : Int) (W : World) (h : Qu W A v f l) (hx : x = fr f p) (hl : l.length ≤ 1000) :
    Calls Try.prog 92 #[.pointer (some ⟨A, 0, none⟩), .iface 105 (.agg #[.int .i64 (p : Int), .int .i64 x])] W fun e W' => e = .returned (.tuple #[]) ∧ ∃ v', Qu W' A v' f (l ++ [p]) ∧ Chg (foot A v) W W' ∧ Moved W v v' := by
  obtain ⟨c0, f0⟩ := qu_cell h
  obtain ⟨i0, hi, hz, hs, hb⟩ := info_all info105
  have ae := assert_entry
  obtain ⟨d1, d2, d3⟩ := h
  have hlt := blk_lt d1
  have HX : Hid (evs f (l ++ [p]) = evs f l ++ [.int .i64 (p : Int), .int .i64 x]) := by show _ = _; rw [hx, evs_append]; rfl
  clear hx
  have HL : Hid ((l ++ [p]).length = l.length + 1) := by show _ = _; simp
  go_enter Try.func92, Try.ntmps92
  go_wp2_with fail
  go_region_law (refine step_push rfl (.tmp 7) (.tmp 10) 134 rfl 105 i0 (.agg #[.int .i64 0, .int .i64 0]) 2 16 Try.underlying134 hi hz hs hb rfl (by decide) (by decide) v l.length (evs f l) rfl (World.ownsRow.alloc (own_drew d2) _) ⟨W.heap.size, 0, none⟩ 1 1 [.int .i64 (p : Int), .int .i64 x] rfl rfl (two_new _ _ _ _) (by intro u hu; simp at hu; rcases hu with rfl | rfl <;> rfl) (by omega) ?_; intro v2 w2 g1 g2 g3; obtain ⟨g5, g6, g7⟩ := push_factsq (blk_alloc (blk_drew d1) _) d3 g2; have G1 := Hid.intro g1; have G2 := Hid.intro g2; have G3 := Hid.intro g3; obtain ⟨b, cap, rfl⟩ := own_slice g1 (Nat.succ_pos _); clear g1 g2 g3)
  all_goals
    obtain ⟨k1, k2, k3, k4, k5⟩ := qu_step d1 d3 (chg_alloc (chg_drew (chg_refl _ W)) _) g7.out G1.out G2.out G3.out
    go_wp2_with fail
    go_returns
    exact ⟨rfl, _, ⟨k1, by rw [HX.out, HL.out]; exact k2, k3⟩, k4, k5⟩

theorem less_n {n b cap i j : Nat} {f : List Int} {l : List Nat} {W : World} {A : Nat} (h : Qu W A (.slice (some ⟨b, 0, none⟩) n cap) f l) (hl : l.length = n) (hi : i < n) (hj : j < n) (hn : n ≤ 1001) :
    Calls Try.prog 90 #[.slice (some ⟨b, 0, none⟩) n cap, .int .i64 i, .int .i64 j] W fun e W' => e = .returned (.bool (llb f (g l i) (g l j))) ∧ Chg (fun _ => False) W W' := by
  subst hl
  exact less_at b cap i j f l W hi hj (by omega) h.2.1
theorem swap_n {n b cap i j : Nat} {f : List Int} {l : List Nat} {W : World} {A : Nat} (h : Qu W A (.slice (some ⟨b, 0, none⟩) n cap) f l) (hl : l.length = n) (hi : i < n) (hj : j < n) (hn : n ≤ 1001) :
    Calls Try.prog 93 #[.slice (some ⟨b, 0, none⟩) n cap, .int .i64 i, .int .i64 j] W fun e W' => e = .returned (.tuple #[]) ∧ Qu W' A (.slice (some ⟨b, 0, none⟩) n cap) f (sw l i j) ∧ Chg (foot A (.slice (some ⟨b, 0, none⟩) n cap)) W W' := by
  subst hl
  refine (swap_any b cap i j f l W hi hj (by omega) h.2.1).mono ?_
  rintro e W' ⟨rfl, k1, k2⟩
  refine ⟨rfl, ⟨blk_kept h.1 k2 (fun e => h.2.2 (by rw [e]; rfl)), by rw [sw_len]; exact k1, h.2.2⟩, chg_mono k2 (fun k _ e => .inr (by rw [e]; rfl))⟩
theorem no_foot {A : Nat} {v : Value} {a b : World} (h : Chg (fun _ => False) a b) : Chg (foot A v) a b := chg_mono h (fun _ _ h => h.elim)
theorem qu_no {W W' : World} {A : Nat} {v : Value} {f : List Int} {l : List Nat} (h : Qu W A v f l) (c : Chg (fun _ => False) W W') : Qu W' A v f l := qu_kept h c (fun _ _ h => h)
def UpRel (A : Nat) (v : Value) (f : List Int) (l : List Nat) (W : World) (sv : Value) (wr : World) : Prop :=
  ∃ (j : Nat) (l' : List Nat), sv = .int .i64 j ∧ Qu wr A v f l' ∧ l'.Perm l ∧ UpInv (ltl f) l' j ∧ Chg (foot A v) W wr
set_option maxRecDepth 100000 in
set_option maxHeartbeats 1000000 in
theorem up_any (A : Nat) (v : Value) (f : List Int) (l : List Nat) (j : Nat) (W : World) (h : Qu W A v f l) (hu : UpInv (ltl f) l j) (hl : l.length ≤ 1001) :
    Calls Try.prog 71 #[.iface 101 (.pointer (some ⟨A, 0, none⟩)), .int .i64 j] W fun e W' => e = .returned (.tuple #[]) ∧ ∃ l', Qu W' A v f l' ∧ l'.Perm l ∧ HeapFrom (ltl f) l' l'.length 0 ∧ Chg (foot A v) W W' := by
  have hl0 : 0 < l.length := by have := hu.1; omega
  obtain ⟨b, cap, rfl⟩ := own_slice h.2.1 hl0
  obtain ⟨n, hn⟩ : ∃ n, l.length = n := ⟨_, rfl⟩
  rw [hn] at h hl hl0 ⊢
  have HN := Hid.intro hn
  clear hn
  go_enter Try.func71, Try.ntmps71
  go_wp2_with fail
  go_loopw [1] (fun sv wr => UpRel A (.slice (some ⟨b, 0, none⟩) n cap) f l W sv wr) (fun sv _ => (intOf sv).toNat)
  case atStart => exact ⟨j, l, rfl, h, List.Perm.refl _, hu, chg_refl _ _⟩
  case round =>
    clear h hu
    obtain ⟨j, l', rfl, d1, d2, d3, d4⟩ := hrel
    have e2 := Hid.intro (d2.length_eq.trans HN.out)
    obtain ⟨c0, f0⟩ := qu_cell d1
    have hjl : j < n := by have := d3.1; have := e2.out; omega
    have ml := method_less A _ wr c0
    by_cases hj : j = 0
    · subst hj
      go_wp2_with fail
      go_returns
      exact ⟨rfl, l', d1, d2, up_done d3 (.inl rfl), d4⟩
    · obtain ⟨k, hk⟩ : ∃ k, (j - 1) / 2 = k := ⟨_, rfl⟩
      have hki : ((j : Int) - 1) / 2 = (k : Int) := by omega
      have t : ((k : Int) == (j : Int)) = false := by simp; omega
      have LS := less_n (i := j) (j := k) d1 e2.out hjl (by omega) (by omega)
      by_cases hb : llb f (g l' j) (g l' k) = true
      · rw [hb] at LS
        have u := up_step (ltl_ord f) d3 (by omega) (by rw [hk]; exact (llb_iff _ _ _).1 hb)
        rw [hk] at u
        have hkj : k < j := by omega
        clear hb
        go_wp2_with fail
        refine LS.mono ?_
        rintro e w1 ⟨rfl, q1⟩
        have d1' := qu_no d1 q1
        obtain ⟨c1, _⟩ := qu_cell d1'
        have ms := method_swap A _ w1 c1
        have SW := swap_n (i := k) (j := j) d1' e2.out (by omega) hjl (by omega)
        clear LS ml c0 f0 d1
        go_wp2_with fail
        refine SW.mono ?_
        rintro e w2 ⟨rfl, k1, k2⟩
        clear SW ms c1 d1' hk
        go_wp2_with fail
        go_roundw
        case rel => exact ⟨k, sw l' k j, rfl, k1, (sw_perm l' k j (by have := e2.out; omega) (by have := e2.out; omega)).trans d2, u, chg_same (chg_same d4 (no_foot q1)) k2⟩
        case measure => simp [intOf]; omega
      · have hbf : llb f (g l' j) (g l' k) = false := by simpa using hb
        rw [hbf] at LS
        have u := up_done d3 (.inr (by rw [hk]; exact (llb_not _ _ _).1 hbf))
        clear hb hbf
        go_wp2_with fail
        refine LS.mono ?_
        rintro e w1 ⟨rfl, q1⟩
        clear LS ml
        go_wp2_with fail
        go_returns
        exact ⟨rfl, l', qu_no d1 q1, d2, u, chg_same d4 (no_foot q1)⟩

def DnRel (A : Nat) (v : Value) (f : List Int) (l : List Nat) (n : Nat) (W : World) (sv : Value) (wr : World) : Prop :=
  ∃ (i : Nat) (l' : List Nat), sv = .int .i64 i ∧ i ≤ n ∧ Qu wr A v f l' ∧ l'.Perm l ∧ g l' n = g l n ∧ DnInv (ltl f) l' n 0 i ∧ Chg (foot A v) W wr
set_option maxRecDepth 100000 in
set_option maxHeartbeats 2000000 in
theorem down_any (A : Nat) (v : Value) (f : List Int) (l : List Nat) (n : Nat) (W : World) (h : Qu W A v f l) (hu : DnInv (ltl f) l n 0 0) (hn : l.length = n + 1) (hl : n ≤ 1000) :
    Calls Try.prog 72 #[.iface 101 (.pointer (some ⟨A, 0, none⟩)), .int .i64 0, .int .i64 n] W fun e W' => ∃ r, e = .returned (.bool r) ∧ ∃ l', Qu W' A v f l' ∧ l'.Perm l ∧ g l' n = g l n ∧ HeapFrom (ltl f) l' n 0 ∧ Chg (foot A v) W W' := by
  obtain ⟨b, cap, rfl⟩ := own_slice h.2.1 (by omega)
  obtain ⟨m, hm⟩ : ∃ m, l.length = m := ⟨_, rfl⟩
  have hmn : n < m := by omega
  have hm1 : m ≤ 1001 := by omega
  rw [hm] at h ⊢
  have HN := Hid.intro hm
  clear hm hn
  go_enter Try.func72, Try.ntmps72
  go_wp2_with fail
  go_loopw [7] (fun sv wr => DnRel A (.slice (some ⟨b, 0, none⟩) m cap) f l n W sv wr) (fun sv _ => n - (intOf sv).toNat)
  case atStart => exact ⟨0, l, rfl, by omega, h, List.Perm.refl _, rfl, hu, chg_refl _ _⟩
  case round =>
    clear h hu
    obtain ⟨i, l', rfl, hin, d1, d2, d5, d3, d4⟩ := hrel
    have e2 := Hid.intro (d2.length_eq.trans HN.out)
    obtain ⟨c0, f0⟩ := qu_cell d1
    have ml := method_less A _ wr c0
    obtain ⟨a, ha⟩ : ∃ a, 2 * i + 1 = a := ⟨_, rfl⟩
    have e1 : 2 * (i : Int) + 1 = (a : Int) := by omega
    by_cases hA : n ≤ a
    · have u := dn_done d3 (fun c h0 hc hci => by omega)
      have H5 := Hid.intro d5
      clear ha d5
      go_wp2_with fail
      go_returns
      exact ⟨_, rfl, l', d1, d2, H5.out, u, d4⟩
    · obtain ⟨c, hc⟩ : ∃ c, a + 1 = c := ⟨_, rfl⟩
      have e3 : (a : Int) + 1 = (c : Int) := by omega
      have hai : (a - 1) / 2 = i := by omega
      have hci : (c - 1) / 2 = i := by omega
      have hkid : Hid (∀ k, 0 < k → k < n → (k - 1) / 2 = i → k = a ∨ k = c) := fun k h0 h1 h2 => by omega
      have hac : i < a := by omega
      have hac2 : a < c := by omega
      by_cases hC : c < n
      · have L1 := less_n (i := c) (j := a) d1 e2.out (by omega) (by omega) (by omega)
        by_cases hb : llb f (g l' c) (g l' a) = true
        · rw [hb] at L1
          have hm := Hid.intro (fun k h0 h1 h2 => (hkid.out k h0 h1 h2).elim (fun e => by rw [e]; exact (ltl_ord f).asym ((llb_iff _ _ _).1 hb)) (fun e => by rw [e]; exact (ltl_ord f).irr _) : ∀ k, 0 < k → k < n → (k - 1) / 2 = i → ¬ ltl f (g l' k) (g l' c))
          clear hb
          go_wp2_with fail
          with_reducible refine L1.mono ?_
          rintro e wq ⟨rfl, q1⟩
          have d1' := qu_no d1 q1
          obtain ⟨c1, _⟩ := qu_cell d1'
          have ml' := method_less A _ wq c1
          have L2 := less_n (i := c) (j := i) d1' e2.out (by omega) (by omega) (by omega)
          by_cases hs : llb f (g l' c) (g l' i) = true
          · rw [hs] at L2
            have u := dn_step (ltl_ord f) d3 (by omega) (by omega) hci hm.out ((llb_iff _ _ _).1 hs)
            have gn : Hid (g (sw l' i c) n = g l n) := by
              show _ = _
              have := e2.out
              rw [sw_at l' i c (by omega) (by omega), if_neg (by omega), if_neg (by omega)]
              exact d5
            clear hs L1 ml c0 f0 d1 d5 ha hc hai hci
            go_wp2_with fail
            with_reducible refine L2.mono ?_
            rintro e w2 ⟨rfl, q2⟩
            have d1'' := qu_no d1' q2
            obtain ⟨c2, _⟩ := qu_cell d1''
            have ms := method_swap A _ w2 c2
            have SW := swap_n (i := i) (j := c) d1'' e2.out (by omega) (by omega) (by omega)
            clear L2 ml' c1 d1'
            go_wp2_with fail
            with_reducible refine SW.mono ?_
            rintro e w3 ⟨rfl, k1, k2⟩
            clear SW ms c2 d1''
            go_wp2_with fail
            go_roundw
            case rel => exact ⟨c, sw l' i c, rfl, by omega, k1, (sw_perm l' i c (by have := e2.out; omega) (by have := e2.out; omega)).trans d2, gn.out, u, chg_same (chg_same (chg_same d4 (no_foot q1)) (no_foot q2)) k2⟩
            case measure => simp [intOf]; omega
          · have hsf : llb f (g l' c) (g l' i) = false := by simpa using hs
            rw [hsf] at L2
            have u := dn_done d3 (fun k h0 h1 h2 => (ltl_ord f).ntr _ _ _ ((llb_not _ _ _).1 hsf) (hm.out k h0 h1 h2))
            have H5 := Hid.intro d5
            clear hs hsf L1 ml c0 f0 d1 d5 ha hc hai hci
            go_wp2_with fail
            with_reducible refine L2.mono ?_
            rintro e w2 ⟨rfl, q2⟩
            clear L2 ml' c1
            go_wp2_with fail
            go_returns
            exact ⟨_, rfl, l', qu_no d1' q2, d2, H5.out, u, chg_same (chg_same d4 (no_foot q1)) (no_foot q2)⟩
        · have hbf : llb f (g l' c) (g l' a) = false := by simpa using hb
          rw [hbf] at L1
          have hm := Hid.intro (fun k h0 h1 h2 => (hkid.out k h0 h1 h2).elim (fun e => by rw [e]; exact (ltl_ord f).irr _) (fun e => by rw [e]; exact (llb_not _ _ _).1 hbf) : ∀ k, 0 < k → k < n → (k - 1) / 2 = i → ¬ ltl f (g l' k) (g l' a))
          clear hb hbf
          go_wp2_with fail
          with_reducible refine L1.mono ?_
          rintro e wq ⟨rfl, q1⟩
          have d1' := qu_no d1 q1
          obtain ⟨c1, _⟩ := qu_cell d1'
          have ml' := method_less A _ wq c1
          have L2 := less_n (i := a) (j := i) d1' e2.out (by omega) (by omega) (by omega)
          by_cases hs : llb f (g l' a) (g l' i) = true
          · rw [hs] at L2
            have u := dn_step (ltl_ord f) d3 (by omega) (by omega) hai hm.out ((llb_iff _ _ _).1 hs)
            have gn : Hid (g (sw l' i a) n = g l n) := by
              show _ = _
              have := e2.out
              rw [sw_at l' i a (by omega) (by omega), if_neg (by omega), if_neg (by omega)]
              exact d5
            clear hs L1 ml c0 f0 d1 d5 ha hc hai hci
            go_wp2_with fail
            with_reducible refine L2.mono ?_
            rintro e w2 ⟨rfl, q2⟩
            have d1'' := qu_no d1' q2
            obtain ⟨c2, _⟩ := qu_cell d1''
            have ms := method_swap A _ w2 c2
            have SW := swap_n (i := i) (j := a) d1'' e2.out (by omega) (by omega) (by omega)
            clear L2 ml' c1 d1'
            go_wp2_with fail
            with_reducible refine SW.mono ?_
            rintro e w3 ⟨rfl, k1, k2⟩
            clear SW ms c2 d1''
            go_wp2_with fail
            go_roundw
            case rel => exact ⟨a, sw l' i a, rfl, by omega, k1, (sw_perm l' i a (by have := e2.out; omega) (by have := e2.out; omega)).trans d2, gn.out, u, chg_same (chg_same (chg_same d4 (no_foot q1)) (no_foot q2)) k2⟩
            case measure => simp [intOf]; omega
          · have hsf : llb f (g l' a) (g l' i) = false := by simpa using hs
            rw [hsf] at L2
            have u := dn_done d3 (fun k h0 h1 h2 => (ltl_ord f).ntr _ _ _ ((llb_not _ _ _).1 hsf) (hm.out k h0 h1 h2))
            have H5 := Hid.intro d5
            clear hs hsf L1 ml c0 f0 d1 d5 ha hc hai hci
            go_wp2_with fail
            with_reducible refine L2.mono ?_
            rintro e w2 ⟨rfl, q2⟩
            clear L2 ml' c1
            go_wp2_with fail
            go_returns
            exact ⟨_, rfl, l', qu_no d1' q2, d2, H5.out, u, chg_same (chg_same d4 (no_foot q1)) (no_foot q2)⟩
      · have hm := Hid.intro (fun k h0 h1 h2 => (hkid.out k h0 h1 h2).elim (fun e => by rw [e]; exact (ltl_ord f).irr _) (fun e => by omega) : ∀ k, 0 < k → k < n → (k - 1) / 2 = i → ¬ ltl f (g l' k) (g l' a))
        have q1 : Chg (fun _ => False) wr wr := chg_refl _ _
        have d1' := d1
        have L1 := trivial
        obtain ⟨c1, _⟩ := qu_cell d1'
        have ml' := method_less A _ wr c1
        have L2 := less_n (i := a) (j := i) d1' e2.out (by omega) (by omega) (by omega)
        by_cases hs : llb f (g l' a) (g l' i) = true
        · rw [hs] at L2
          have u := dn_step (ltl_ord f) d3 (by omega) (by omega) hai hm.out ((llb_iff _ _ _).1 hs)
          have gn : Hid (g (sw l' i a) n = g l n) := by
            show _ = _
            have := e2.out
            rw [sw_at l' i a (by omega) (by omega), if_neg (by omega), if_neg (by omega)]
            exact d5
          clear hs L1 ml c0 f0 d1 d5 ha hc hai hci
          go_wp2_with fail
          with_reducible refine L2.mono ?_
          rintro e w2 ⟨rfl, q2⟩
          have d1'' := qu_no d1' q2
          obtain ⟨c2, _⟩ := qu_cell d1''
          have ms := method_swap A _ w2 c2
          have SW := swap_n (i := i) (j := a) d1'' e2.out (by omega) (by omega) (by omega)
          clear L2 ml' c1 d1'
          go_wp2_with fail
          with_reducible refine SW.mono ?_
          rintro e w3 ⟨rfl, k1, k2⟩
          clear SW ms c2 d1''
          go_wp2_with fail
          go_roundw
          case rel => exact ⟨a, sw l' i a, rfl, by omega, k1, (sw_perm l' i a (by have := e2.out; omega) (by have := e2.out; omega)).trans d2, gn.out, u, chg_same (chg_same (chg_same d4 (no_foot q1)) (no_foot q2)) k2⟩
          case measure => simp [intOf]; omega
        · have hsf : llb f (g l' a) (g l' i) = false := by simpa using hs
          rw [hsf] at L2
          have u := dn_done d3 (fun k h0 h1 h2 => (ltl_ord f).ntr _ _ _ ((llb_not _ _ _).1 hsf) (hm.out k h0 h1 h2))
          have H5 := Hid.intro d5
          clear hs hsf L1 ml c0 f0 d1 d5 ha hc hai hci
          go_wp2_with fail
          with_reducible refine L2.mono ?_
          rintro e w2 ⟨rfl, q2⟩
          clear L2 ml' c1
          go_wp2_with fail
          go_returns
          exact ⟨_, rfl, l', qu_no d1' q2, d2, H5.out, u, chg_same (chg_same d4 (no_foot q1)) (no_foot q2)⟩

theorem foot_moved {A : Nat} {v v' : Value} {W w1 w2 : World} (h1 : Chg (foot A v) W w1) (hm : Moved W v v') (h2 : Chg (foot A v') w1 w2) : Chg (foot A v) W w2 :=
  chg_trans h1 h2 (fun k hk hf => hf.elim (fun e => .inl e) (fun e => (hm k e).elim (fun e => .inr e) (fun e => by omega)))
set_option maxRecDepth 100000 in
set_option maxHeartbeats 1000000 in
theorem hpush_any (A : Nat) (v : Value) (f : List Int) (l : List Nat) (p : Nat) (x : Int) (W : World) (h : Qu W A v f l) (hh : HeapFrom (ltl f) l l.length 0) (hx : x = fr f p) (hl : l.length ≤ 1000) :
    Calls Try.prog 66 #[.iface 101 (.pointer (some ⟨A, 0, none⟩)), .iface 105 (.agg #[.int .i64 (p : Int), .int .i64 x])] W fun e W' => e = .returned (.tuple #[]) ∧
      ∃ v' l', Qu W' A v' f l' ∧ l'.Perm (l ++ [p]) ∧ HeapFrom (ltl f) l' l'.length 0 ∧ Chg (foot A v) W W' ∧ Moved W v v' := by
  have Q1 := qpush_any A v f l p x W h hx hl
  clear hx
  go_enter Try.func66, Try.ntmps66
  go_wp2_with fail
  with_reducible refine Q1.mono ?_
  rintro e w1 ⟨rfl, v1, k1, k2, k3⟩
  obtain ⟨c1, _⟩ := qu_cell k1
  have ml := method_len A _ w1 c1
  have hlen : (l ++ [p]).length = l.length + 1 := by simp
  obtain ⟨b, cap, rfl⟩ := own_slice k1.2.1 (by omega)
  have LN := len_q (some ⟨b, 0, none⟩) (l ++ [p]).length cap w1
  have U := up_any A _ f (l ++ [p]) l.length w1 k1 (up_start hh p) (by omega)
  rw [hlen] at ml LN U c1
  clear Q1 c1
  go_wp2_with fail
  with_reducible refine LN.mono ?_
  rintro e w2 ⟨rfl, rfl⟩
  go_wp2_with fail
  with_reducible refine U.mono ?_
  rintro e w3 ⟨rfl, l', m1, m2, m3, m4⟩
  clear U LN ml
  go_wp2_with fail
  go_returns
  refine ⟨rfl, _, l', m1, m2, m3, ?_, ?_⟩
  · rw [hlen] at k3; exact foot_moved k2 k3 m4
  · rw [hlen] at k3; exact k3
theorem own_take {W : World} {base e size g n m cap : Nat} {xs : List Value} (h : W.ownsRow base e size (.slice (some ⟨g, 0, none⟩) m cap) m xs) (hn : n ≤ m) : W.ownsRow base e size (.slice (some ⟨g, 0, none⟩) n cap) n (xs.take (n * size)) := by
  have hms : n * size ≤ m * size := Nat.mul_le_mul_right _ hn
  refine ⟨by rw [List.length_take, h.1]; omega, ?_⟩
  rcases h.2 with ⟨h0, _⟩ | ⟨g', cap', cur, hv, hb, hg, hc, hm, hs, ht⟩
  · cases h0
  · injection hv with e1 e2 e3
    injection e1 with e1
    injection e1 with e1
    subst e1 e3
    exact .inr ⟨g, cap, cur, rfl, hb, hg, by omega, hm, hs, by rw [← ht, List.take_take, Nat.min_eq_left hms]⟩
theorem qu_popped {W : World} {A b cap n : Nat} {f : List Int} {l : List Nat} (h : Qu W A (.slice (some ⟨b, 0, none⟩) (n + 1) cap) f l) (hn : l.length = n + 1) (o : Obj) :
    Qu ((W.setCell ⟨A, 0, none⟩ (.slice (some ⟨b, 0, none⟩) n cap)).alloc o) A (.slice (some ⟨b, 0, none⟩) n cap) f (l.take n) := by
  have o1 := h.2.1
  rw [hn] at o1
  have o2 := own_take o1 (Nat.le_succ n)
  rw [evs_take] at o2
  have hlt : (l.take n).length = n := by rw [List.length_take]; omega
  refine ⟨blk_alloc (by simpa using blk_set h.1 0 (.slice (some ⟨b, 0, none⟩) n cap)) _, ?_, h.2.2⟩
  rw [hlt]
  exact own_kept (S := (· = A)) o2 (chg_alloc (chg_in (chg_refl _ _) _ _) _) (fun k hk e => h.2.2 (by rw [← e]; exact hk))
set_option maxRecDepth 100000 in
set_option maxHeartbeats 1000000 in
theorem qpop_any (A b cap n : Nat) (f : List Int) (l : List Nat) (W : World) (h : Qu W A (.slice (some ⟨b, 0, none⟩) (n + 1) cap) f l) (hn : l.length = n + 1) (hl : n ≤ 1000) :
    Calls Try.prog 91 #[.pointer (some ⟨A, 0, none⟩)] W fun e W' => e = .returned (.iface 105 (.agg #[.int .i64 (g l n : Int), .int .i64 (fr f (g l n))])) ∧
      Qu W' A (.slice (some ⟨b, 0, none⟩) n cap) f (l.take n) ∧ Chg (foot A (.slice (some ⟨b, 0, none⟩) (n + 1) cap)) W W' := by
  obtain ⟨c0, f0⟩ := qu_cell h
  have o1 := h.2.1
  rw [hn] at o1
  have c1 : W.cell? ⟨b, n * 2, none⟩ = some (.int .i64 (g l n : Int)) := (own_there o1 (n * 2) (by omega)).1.trans (evs_fst f l n (by omega))
  have c2 : W.cell? ⟨b, n * 2 + 1, none⟩ = some (.int .i64 (fr f (g l n))) := (own_there o1 (n * 2 + 1) (by omega)).1.trans (evs_snd f l n (by omega))
  have hA := blk_lt h.1
  have hcap : n + 1 ≤ cap := by
    rcases o1.2 with ⟨h0, _⟩ | ⟨g', cap', cur, hv, _, _, hc, _⟩
    · cases h0
    · injection hv with _ _ e3; omega
  clear o1
  have HN := Hid.intro hn
  clear hn
  go_enter Try.func91, Try.ntmps91
  go_wp2_with fail
  go_returns
  exact ⟨rfl, qu_popped h HN.out _, chg_alloc (chg_set (chg_refl _ _) _ _ (fun _ => .inl rfl)) _⟩

set_option maxRecDepth 100000 in
set_option maxHeartbeats 1000000 in
theorem hpop_any (A b cap n : Nat) (f : List Int) (all out l : List Nat) (W : World) (h : Qu W A (.slice (some ⟨b, 0, none⟩) (n + 1) cap) f l) (hn : l.length = n + 1) (hl : n ≤ 1000) (hp : PopInv (ltl f) all out l) :
    Calls Try.prog 67 #[.iface 101 (.pointer (some ⟨A, 0, none⟩))] W fun e W' => e = .returned (.iface 105 (.agg #[.int .i64 (g l 0 : Int), .int .i64 (fr f (g l 0))])) ∧
      ∃ l', Qu W' A (.slice (some ⟨b, 0, none⟩) n cap) f l' ∧ l'.length = n ∧ PopInv (ltl f) all (out ++ [g l 0]) l' ∧ Chg (foot A (.slice (some ⟨b, 0, none⟩) (n + 1) cap)) W W' := by
  obtain ⟨c0, f0⟩ := qu_cell h
  have ml := method_len A _ W c0
  have ms := method_swap A _ W c0
  have LN := len_q (some ⟨b, 0, none⟩) (n + 1) cap W
  have SW := swap_n (i := 0) (j := n) h hn (by omega) (by omega) (by omega)
  have hq := hp.2.2.2
  rw [hn] at hq
  have ps := pop_start hn hq
  have HN := Hid.intro hn
  have HP := Hid.intro hp
  clear hn hp hq
  go_enter Try.func67, Try.ntmps67
  go_wp2_with fail
  with_reducible refine LN.mono ?_
  rintro e w1 ⟨rfl, rfl⟩
  go_wp2_with fail
  refine SW.mono ?_
  rintro e w2 ⟨rfl, k1, k2⟩
  have hs : (sw l 0 n).length = n + 1 := by rw [sw_len]; exact HN.out
  have DN := down_any A _ f (sw l 0 n) n w2 k1 ps hs hl
  clear LN SW ml ms c0 f0 hs
  go_wp2_with fail
  with_reducible refine DN.mono ?_
  rintro e w3 ⟨r, rfl, l3, m1, m2, m3, m4, m5⟩
  have hl3 : l3.length = n + 1 := by rw [m2.length_eq, sw_len]; exact HN.out
  have PO := qpop_any A b cap n f l3 w3 m1 hl3 hl
  obtain ⟨z1, z2⟩ := pop_next (ltl_ord f) HP.out HN.out m2 m3 m4
  rw [z1] at PO
  have hlt : Hid ((l3.take n).length = n) := by show _ = _; rw [List.length_take]; omega
  clear DN hl3 z1
  go_wp2_with fail
  with_reducible refine PO.mono ?_
  rintro e w4 ⟨rfl, y1, y2⟩
  clear PO
  go_wp2_with fail
  go_returns
  exact ⟨rfl, l3.take n, y1, hlt.out, z2, chg_same (chg_same k2 m5) y2⟩
theorem foot_below {w W W' : World} {A : Nat} {v : Value} (hb : Below w.heap.size w W) (c : Chg (foot A v) W W') (hA : w.heap.size ≤ A) (hv : From w.heap.size v) : Below w.heap.size w W' :=
  hb.trans (chg_below c hb.size (fun k hf => hf.elim (fun e => by omega) (fun e => hv k e)))
theorem qu_new (w : World) (f : List Int) : Qu ((w.alloc (.cells #[] 105)).alloc (.cells #[.slice (some ⟨w.heap.size, 0, none⟩) 0 0] 134)) (w.heap.size + 1) (.slice (some ⟨w.heap.size, 0, none⟩) 0 0) f [] := by
  refine ⟨?_, ?_, ?_⟩
  · have := blk_new (w.alloc (.cells #[] 105)) #[.slice (some ⟨w.heap.size, 0, none⟩) 0 0] 134
    simpa using this
  · exact ⟨rfl, .inr ⟨w.heap.size, 0, #[], rfl, Nat.zero_le _, blk_alloc (blk_new w #[] 105) _, Nat.le_refl _, by decide, rfl, rfl⟩⟩
  · intro e; simp [Value.ownBlock] at e
theorem wrong_any (z : Int) (w : World) : Calls Try.prog 63 #[.int .i64 z] w fun e w' => e = .returned (.bool (badl z)) ∧ w' = w := by
  by_cases h : z < 0
  · have B : Hid (badl z = true) := by show _ = _; simp [badl, h]
    go_enter Try.func63, Try.ntmps63
    go_wp2
    go_ret
    exact ⟨ret_bool B.out.symm, rfl⟩
  · have B : Hid (badl z = decide (15 < z)) := by show _ = _; simp [badl, h]
    go_enter Try.func63, Try.ntmps63
    go_wp2
    go_ret
    exact ⟨ret_bool B.out.symm, rfl⟩
def IxRel (f : List Int) (w : World) (sv : Value) (wr : World) : Prop :=
  ∃ i : Nat, i ≤ f.length ∧ sv = .int .i64 i ∧ (∀ z ∈ f.take i, badl z = false) ∧ wr = w
set_option maxRecDepth 100000 in
set_option maxHeartbeats 1000000 in
theorem index_any (a : Option Addr) (n cap : Nat) (f : List Int) (w : World) (h : RI w a n f) (hn : n ≤ 100000) :
    Calls Try.prog 70 #[.slice a n cap, .func (.func 63) #[] #[]] w fun e w' => ∃ k : Int, e = .returned (.int .i64 k) ∧ (decide (0 ≤ k) = f.any badl) ∧ w' = w := by
  obtain ⟨h1, h2⟩ := h
  subst h1
  have HX := Hid.intro h2
  clear h2
  go_enter Try.func70, Try.ntmps70
  go_wp2_with fail
  go_loopw [8] (fun sv wr => IxRel f w sv wr) (fun sv _ => f.length - (intOf sv).toNat)
  case atStart => exact ⟨0, by omega, rfl, by simp, rfl⟩
  case round =>
    obtain ⟨i, hi, rfl, d1, rfl⟩ := hrel
    by_cases hlt : i < f.length
    · obtain ⟨x, rfl, hx⟩ := HX.out (by omega)
      have cx := hx i hlt
      have WR := wrong_any f[i] wr
      have hm := List.getElem_mem hlt
      have ts := take_snoc f i hlt
      by_cases hb : badl f[i] = true
      · have A : Hid (f.any badl = true) := List.any_eq_true.2 ⟨_, hm, hb⟩
        rw [hb] at WR
        clear d1 hx hm ts hb
        generalize f[i] = z at *
        go_wp2_with fail
        with_reducible refine WR.mono ?_
        rintro e w1 ⟨rfl, rfl⟩
        clear WR
        go_wp2_with fail
        go_ret
        exact ⟨_, rfl, by rw [A.out]; simp, rfl⟩
      · have hb' : badl f[i] = false := by simpa using hb
        have T2 : Hid (∀ z ∈ f.take (i + 1), badl z = false) := fun z hz => by
          rw [ts] at hz
          rcases List.mem_append.1 hz with h | h
          · exact d1 z h
          · rw [List.mem_singleton.1 h]; exact hb'
        rw [hb'] at WR
        clear d1 hx hm ts hb hb'
        generalize f[i] = z at *
        go_wp2_with fail
        with_reducible refine WR.mono ?_
        rintro e w1 ⟨rfl, rfl⟩
        clear WR
        go_wp2_with fail
        go_roundw
        case rel => exact ⟨i + 1, by omega, by go_num, T2.out, rfl⟩
        case measure => simp [intOf]; omega
    · have A : Hid (f.any badl = false) := by
        show _ = _
        rw [List.any_eq_false]
        intro z hz
        have := d1 z (by rw [List.take_of_length_le (by omega)]; exact hz)
        simp [this]
      clear d1
      go_wp2_with fail
      go_ret
      exact ⟨_, rfl, by rw [A.out]; decide, rfl⟩
theorem contains_any (a : Option Addr) (n cap : Nat) (f : List Int) (w : World) (h : RI w a n f) (hn : n ≤ 100000) :
    Calls Try.prog 64 #[.slice a n cap, .func (.func 63) #[] #[]] w fun e w' => e = .returned (.bool (f.any badl)) ∧ w' = w := by
  have IX := index_any a n cap f w h hn
  clear h
  go_enter Try.func64, Try.ntmps64
  go_wp2_with fail
  with_reducible refine IX.mono ?_
  rintro e w1 ⟨k, rfl, k1, rfl⟩
  have K1 := Hid.intro k1
  clear IX k1
  go_wp2_with fail
  go_ret
  exact ⟨ret_bool K1.out, rfl⟩
theorem fr_nat (l : List Nat) (c : Nat) : fr (l.map Int.ofNat) c = (at0 l c : Int) := by
  unfold fr at0
  rw [List.getD_eq_getElem?_getD, List.getD_eq_getElem?_getD, List.getElem?_map]
  cases l[c]? <;> rfl
theorem nat_back (f : List Int) (h : ∀ z ∈ f, 0 ≤ z ∧ z ≤ 15) : (nat f).map Int.ofNat = f := by
  unfold nat
  rw [List.map_map]
  conv => rhs; rw [← List.map_id f]
  apply List.map_congr_left
  intro z hz
  have := h z hz
  simp [Function.comp, Int.toNat_of_nonneg this.1]
theorem nat_at (f : List Int) (h : ∀ z ∈ f, 0 ≤ z ∧ z ≤ 15) (i : Nat) : fr f i = (at0 (nat f) i : Int) := by rw [← fr_nat, nat_back f h]
theorem nat_bd (f : List Int) (h : ∀ z ∈ f, 0 ≤ z ∧ z ≤ 15) (i : Nat) : at0 (nat f) i ≤ 15 := by
  by_cases hi : i < (nat f).length
  · rw [at0_of _ i hi]
    obtain ⟨z, hz, e⟩ := List.mem_map.1 (List.getElem_mem hi)
    have := h z hz
    omega
  · rw [at0_out _ i (by omega)]; omega
theorem mayL_yes {f : List Int} (h : mayL f = true) : f.length = 65 ∧ (∀ z ∈ f, 0 ≤ z ∧ z ≤ 15) ∧ okL (nat f) = true := by
  unfold mayL at h
  simp only [Bool.and_eq_true, decide_eq_true_eq, Bool.not_eq_true'] at h
  exact ⟨h.1.1, (any_no f).1 h.1.2, h.2⟩
/-- What comes out of the heap is in this order. -/
theorem out_one {f : List Int} (hb : ∀ z ∈ f, 0 ≤ z ∧ z ≤ 15) {out : List Nat} (h : PopInv (ltl f) (places f 65) out []) : out = byLen (nat f) 15 := by
  have e : places f 65 = (List.range 65).filter (fun c => decide (0 < at0 (nat f) c)) := by
    unfold places
    apply List.filter_congr
    intro c _
    rw [nat_at f hb]; simp
  have hp := h.1
  rw [List.append_nil, e] at hp
  refine List.Perm.eq_of_pairwise (fun x y _ _ h1 h2 => ltl_anti f x y h1 h2) h.2.1 ?_ (hp.trans (byLen_perm (nat f) (nat_bd f hb)).symm)
  refine (byLen_sorted (nat f) 15).imp ?_
  intro a b hab
  unfold lt2 at hab
  unfold ltl
  rw [nat_at f hb, nat_at f hb]; omega

def ShRel (C M : Nat → Nat) (w : World) (cv sv iv : Value) (wr : World) : Prop :=
  ∃ i : Nat, i ≤ 65 ∧ iv = .int .i64 i ∧ cv = .int .i64 (C i : Nat) ∧ sv = .int .i64 (M i : Nat) ∧ wr = w
theorem ri_at {W : World} {a : Option Addr} {n : Nat} {f : List Int} (h : RI W a n f) (i : Nat) (hi : i < n) : ∃ x, a = some x ∧ W.cell? (x.add i) = some (.int .i64 (fr f i)) := by
  obtain ⟨x, hx, hc⟩ := h.2 (by omega)
  have hl := h.1
  exact ⟨x, hx, by rw [hc i (by omega), fr_at f i (by omega)]⟩
set_option maxRecDepth 100000 in
set_option maxHeartbeats 2000000 in
theorem shares_any (a : Option Addr) (cap : Nat) (f : List Int) (w : World) (h : RI w a 65 f) (hf : ∀ z ∈ f, 0 ≤ z ∧ z ≤ 15) :
    Calls Try.prog 65 #[.slice a 65 cap] w fun e w' => e = .returned (.tuple #[.int .i64 (mC (nat f) 65 : Nat), .int .i64 (mS (nat f) 65 : Nat)]) ∧ w' = w := by
  have H := Hid.intro h
  have HA := Hid.intro (nat_at f hf)
  have HB := Hid.intro (nat_bd f hf)
  obtain ⟨L, hL⟩ : ∃ L, nat f = L := ⟨_, rfl⟩
  rw [hL] at HA HB ⊢
  clear h hf hL
  have M0 : mS L 0 = 0 := rfl
  have C0 : mC L 0 = 0 := rfl
  have MS := mS_succ L
  have CS := mC_succ L
  have MB := mS_bd L
  have CB := mC_bd L
  generalize mS L = M at *
  generalize mC L = C at *
  have M0 := Hid.intro M0
  have C0 := Hid.intro C0
  have MS := Hid.intro MS
  have CS := Hid.intro CS
  have MB := Hid.intro MB
  have CB := Hid.intro CB
  go_enter Try.func65, Try.ntmps65
  go_wp2_with fail
  go_loopw [2, 3, 8] (fun cv sv iv wr => ShRel C M w cv sv iv wr) (fun _ _ iv _ => 65 - (intOf iv).toNat)
  case atStart => exact ⟨0, by omega, rfl, by rw [C0.out]; rfl, by rw [M0.out]; rfl, rfl⟩
  case round =>
    obtain ⟨i, hi, rfl, rfl, rfl, rfl⟩ := hrel
    have sb := MB.out i
    have cb := CB.out i
    by_cases hlt : i < 65
    · obtain ⟨x, rfl, cl⟩ := ri_at H.out i hlt
      rw [HA.out i] at cl
      have l15 := HB.out i
      have S1 := Hid.intro (MS.out i)
      have C1 := Hid.intro (CS.out i)
      generalize M i = s at *
      generalize C i = c at *
      generalize at0 L i = l at *
      by_cases hl : 0 < l
      · rw [if_pos hl] at S1 C1
        have hz := half l l15
        obtain ⟨z, hz2⟩ : ∃ z : Nat, 2 ^ (15 - l) = z := ⟨_, rfl⟩
        have hzb : z ≤ 32768 := by rw [← hz2]; exact pow_15 l
        rw [hz2] at S1 hz
        clear hz2
        go_wp2_with fail
        go_roundw
        case rel => exact ⟨i + 1, by omega, by go_num, by rw [C1.out, Int.natCast_add]; rfl, by rw [S1.out, Int.natCast_add], rfl⟩
        case measure => simp [intOf]; omega
      · rw [if_neg hl, Nat.add_zero] at S1 C1
        go_wp2_with fail
        go_roundw
        case rel => exact ⟨i + 1, by omega, by go_num, by rw [C1.out, Nat.add_zero], by rw [S1.out, Nat.add_zero], rfl⟩
        case measure => simp [intOf]; omega
    · obtain rfl : i = 65 := by omega
      go_wp2_with fail
      go_ret2
      exact ⟨rfl, rfl⟩
set_option maxRecDepth 100000 in
set_option maxHeartbeats 1000000 in
theorem may_any (a : Option Addr) (n cap : Nat) (f : List Int) (w : World) (h : RI w a n f) (hn : n ≤ 100000) :
    Calls Try.prog 44 #[.slice a n cap] w fun e w' => e = .returned (.bool (mayL f)) ∧ w' = w := by
  by_cases h1 : n = 65
  · subst h1
    have CF := contains_any a 65 cap f w h hn
    by_cases h2 : f.any badl = true
    · rw [h2] at CF
      have M := Hid.intro (may_bad h2)
      clear h h2
      go_enter Try.func44, Try.ntmps44
      go_wp2_with fail
      with_reducible refine CF.mono ?_
      rintro e w1 ⟨rfl, rfl⟩
      clear CF
      go_wp2_with fail
      go_ret
      exact ⟨ret_bool M.out.symm, rfl⟩
    · have h2' : f.any badl = false := by simpa using h2
      rw [h2'] at CF
      have SH := shares_any a cap f w h ((any_no f).1 h2')
      have MO := may_ok h.1 h2'
      have mm := mS_mC (nat f) 65
      obtain ⟨s5, hs5⟩ : ∃ s, mS (nat f) 65 = s := ⟨_, rfl⟩
      obtain ⟨c5, hc5⟩ : ∃ s, mC (nat f) 65 = s := ⟨_, rfl⟩
      unfold okL at MO
      rw [hs5, hc5] at MO SH mm
      have M := Hid.intro MO
      clear h h2 h2' hs5 hc5 MO
      by_cases c0 : c5 = 0
      · subst c0
        go_enter Try.func44, Try.ntmps44
        go_wp2_with fail
        with_reducible refine CF.mono ?_
        rintro e w1 ⟨rfl, rfl⟩
        clear CF
        go_wp2_with fail
        with_reducible refine SH.mono ?_
        rintro e w1 ⟨rfl, rfl⟩
        clear SH
        go_wp2_with fail
        go_ret
        exact ⟨ret_bool (by rw [M.out]; rfl), rfl⟩
      · by_cases c1 : c5 = 1
        · subst c1
          go_enter Try.func44, Try.ntmps44
          go_wp2_with fail
          with_reducible refine CF.mono ?_
          rintro e w1 ⟨rfl, rfl⟩
          clear CF
          go_wp2_with fail
          with_reducible refine SH.mono ?_
          rintro e w1 ⟨rfl, rfl⟩
          clear SH
          go_wp2_with fail
          go_ret
          refine ⟨ret_bool ?_, rfl⟩
          rw [M.out]
          by_cases e : s5 = 16384
          · subst e; rfl
          · have : ¬ s5 = 32768 := by omega
            have e2 : ¬ (s5 : Int) = 16384 := by omega
            simp [e, this, e2]
        · have t0 : ((c5 : Int) == 0) = false := by simp; omega
          have t1 : ((c5 : Int) == 1) = false := by simp; omega
          clear mm
          have M2 : Hid (mayL f = decide (s5 = 32768)) := by show _ = _; rw [M.out]; simp [c0, c1]
          clear M c0 c1
          go_enter Try.func44, Try.ntmps44
          go_wp2_with fail
          with_reducible refine CF.mono ?_
          rintro e w1 ⟨rfl, rfl⟩
          clear CF
          go_wp2_with fail
          with_reducible refine SH.mono ?_
          rintro e w1 ⟨rfl, rfl⟩
          clear SH
          go_wp2_with fail
          go_ret
          refine ⟨ret_bool ?_, rfl⟩
          rw [M2.out]
          by_cases e : s5 = 32768
          · subst e; rfl
          · have e2 : ¬ (s5 : Int) = 32768 := by omega
            simp [e, e2]
  · have M := Hid.intro (may_no65 (f := f) (by rw [h.1]; exact h1))
    have t : ((n : Int) == 65) = false := by simp; omega
    have t2 : ((n : Int) != 65) = true := by simp; omega
    clear h
    go_enter Try.func44, Try.ntmps44
    go_wp2_with fail
    go_ret
    exact ⟨ret_bool M.out.symm, rfl⟩

/-! ### the queue's next, and a queue of all classes that have a length -/
theorem qu_lt {W : World} {A : Nat} {v : Value} {f : List Int} {l : List Nat} (h : Qu W A v f l) : ∀ k, foot A v k → k < W.heap.size :=
  fun k hk => hk.elim (fun e => by rw [e]; exact blk_lt h.1) (fun e => (h.2.1.lt k e).2)
set_option maxRecDepth 100000 in
set_option maxHeartbeats 1000000 in
theorem next_any (A b cap n : Nat) (f : List Int) (all out l : List Nat) (W : World) (h : Qu W A (.slice (some ⟨b, 0, none⟩) (n + 1) cap) f l) (hn : l.length = n + 1) (hl : n ≤ 1000) (hp : PopInv (ltl f) all out l) :
    Calls Try.prog 47 #[.pointer (some ⟨A, 0, none⟩)] W fun e W' => e = .returned (.agg #[.int .i64 (g l 0 : Int), .int .i64 (fr f (g l 0))]) ∧
      ∃ l', Qu W' A (.slice (some ⟨b, 0, none⟩) n cap) f l' ∧ l'.length = n ∧ PopInv (ltl f) all (out ++ [g l 0]) l' ∧ Chg (foot A (.slice (some ⟨b, 0, none⟩) (n + 1) cap)) W W' := by
  have al : Chg (fun _ => False) W (W.alloc (.cells #[.int .i64 0, .int .i64 0] 105)) := chg_alloc (chg_refl _ _) _
  have bn := blk_new W #[.int .i64 0, .int .i64 0] 105
  have PO := hpop_any A b cap n f all out l _ (qu_no h al) hn hl hp
  have ae := assert_entry
  have HA := Hid.intro (qu_lt h)
  generalize fr f (g l 0) = y at *
  generalize hx : g l 0 = x at *
  clear hp hn hx
  go_enter Try.func47, Try.ntmps47
  go_wp2_with fail
  with_reducible refine PO.mono ?_
  rintro e w1 ⟨rfl, l', k1, k2, k3, k4⟩
  clear PO
  have K2 := Hid.intro k2
  have bk := blk_kept bn k4 (fun hf => by have := HA.out _ hf; omega)
  have r0 : w1.cell? ⟨W.heap.size, 0, none⟩ = some (.int .i64 0) := by rw [blk_cell bk]; rfl
  have r1 : w1.cell? ⟨W.heap.size, 1, none⟩ = some (.int .i64 0) := by rw [blk_cell bk]; rfl
  have f0 := blk_free bk 0
  have f1 := blk_free bk 1
  have q0 : (w1.setCell ⟨W.heap.size, 0, none⟩ (.int .i64 (x : Int))).cell? ⟨W.heap.size, 0, none⟩ = some (.int .i64 (x : Int)) := by rw [blk_cell (blk_set bk 0 _)]; rfl
  have q1 : ((w1.setCell ⟨W.heap.size, 0, none⟩ (.int .i64 (x : Int))).setCell ⟨W.heap.size, 1, none⟩ (.int .i64 y)).cell? ⟨W.heap.size, 1, none⟩ = some (.int .i64 y) := by rw [blk_cell (blk_set (blk_set bk 0 _) 1 _)]; rfl
  clear k2 bk bn
  go_wp2_with fail
  have c2 : Chg (· = W.heap.size) w1 ((w1.setCell ⟨W.heap.size, 0, none⟩ (.int .i64 (x : Int))).setCell ⟨W.heap.size, 1, none⟩ (.int .i64 y)) := chg_in (chg_in (chg_refl _ _) _ _) _ _
  refine bodyPost_ret (v := .agg #[.int .i64 (x : Int), .int .i64 y]) (by simp [results, Try.results47, go_sem, q0, q1]) rfl ⟨rfl, l', qu_kept k1 c2 (fun k hk e => ?_), K2.out, k3, ?_⟩
  · have hk' : foot A (.slice (some ⟨b, 0, none⟩) (n + 1) cap) k := hk
    have := HA.out k hk'
    omega
  · refine chg_trans (chg_trans (chg_mono al (fun _ _ h => h.elim)) k4 (fun _ _ h => h)) c2 (fun k hk e => by omega)
def Qo1 (f : List Int) (w : World) (sv : Value) (wr : World) : Prop :=
  ∃ (i : Nat) (v : Value) (l : List Nat), i ≤ f.length ∧ sv = .int .i64 i ∧ Qu wr (w.heap.size + 1) v f l ∧ l.Perm (places f i) ∧ HeapFrom (ltl f) l l.length 0 ∧ From w.heap.size v ∧ Below w.heap.size w wr
set_option maxRecDepth 100000 in
set_option maxHeartbeats 2000000 in
theorem queueOf_any (a : Option Addr) (n cap : Nat) (f : List Int) (w : World) (h : RI w a n f) (hf : FI f) (hn : n ≤ 1000) :
    Calls Try.prog 45 #[.slice a n cap] w fun e w' => e = .returned (.pointer (some ⟨w.heap.size + 1, 0, none⟩)) ∧ ∃ v l, Qu w' (w.heap.size + 1) v f l ∧ l.Perm (places f n) ∧ HeapFrom (ltl f) l l.length 0 ∧ From w.heap.size v ∧ Below w.heap.size w w' := by
  obtain ⟨h1, h2⟩ := h
  subst h1
  have HX : Hid (0 < f.length → ∃ x, a = some x ∧ ∀ i (h : i < f.length), w.cell? (x.add i) = some (.int .i64 f[i])) := h2
  have HF : Hid (FI f) := hf
  clear h2 hf
  have q0 := qu_new w f
  have b0 : Below w.heap.size w ((w.alloc (.cells #[] 105)).alloc (.cells #[.slice (some ⟨w.heap.size, 0, none⟩) 0 0] 134)) := ((Below.refl _ _).alloc (Nat.le_refl _) _).alloc (by simp) _
  go_enter Try.func45, Try.ntmps45
  go_wp2_with fail
  generalize (w.alloc (.cells #[] 105)).alloc (.cells #[.slice (some ⟨w.heap.size, 0, none⟩) 0 0] 134) = w1 at *
  go_loopw [10] (fun sv wr => Qo1 f w sv wr) (fun sv _ => f.length - (intOf sv).toNat)
  case atStart => exact ⟨0, _, [], by omega, rfl, q0, List.Perm.refl _, fun k _ hk => by simp at hk, fun k hk => by simp [Value.ownBlock] at hk; omega, b0⟩
  case round =>
    clear q0 b0
    obtain ⟨i, v, l, hi, rfl, d1, d2, d3, d4, d5⟩ := hrel
    have hpl := places_le f i
    have hll : l.length ≤ 1000 := by rw [d2.length_eq]; omega
    by_cases hlt : i < f.length
    · obtain ⟨x, rfl, hx⟩ := HX.out (by omega)
      have cx := hx i hlt
      have cx' : wr.cell? (x.add i) = some (.int .i64 f[i]) := by rw [d5.cell (World.block_lt_of_cell? _ _ cx)]; exact cx
      have bd := HF.out f[i] (List.getElem_mem hlt)
      have ps := places_succ f i
      have fa := fr_at f i hlt
      generalize hz : f[i] = z at *
      clear cx hx hz
      by_cases hp : 0 < z
      · rw [fa, if_pos hp] at ps
        have PS := Hid.intro ps
        have HP := hpush_any (w.heap.size + 1) v f l i z wr d1 d3 fa.symm hll
        clear ps fa
        go_wp2_with fail
        with_reducible refine HP.mono ?_
        rintro e w2 ⟨rfl, v', l', k1, k2, k3, k4, k5⟩
        clear HP cx'
        go_wp2_with fail
        go_roundw
        case rel => exact ⟨i + 1, v', l', by omega, by go_num, k1, by rw [PS.out]; exact k2.trans (d2.append_right _), k3, from_moved d4 k5 d5.size, foot_below d5 k4 (by omega) d4⟩
        case measure => simp [intOf]; omega
      · rw [fa, if_neg hp] at ps
        have PS := Hid.intro ps
        clear ps fa
        go_wp2_with fail
        go_roundw
        case rel => exact ⟨i + 1, v, l, by omega, by go_num, d1, by rw [PS.out]; exact d2, d3, d4, d5⟩
        case measure => simp [intOf]; omega
    · obtain rfl : i = f.length := by omega
      clear HX HF
      go_wp2_with fail
      go_ret
      exact ⟨rfl, v, l, d1, d2, d3, d4, d5⟩

/-! ### rows of codes -/
def cv (p : Nat × Nat) : List Value := [.int .i64 (p.1 : Int), .int .i64 (p.2 : Int)]
def cvs (l : List (Nat × Nat)) : List Value := l.flatMap cv
theorem cvs_len (l : List (Nat × Nat)) : (cvs l).length = l.length * 2 := by
  induction l with
  | nil => rfl
  | cons p l ih => rw [cvs, List.flatMap_cons, List.length_append, ← cvs, ih]; simp [cv]; omega
theorem cvs_fst (l : List (Nat × Nat)) (i : Nat) (h : i < l.length) : (cvs l)[i * 2]? = some (.int .i64 ((cat l i).1 : Int)) := by
  induction l generalizing i with
  | nil => simp at h
  | cons p l ih =>
    cases i with
    | zero => rfl
    | succ i =>
      rw [cvs, List.flatMap_cons, ← cvs, List.getElem?_append_right (by simp [cv]; omega)]
      have : (i + 1) * 2 - (cv p).length = i * 2 := by simp [cv]; omega
      rw [this, ih i (by simpa using h)]; rfl
theorem cvs_snd (l : List (Nat × Nat)) (i : Nat) (h : i < l.length) : (cvs l)[i * 2 + 1]? = some (.int .i64 ((cat l i).2 : Int)) := by
  induction l generalizing i with
  | nil => simp at h
  | cons p l ih =>
    cases i with
    | zero => rfl
    | succ i =>
      rw [cvs, List.flatMap_cons, ← cvs, List.getElem?_append_right (by simp [cv]; omega)]
      have : (i + 1) * 2 + 1 - (cv p).length = i * 2 + 1 := by simp [cv]; omega
      rw [this, ih i (by simpa using h)]; rfl
theorem cvs_set (l : List (Nat × Nat)) (i x y : Nat) : ((cvs l).set (i * 2) (.int .i64 (x : Int))).set (i * 2 + 1) (.int .i64 (y : Int)) = cvs (l.set i (x, y)) := by
  induction l generalizing i with
  | nil => rfl
  | cons p l ih =>
    cases i with
    | zero => rfl
    | succ i =>
      have e : cvs (p :: l) = .int .i64 (p.1 : Int) :: .int .i64 (p.2 : Int) :: cvs l := rfl
      rw [e, show (i + 1) * 2 = i * 2 + 1 + 1 from by omega, List.set_cons_succ, List.set_cons_succ, List.set_cons_succ, List.set_cons_succ, ih]; rfl
theorem info68 : (Try.prog.info? 68).map (fun i => (i.zero, i.size, i.bytes)) = some (some (.agg #[.int .i64 0, .int .i64 0]), 2, 16) := by kernel_rfl
theorem make_codes (W : World) :
    (Instr.makeSlice 61 (.int .i64 65) (.int .i64 65)).run Try.prog W = .ok (.slice (some ⟨W.heap.size, 0, none⟩) 65 65) (W.alloc (.cells (madeCells #[.int .i64 0, .int .i64 0] 130) 68)) := by
  obtain ⟨i, hi, hz, hs, hb⟩ := info_all info68
  have hr := run_make (P := Try.prog) W 61 68 i _ Try.underlying61 hi hz .i64 .i64 65 65 (by omega) (Int.le_refl _) (by rw [hb]; omega) (by omega)
  simp only [hs] at hr
  exact hr
theorem made_codes : (madeCells #[Value.int .i64 0, .int .i64 0] 130).toList = cvs (List.replicate 65 (0, 0)) := by kernel_rfl
theorem own_made_codes (W : World) : (W.alloc (.cells (madeCells #[.int .i64 0, .int .i64 0] 130) 68)).ownsRow W.heap.size 68 2 (.slice (some ⟨W.heap.size, 0, none⟩) 65 65) 65 (cvs (List.replicate 65 (0, 0))) :=
  ⟨by rw [cvs_len]; simp, .inr ⟨_, 65, _, rfl, Nat.le_refl _, blk_new _ _ _, Nat.le_refl _, by simp only [maxLen]; omega, by simp [madeCells], by rw [made_codes, List.take_of_length_le (by rw [cvs_len]; simp)]⟩⟩
theorem cv_cells {W : World} {base b n cap : Nat} {l : List (Nat × Nat)} (h : W.ownsRow base 68 2 (.slice (some ⟨b, 0, none⟩) n cap) n (cvs l)) (i : Nat) (hi : i < n) :
    W.cell? ⟨b, i * 2, none⟩ = some (.int .i64 ((cat l i).1 : Int)) ∧ W.cell? ⟨b, i * 2 + 1, none⟩ = some (.int .i64 ((cat l i).2 : Int)) ∧ W.frozen? ⟨b, i * 2, none⟩ = false ∧ W.frozen? ⟨b, i * 2 + 1, none⟩ = false := by
  have hl : l.length = n := by have := h.1; rw [cvs_len] at this; omega
  obtain ⟨e1, _, f1⟩ := own_there h (i * 2) (by omega)
  obtain ⟨e2, _, f2⟩ := own_there h (i * 2 + 1) (by omega)
  exact ⟨e1.trans (cvs_fst l i (by omega)), e2.trans (cvs_snd l i (by omega)), f1, f2⟩

theorem nonneg_fi {f : List Int} (hb : ∀ z ∈ f, 0 ≤ z ∧ z ≤ 15) : FI f := fun z hz => by have := hb z hz; omega
theorem pop_sorted {f : List Int} (hb : ∀ z ∈ f, 0 ≤ z ∧ z ≤ 15) {all out l : List Nat} (h : PopInv (ltl f) all out l) : out.Pairwise (fun a b => at0 (nat f) a ≤ at0 (nat f) b) := by
  refine h.2.1.imp ?_
  intro a b hab
  unfold ltl at hab
  rw [nat_at f hb, nat_at f hb] at hab
  omega
theorem pop_ahead {f : List Int} (hb : ∀ z ∈ f, 0 ≤ z ∧ z ≤ 15) {all out l : List Nat} (h : PopInv (ltl f) all out l) (c : Nat) (hc : c ∈ l) : ∀ a ∈ out, at0 (nat f) a ≤ at0 (nat f) c := by
  intro a ha
  have := h.2.2.1 a ha c hc
  unfold ltl at this
  rw [nat_at f hb, nat_at f hb] at this
  omega
theorem pop_mem {f : List Int} {n : Nat} {out l : List Nat} (h : PopInv (ltl f) (places f n) out l) (c : Nat) (hc : c ∈ l) : c < n := by
  have : c ∈ places f n := h.1.mem_iff.1 (List.mem_append.2 (.inr hc))
  exact ((places_mem f n c).1 this).1
theorem pop_len {f : List Int} {out l : List Nat} (h : PopInv (ltl f) (places f 65) out l) : out.length + l.length ≤ 65 := by
  have h1 := h.1.length_eq
  have h2 := places_le f 65
  rw [List.length_append] at h1
  omega
def qlen (Q : Nat) (wr : World) : Nat :=
  match wr.cell? ⟨Q, 0, none⟩ with
  | some (.slice _ n _) => n
  | _ => 0
theorem qlen_of {Q : Nat} {wr : World} {a : Option Addr} {n cap : Nat} (h : wr.cell? ⟨Q, 0, none⟩ = some (.slice a n cap)) : qlen Q wr = n := by unfold qlen; rw [h]
def CoRel (f : List Int) (R F Q : Nat) (w wr : World) : Prop :=
  ∃ (v : Value) (out l : List Nat), Qu wr Q v f l ∧ PopInv (ltl f) (places f 65) out l ∧
    Blk wr F #[.int .i64 ((foldC (nat f) out).1 : Nat), .int .i64 ((foldC (nat f) out).2.1 : Nat)] 68 ∧
    wr.ownsRow 0 68 2 (.slice (some ⟨R, 0, none⟩) 65 65) 65 (cvs (foldC (nat f) out).2.2) ∧ From (F + 1) v ∧ Below w.heap.size w wr
theorem foot_far {R F Q : Nat} {v : Value} (h1 : R < F) (h2 : F < Q) (hv : From (F + 1) v) : (¬ foot Q v R) ∧ (¬ foot Q v F) := by
  constructor
  · rintro (e | e)
    · omega
    · have := hv R e; omega
  · rintro (e | e)
    · omega
    · have := hv F e; omega
set_option maxRecDepth 100000 in
set_option maxHeartbeats 1000000 in
theorem codes_no (a : Option Addr) (n cap : Nat) (f : List Int) (w : World) (h : RI w a n f) (hn : n ≤ 100000) (hm : mayL f = false) :
    Calls Try.prog 22 #[.slice a n cap] w fun e w' => e = .returned (.tuple #[.slice none 0 0, .int .i64 3]) ∧ w' = w := by
  have MA := may_any a n cap f w h hn
  rw [hm] at MA
  clear h hm
  go_enter Try.func22, Try.ntmps22
  go_wp2_with fail
  with_reducible refine MA.mono ?_
  rintro e w1 ⟨rfl, rfl⟩
  clear MA
  go_wp2_with fail
  go_ret2
  exact ⟨rfl, rfl⟩
set_option maxRecDepth 100000 in
set_option maxHeartbeats 2000000 in
theorem codes_yes (a : Option Addr) (n cap : Nat) (f : List Int) (w : World) (h : RI w a n f) (hm : mayL f = true) :
    Calls Try.prog 22 #[.slice a n cap] w fun e w' => ∃ v, e = .returned (.tuple #[v, .int .i64 0]) ∧ w'.ownsRow w.heap.size 68 2 v 65 (cvs (codesOf (nat f))) ∧ Below w.heap.size w w' := by
  obtain ⟨m1, m2, m3⟩ := mayL_yes hm
  have hn : n = 65 := by rw [← h.1]; exact m1
  subst hn
  have MA := may_any a 65 cap f w h (by omega)
  rw [hm] at MA
  have mk := make_codes w
  have om := own_made_codes w
  obtain ⟨w1, hw1⟩ : ∃ w1, w.alloc (.cells (madeCells #[.int .i64 0, .int .i64 0] 130) 68) = w1 := ⟨_, rfl⟩
  have sz1 : w1.heap.size = w.heap.size + 1 := by rw [← hw1]; simp
  have b1 : Below w.heap.size w w1 := by rw [← hw1]; exact (Below.refl _ _).alloc (Nat.le_refl _) _
  rw [hw1] at mk om
  have bn := blk_new w1 #[.int .i64 0, .int .i64 0] 68
  have om2 := World.ownsRow.alloc om (.cells #[.int .i64 0, .int .i64 0] 68)
  have b2 : Below w.heap.size w (w1.alloc (.cells #[.int .i64 0, .int .i64 0] 68)) := b1.alloc b1.size _
  have sz2 : (w1.alloc (.cells #[.int .i64 0, .int .i64 0] 68)).heap.size = w.heap.size + 2 := by simp [sz1]
  have QO := queueOf_any a 65 cap f _ (ri_below h b2) (nonneg_fi m2) (by omega)
  rw [sz2] at QO
  rw [sz1] at bn
  have M2 := Hid.intro m2
  have M1 := Hid.intro m1
  clear h hm m1 m2 m3 hw1 b1 om
  go_enter Try.func22, Try.ntmps22
  go_wp2_with fail
  with_reducible refine MA.mono ?_
  rintro e w2 ⟨rfl, rfl⟩
  clear MA
  go_wp2_with fail
  with_reducible refine QO.mono ?_
  rintro e w3 ⟨rfl, v, l, k1, k2, k3, k4, k5⟩
  obtain ⟨R, hR⟩ : ∃ R, w2.heap.size = R := ⟨_, rfl⟩
  obtain ⟨F, hF⟩ : ∃ F, R + 1 = F := ⟨_, rfl⟩
  obtain ⟨Q, hQ⟩ : ∃ Q, R + 2 + 1 = Q := ⟨_, rfl⟩
  simp only [hR] at bn om2 b2 k1 k4 k5 sz1 sz2 ⊢
  simp only [hF] at bn ⊢
  simp only [hQ] at k1 ⊢
  have hRF : R < F := by omega
  have hFQ : F < Q := by omega
  have ST : Hid (CoRel f R F Q w2 w3) := by
    refine ⟨v, [], l, k1, ⟨by simpa using k2, List.Pairwise.nil, fun a ha => by simp at ha, k3⟩, blk_below bn k5 (by omega), own_below (own_low om2 (Nat.zero_le _)) k5 (fun k hk => by simp [Value.ownBlock] at hk; omega), fun k hk => by have := k4 k hk; omega, ?_⟩
    rw [hR]
    exact b2.trans (k5.mono (by omega))
  have HR := Hid.intro hR
  have HF := Hid.intro hF
  clear QO k1 k2 k3 k4 k5 bn om2 b2 sz1 sz2 mk hQ hF hR
  go_wp2_with fail
  go_loopw [7] (fun _ wr => CoRel f R F Q w2 wr) (fun _ wr => qlen Q wr)
  case atStart => exact ST.out
  case round =>
    clear ST
    obtain ⟨v, out, l, d1, d2, d3, d4, d5, d6⟩ := hrel
    obtain ⟨c0, f0⟩ := qu_cell d1
    obtain ⟨av, capv, rfl, hcv, hav⟩ := qu_val d1
    have hpl := pop_len d2
    have LN := len_q av l.length capv wr
    have QL := Hid.intro (qlen_of c0)
    by_cases hz : l.length = 0
    · obtain rfl : l = [] := List.eq_nil_of_length_eq_zero hz
      simp only [List.length_nil] at LN c0
      have OB := Hid.intro (out_one M2.out d2)
      have OW := Hid.intro (own_up (B := w2.heap.size) d4 (fun k hk => by simp [Value.ownBlock] at hk; have := HR.out; omega))
      have B9 := Hid.intro d6
      clear d1 d2 d3 d4 d5 d6 hpl
      go_wp2_with fail
      with_reducible refine LN.mono ?_
      rintro e w5 ⟨rfl, rfl⟩
      clear LN
      go_wp2_with fail
      go_ret2
      exact ⟨_, rfl, by rw [show codesOf (nat f) = (foldC (nat f) out).2.2 by rw [OB.out]; rfl]; exact OW.out, B9.out⟩
    · obtain ⟨m, hm⟩ : ∃ m, l.length = m + 1 := ⟨l.length - 1, by omega⟩
      obtain ⟨bb, rfl⟩ := hav (by omega)
      rw [hm] at d1 c0 LN hcv d5 hpl QL
      have NX := next_any Q bb capv m f _ out l wr d1 hm (by omega) d2
      have hA := blk_lt d1.1
      have hmem := g_mem l 0 (by omega)
      have hs := pop_sorted M2.out d2
      have ha := pop_ahead M2.out d2 (g l 0) hmem
      have h65 := pop_mem d2 (g l 0) hmem
      have nb := next_bd (nat f) out (g l 0) hs ha (nat_bd f M2.out)
      have fl := foldC_le (nat f) out _ ha
      have fb := foldC_bd (nat f) out hs (nat_bd f M2.out)
      have n15 := nat_bd f M2.out (g l 0)
      have fz := foldC_snoc (nat f) out (g l 0)
      rw [nat_at f M2.out (g l 0)] at NX
      obtain ⟨ff, fq⟩ := foot_far hRF hFQ d5
      generalize g l 0 = p at *
      unfold stepC at fz
      obtain ⟨b, hb⟩ : ∃ b, (foldC (nat f) out).1 = b := ⟨_, rfl⟩
      obtain ⟨ln, hln⟩ : ∃ ln, (foldC (nat f) out).2.1 = ln := ⟨_, rfl⟩
      obtain ⟨cl, hcl⟩ : ∃ cl, (foldC (nat f) out).2.2 = cl := ⟨_, rfl⟩
      rw [hb, hln, hcl] at fz
      rw [hb, hln] at nb d3
      rw [hln] at fl
      rw [hb] at fb
      rw [hcl] at d4
      obtain ⟨nn, hnn⟩ : ∃ nn, at0 (nat f) p = nn := ⟨_, rfl⟩
      rw [hnn] at NX nb fl n15 fz
      obtain ⟨k, hk⟩ : ∃ k, nn - ln = k := ⟨_, rfl⟩
      obtain ⟨x, hx⟩ : ∃ x, b * 2 ^ k = x := ⟨_, rfl⟩
      rw [hk, hx] at nb fz
      have hki : (nn : Int) - (ln : Int) = (k : Int) := by omega
      have hxi : (b : Int) * 2 ^ k = (x : Int) := by rw [← hx]; simp
      have hk16 : k < 16 := by omega
      have FZ := Hid.intro fz
      clear hm hz hav hmem hs ha hb hln hcl hnn hk hx fz
      go_wp2_with fail
      with_reducible refine LN.mono ?_
      rintro e w3 ⟨rfl, rfl⟩
      clear LN
      go_wp2_with fail
      with_reducible refine NX.mono ?_
      rintro e w4 ⟨rfl, l3, j1, j2, j3, j4⟩
      have o4 := own_kept d4 j4 (fun k hk => by simp [Value.ownBlock] at hk; subst hk; exact ff)
      have f4 := blk_kept d3 j4 fq
      clear NX c0 f0 d1 d2 d3 d4
      obtain ⟨E, hE⟩ : ∃ E, w4.heap.size = E := ⟨_, rfl⟩
      have hQE : Q < E := by rw [← hE]; exact blk_lt j1.1
      have e5 := blk_new w4 #[.int .i64 (p : Int), .int .i64 (nn : Int)] 105
      have f5 := blk_alloc f4 (.cells #[.int .i64 (p : Int), .int .i64 (nn : Int)] 105)
      have o5 := World.ownsRow.alloc o4 (.cells #[.int .i64 (p : Int), .int .i64 (nn : Int)] 105)
      have q5 := qu_no j1 (chg_alloc (chg_refl _ _) (.cells #[.int .i64 (p : Int), .int .i64 (nn : Int)] 105))
      have j5 : Chg (foot Q (.slice (some ⟨bb, 0, none⟩) (m + 1) capv)) w3 (w4.alloc (.cells #[.int .i64 (p : Int), .int .i64 (nn : Int)] 105)) := chg_alloc j4 _
      rw [hE] at e5
      clear o4 f4 j1 j4
      go_wp2_with fail
      generalize w4.alloc (.cells #[.int .i64 (p : Int), .int .i64 (nn : Int)] 105) = w5 at *
      clear hE
      have a0 : w5.cell? ⟨F, 0, none⟩ = some (.int .i64 (b : Int)) := by rw [blk_cell f5]; rfl
      have a1 : w5.cell? ⟨F, 1, none⟩ = some (.int .i64 (ln : Int)) := by rw [blk_cell f5]; rfl
      have a2 := blk_free f5 0
      have a3 := blk_free f5 1
      have a4 : w5.cell? ⟨E, 0, none⟩ = some (.int .i64 (p : Int)) := by rw [blk_cell e5]; rfl
      have a5 : w5.cell? ⟨E, 1, none⟩ = some (.int .i64 (nn : Int)) := by rw [blk_cell e5]; rfl
      have wk : IntKind.i64.wrap (k : Int) = (k : Int) := by rw [IntKind.wrap_i64]; omega
      have wx : IntKind.i64.wrap (x : Int) = (x : Int) := by rw [IntKind.wrap_i64]; omega
      have k0 : (0 : Int) ≤ (k : Int) := by omega
      go_region
      all_goals
        have c6 : Chg (· = F) w5 ((w5.setCell ⟨F, 0, none⟩ (.int .i64 (x : Int))).setCell ⟨F, 1, none⟩ (.int .i64 (nn : Int))).drew := chg_drew (chg_in (chg_in (chg_refl _ _) _ _) _ _)
        have f6 : Blk ((w5.setCell ⟨F, 0, none⟩ (.int .i64 (x : Int))).setCell ⟨F, 1, none⟩ (.int .i64 (nn : Int))).drew F #[.int .i64 (x : Int), .int .i64 (nn : Int)] 68 := blk_drew (blk_set (blk_set f5 0 _) 1 _)
        generalize ((w5.setCell ⟨F, 0, none⟩ (.int .i64 (x : Int))).setCell ⟨F, 1, none⟩ (.int .i64 (nn : Int))).drew = w6 at *
        have e6 := blk_kept e5 c6 (by omega)
        have o6 := own_kept o5 c6 (fun k hk => by simp [Value.ownBlock] at hk; omega)
        have q6 := qu_kept q5 c6 (fun k hk e => fq (by rw [← e]; exact hk))
        have j6 : Chg (fun k => foot Q (.slice (some ⟨bb, 0, none⟩) (m + 1) capv) k ∨ k = F) w3 w6 := chg_trans (chg_mono j5 (fun _ _ h => .inl h)) c6 (fun _ _ h => .inr h)
        clear a0 a1 a2 a3 a4 a5 e5 f5 o5 q5 j5 c6 hki hxi wk wx k0
        have a0 : w6.cell? ⟨F, 0, none⟩ = some (.int .i64 (x : Int)) := by rw [blk_cell f6]; rfl
        have a1 : w6.cell? ⟨F, 1, none⟩ = some (.int .i64 (nn : Int)) := by rw [blk_cell f6]; rfl
        have a2 := blk_free f6 0
        have a3 := blk_free f6 1
        have a4 : w6.cell? ⟨E, 0, none⟩ = some (.int .i64 (p : Int)) := by rw [blk_cell e6]; rfl
        obtain ⟨g1, g2, g3, g4⟩ := cv_cells o6 p h65
        go_wp2_with fail
        have c7 : Chg (· = R) w6 ((w6.setCell ⟨R, p * 2, none⟩ (.int .i64 (x : Int))).setCell ⟨R, p * 2 + 1, none⟩ (.int .i64 (nn : Int))) := chg_in (chg_in (chg_refl _ _) _ _) _ _
        have o7 := own_set (own_set o6 (p * 2) (.int .i64 (x : Int))) (p * 2 + 1) (.int .i64 (nn : Int))
        rw [cvs_set] at o7
        generalize (w6.setCell ⟨R, p * 2, none⟩ (.int .i64 (x : Int))).setCell ⟨R, p * 2 + 1, none⟩ (.int .i64 (nn : Int)) = w7 at *
        have f7 := blk_set (blk_kept f6 c7 (by omega)) 0 (.int .i64 ((x : Int) + 1))
        have c8 : Chg (· = F) w7 (w7.setCell ⟨F, 0, none⟩ (.int .i64 ((x : Int) + 1))) := chg_in (chg_refl _ _) _ _
        generalize w7.setCell ⟨F, 0, none⟩ (.int .i64 ((x : Int) + 1)) = w8 at *
        have q8 := qu_kept (qu_kept q6 c7 (fun k hk e => ff (by rw [← e]; exact hk))) c8 (fun k hk e => fq (by rw [← e]; exact hk))
        have o8 := own_kept o7 c8 (fun k hk => by simp [Value.ownBlock] at hk; omega)
        have j8 : Chg (fun k => foot Q (.slice (some ⟨bb, 0, none⟩) (m + 1) capv) k ∨ k = F ∨ k = R) w3 w8 := chg_trans (chg_trans (chg_mono j6 (fun _ _ h => h.elim .inl (fun e => .inr (.inl e)))) c7 (fun _ _ h => .inr (.inr h))) c8 (fun _ _ h => .inr (.inl h))
        obtain ⟨y1, _⟩ := qu_cell q8
        refine ⟨⟨_, out ++ [p], l3, q8, j3, ?_, ?_, d5, ?_⟩, ?_⟩
        · rw [FZ.out]; simpa using f7
        · rw [FZ.out]; exact o8
        · refine d6.trans (chg_below j8 d6.size (fun k hk => ?_))
          have := HR.out
          rcases hk with hk | hk | hk
          · rcases hk with e | e
            · omega
            · have := d5 k e; omega
          · omega
          · omega
        · rw [QL.out, qlen_of y1]; omega
end Go.Proofs.Ytlkebkchbgpnpaa
