/-
  Packages as numbers, tables of packages, and queues of them in memory; the queue's own methods: what is called through the interface, Len, Less, Swap, Push; push and Pop of the heap, and the queue's next: what comes out, and what is left; order comes out of the heap: the places whose number is above nought, the greatest first, for every list of a thousand at the most; whether two lists of numbers are one; what lies behind any slice appended to a row of the call's own; what growing leaves as it was; a queue of two lists of packages; packages by two; the lengths that the cheapest packages say are those of the splits; a row of singles, one for each of order's classes; whether lengths may be asked for; lengths put at their classes' places; lengths: of whatever frequencies and limit, or the error; the document's example: awake; lengths and frequencies at their places; classes alike often; each more than all ahead together; what holds of the lengths at their places: costs, bounds, lengths that may be; classes that come alike often: the walk of MergeFlat; lengths that may be: the reference's MayLens; codes by their lengths: whole numbers and lists alone; no Go in sight; codes by their lengths: whole numbers and lists alone; no Go in sight; shares and May: of whatever lengths; the reference's MayLens: of whatever lengths; four bits read by a method value; one length, or a row of noughts; one length, or a row of noughts; how reading goes on; the document's example: awake; the document's example; canonAll's walk: whether any lengths may be, their codes, or the error; numbers by numbers; texts set together, and a text as a row of bytes; a byte turned.
-/
import Derived.Test.YtofclflcicjlaaaGreatPsh
import Derived.Test.YtofclflcicjlaaaGreatPushh
import Derived.Test.YtofclflcicjlaaaGreatBuh
import Derived.Test.YtofclflcicjlaaaGreatLy
import Derived.Test.YtofclflcicjlaaaGreatSc
import Derived.Test.YtofclflcicjlaaaGreatSg
import Derived.Handy
import Derived.Deep.QuietTactic
import Derived.Deep.RegionWith
import Derived.OwnWalk
import Derived.BigQuiet
import Derived.Deep.RegionHeld3
import Derived.Laws.OwnMore
import Derived.Lib.AppendZeros
import Derived.Laws.BitsAllLaws
import Derived.Laws.IdiomCopy
import Derived.BigRegion
import Derived.WalkKit
import Derived.ProofKit
import Derived.OpenShut
import Derived.Below
import Derived.Deep.Heap
import Derived.ArgAppend
import Derived.Maps.AppendAt
import Derived.Laws.IdiomStrings
import Derived.Deep.OwnRows
import Derived.Deep.RegionLaw
namespace Go.Proofs.YtofclflcicjlaaaGreat
open Go.ChangeShapes Go.WideShapes Go.ChangeAt Go.RowKit
open Go.ChangeMaps (open_string shut_string)
set_option maxRecDepth 100000
def row (L : List Nat) (n m : Nat) : List Nat := (List.range m).filter (fun c => decide (at0 L c = n))
def hv (A : Nat) : Value := .agg #[.pointer (some ⟨A, 0, none⟩)]

theorem one_new3 (w : World) (x : Value) (t : TypeId) : ∀ j u, [x][j]? = some u → (w.alloc (.cells #[x] t)).cell? ((⟨w.heap.size, 0, none⟩ : Addr).add j) = some u := by
  intro j u hj
  rw [Addr.add_lit, blk_cell (blk_new w #[x] t), ← hj]
  simp
theorem info2 : (Tryz.prog.info? 2).map (fun i => (i.zero, i.size, i.bytes)) = some (some (.int .i64 0), 1, 8) := by kernel_rfl
theorem iv_one (z : Int) : ∀ u ∈ [Value.int .i64 z], u.oneCell' = true := by
  intro u hu
  simp only [List.mem_singleton] at hu
  rw [hu]; rfl
theorem wrap64_fits (x : Int) : -9223372036854775808 ≤ wrap64 x ∧ wrap64 x ≤ 9223372036854775807 := by
  unfold wrap64; omega
/-- So far: i numbers. -/
def NbRel (w : World) (lv iv : Value) (wr : World) : Prop :=
  ∃ (i : Nat) (zs : List Int), i ≤ 60 ∧ iv = .int .i64 i ∧ zs.length = i ∧ FI zs ∧ wr.ownsRow w.heap.size 2 1 lv i (ivs zs) ∧ Below w.heap.size w wr
theorem nb_step {w wr w8 : World} {lv v8 : Value} {zs : List Int} {E : Int} {i : Nat} {o : Obj} (d1 : wr.ownsRow w.heap.size 2 1 lv i (ivs zs)) (hl : zs.length = i) (hf : FI zs) (d2 : Below w.heap.size w wr)
    (o8 : w8.ownsRow 0 2 1 v8 (i + 1) (ivs zs ++ [.int .i64 E])) (g8 : (wr.alloc o).grownBy w8 lv.ownBlock) (m8 : Moved (wr.alloc o) lv v8) (hE : -9223372036854775808 ≤ E ∧ E ≤ 9223372036854775807) (hi : i < 60) :
    NbRel w v8 (.int .i64 ((i + 1 : Nat) : Int)) w8 := by
  have fu : From w.heap.size lv := fun k hk => (d1.lt k hk).1
  have hs : w.heap.size ≤ (wr.alloc o).heap.size := by have := d2.size; simp; omega
  refine ⟨i + 1, zs ++ [E], by omega, rfl, by simp [hl], ?_, ?_, below_grown (d2.alloc d2.size _) g8 hs (fun k hk => fu k hk)⟩
  · intro z hz
    rcases List.mem_append.1 hz with h | h
    · exact hf z h
    · simp only [List.mem_singleton] at h; rw [h]; exact hE
  · refine own_up (base := 0) ?_ (from_moved fu m8 hs)
    rw [show ivs (zs ++ [E]) = ivs zs ++ [.int .i64 E] from by simp [ivs, iv]]
    exact o8
theorem wrap_fits (x : Int) : -9223372036854775808 ≤ IntKind.i64.wrap x ∧ IntKind.i64.wrap x ≤ 9223372036854775807 := by
  rw [IntKind.wrap_i64]; omega
set_option maxRecDepth 100000 in
set_option maxHeartbeats 2000000 in
theorem numbers_any (a : Option Addr) (n cap : Nat) (w : World) (h : RU w a n) (hn : n ≤ 9223372036854775807) :
    Calls Tryz.prog 13 #[.slice a n cap] w fun e w' => ∃ v zs, e = .returned v ∧ FI zs ∧ zs.length ≤ 60 ∧ w'.ownsRow w.heap.size 2 1 v zs.length (ivs zs) ∧ Below w.heap.size w w' := by
  obtain ⟨i0, hi0, hz0, hs0, hb0⟩ := info_all info2
  have HX : Hid (RU w a n) := h
  have ST : Hid (NbRel w (.slice none 0 0) (.int .i64 0) w) := ⟨0, [], by omega, rfl, rfl, fun z hz => by simp at hz, World.ownsRow_nil _ _ _ _, Below.refl _ _⟩
  clear h
  go_enter Tryz.func13, Tryz.ntmps13
  go_wp2_with fail
  go_loopw [3, 4] (fun lv iv wr => NbRel w lv iv wr) (fun _ iv _ => 61 - (intOf iv).toNat)
  case atStart => exact ST.out
  case round =>
    clear ST
    obtain ⟨i, zs, hi, rfl, hl, hf, d1, d2⟩ := hrel
    by_cases hlt : i < n
    · by_cases h60 : i < 60
      · obtain ⟨x, rfl, hx⟩ := HX.out (by omega)
        obtain ⟨u, hu0, hu1, cx⟩ := hx i hlt
        rw [← d2.cell (World.block_lt_of_cell? _ _ cx)] at cx
        have d3 := own_low d1 (Nat.zero_le _)
        have hq0 : 0 ≤ (IntKind.u16.wrap (u.tdiv 1024)).tmod 6 ∧ (IntKind.u16.wrap (u.tdiv 1024)).tmod 6 < 6 := by
          rw [Int.tdiv_eq_ediv_of_nonneg hu0, IntKind.wrap_u16, Int.tmod_eq_emod_of_nonneg (by omega)]
          omega
        obtain ⟨q, hq⟩ : ∃ q, (IntKind.u16.wrap (u.tdiv 1024)).tmod 6 = q := ⟨_, rfl⟩
        rw [hq] at hq0
        clear hx
        rcases (by omega : q = 0 ∨ q = 1 ∨ q = 2 ∨ q = 3 ∨ 4 ≤ q) with rfl | rfl | rfl | rfl | h4
        · go_wp2_with (at_builtin; refine wpList_pushh _ rfl (.tmp 55) (.tmp 57) 42 rfl 2 i0 (.int .i64 0) 1 8 Tryz.underlying42 hi0 hz0 hs0 hb0 rfl (by decide) (by decide) u3 i (ivs zs) rfl (World.ownsRow.alloc d3 _) ⟨wr.heap.size, 0, none⟩ 1 1 [.int .i64 _] rfl rfl (one_new3 _ _ _) (iv_one _) (by omega) ?_)
          intro v8 w8 o8 g8 m8
          have JJ := Hid.intro (nb_step d1 hl hf d2 o8 g8 m8 (by first | exact wrap_fits _ | exact wrap64_fits _ | omega) h60)
          obtain ⟨b8, cap8, rfl⟩ := own_slice o8 (by omega)
          clear o8 g8 m8 d1 d2 d3 hf
          go_wp2_with fail
          go_roundw
          case rel => exact JJ.out
          case measure => simp [intOf]; omega
        · go_wp2_with (at_builtin; refine wpList_pushh _ rfl (.tmp 55) (.tmp 57) 42 rfl 2 i0 (.int .i64 0) 1 8 Tryz.underlying42 hi0 hz0 hs0 hb0 rfl (by decide) (by decide) u3 i (ivs zs) rfl (World.ownsRow.alloc d3 _) ⟨wr.heap.size, 0, none⟩ 1 1 [.int .i64 _] rfl rfl (one_new3 _ _ _) (iv_one _) (by omega) ?_)
          intro v8 w8 o8 g8 m8
          have JJ := Hid.intro (nb_step d1 hl hf d2 o8 g8 m8 (by first | exact wrap_fits _ | exact wrap64_fits _ | omega) h60)
          obtain ⟨b8, cap8, rfl⟩ := own_slice o8 (by omega)
          clear o8 g8 m8 d1 d2 d3 hf
          go_wp2_with fail
          go_roundw
          case rel => exact JJ.out
          case measure => simp [intOf]; omega
        · go_wp2_with (at_builtin; refine wpList_pushh _ rfl (.tmp 55) (.tmp 57) 42 rfl 2 i0 (.int .i64 0) 1 8 Tryz.underlying42 hi0 hz0 hs0 hb0 rfl (by decide) (by decide) u3 i (ivs zs) rfl (World.ownsRow.alloc d3 _) ⟨wr.heap.size, 0, none⟩ 1 1 [.int .i64 _] rfl rfl (one_new3 _ _ _) (iv_one _) (by omega) ?_)
          intro v8 w8 o8 g8 m8
          have JJ := Hid.intro (nb_step d1 hl hf d2 o8 g8 m8 (by first | exact wrap_fits _ | exact wrap64_fits _ | omega) h60)
          obtain ⟨b8, cap8, rfl⟩ := own_slice o8 (by omega)
          clear o8 g8 m8 d1 d2 d3 hf
          go_wp2_with fail
          go_roundw
          case rel => exact JJ.out
          case measure => simp [intOf]; omega
        · go_wp2_with (at_builtin; refine wpList_pushh _ rfl (.tmp 55) (.tmp 57) 42 rfl 2 i0 (.int .i64 0) 1 8 Tryz.underlying42 hi0 hz0 hs0 hb0 rfl (by decide) (by decide) u3 i (ivs zs) rfl (World.ownsRow.alloc d3 _) ⟨wr.heap.size, 0, none⟩ 1 1 [.int .i64 _] rfl rfl (one_new3 _ _ _) (iv_one _) (by omega) ?_)
          intro v8 w8 o8 g8 m8
          have JJ := Hid.intro (nb_step d1 hl hf d2 o8 g8 m8 (by first | exact wrap_fits _ | exact wrap64_fits _ | omega) h60)
          obtain ⟨b8, cap8, rfl⟩ := own_slice o8 (by omega)
          clear o8 g8 m8 d1 d2 d3 hf
          go_wp2_with fail
          go_roundw
          case rel => exact JJ.out
          case measure => simp [intOf]; omega
        · have t0 : (q == 0) = false := by simp; omega
          have t1 : (q == 1) = false := by simp; omega
          have t2 : (q == 2) = false := by simp; omega
          have t3 : (q == 3) = false := by simp; omega
          clear h4 hq0
          go_wp2_with (at_builtin; refine wpList_pushh _ rfl (.tmp 55) (.tmp 57) 42 rfl 2 i0 (.int .i64 0) 1 8 Tryz.underlying42 hi0 hz0 hs0 hb0 rfl (by decide) (by decide) u3 i (ivs zs) rfl (World.ownsRow.alloc d3 _) ⟨wr.heap.size, 0, none⟩ 1 1 [.int .i64 _] rfl rfl (one_new3 _ _ _) (iv_one _) (by omega) ?_)
          intro v8 w8 o8 g8 m8
          have JJ := Hid.intro (nb_step d1 hl hf d2 o8 g8 m8 (by first | exact wrap_fits _ | exact wrap64_fits _ | omega) h60)
          obtain ⟨b8, cap8, rfl⟩ := own_slice o8 (by omega)
          clear o8 g8 m8 d1 d2 d3 hf
          go_wp2_with fail
          go_roundw
          case rel => exact JJ.out
          case measure => simp [intOf]; omega
      · have h61 : i = 60 := by omega
        have FIN : Hid (∃ v zs, (.returned u3 : Ending) = .returned v ∧ FI zs ∧ zs.length ≤ 60 ∧ wr.ownsRow w.heap.size 2 1 v zs.length (ivs zs) ∧ Below w.heap.size w wr) := ⟨u3, zs, rfl, hf, by omega, by rw [hl]; exact d1, d2⟩
        clear d1 d2 hf
        go_wp2_with fail
        go_ret
        exact FIN.out
    · have FIN : Hid (∃ v zs, (.returned u3 : Ending) = .returned v ∧ FI zs ∧ zs.length ≤ 60 ∧ wr.ownsRow w.heap.size 2 1 v zs.length (ivs zs) ∧ Below w.heap.size w wr) := ⟨u3, zs, rfl, hf, by omega, by rw [hl]; exact d1, d2⟩
      clear d1 d2 hf
      go_wp2_with fail
      go_ret
      exact FIN.out

/-- A block B of the call's own, of 'cap' cells, none frozen, whose first ones are the bytes l; below B all is as in w. -/
def Room (B : Nat) (w wr : World) (cap : Nat) (l : List UInt8) : Prop :=
  (∀ j, j < cap → (wr.cell? ⟨B, j, none⟩).isSome = true ∧ wr.frozen? ⟨B, j, none⟩ = false) ∧
  (∀ j (h : j < l.length), wr.cell? ⟨B, j, none⟩ = some (.int .u8 (l[j].toNat : Int))) ∧ Below B w wr ∧ B < wr.heap.size

/-- '[]byte(s)': a row of its own, with the text's bytes. -/
theorem bytes_of (s : ByteArray) (w : World) : ∃ cap W3, (convert 9 48 (.string s)).run Tryz.prog w = .ok (.slice (some ⟨w.heap.size, 0, none⟩) s.size cap) W3 ∧ Room w.heap.size w W3 s.size s.data.toList := by
  refine ⟨_, _, run_bytes_of_string w 9 48 5 s Tryz.underlying9 Tryz.underlying48 Tryz.underlying5, ?_⟩
  have hsz : s.size ≤ (bytesRow s (grownCap w s.size 0 5)).size := by
    unfold bytesRow
    rw [Array.size_append, Array.size_map]
    exact Nat.le_add_right _ _
  refine ⟨fun j hj => ⟨?_, ?_⟩, fun j hj => ?_, ?_, ?_⟩
  · rw [show w.heap.size = w.drew.heap.size from rfl, World.cell?_alloc_mark, bytesRow_at _ _ _ hj]; rfl
  · rw [show w.heap.size = w.drew.heap.size from rfl, World.frozen?_alloc_mark]
    simp; omega
  · rw [len_data] at hj
    rw [show w.heap.size = w.drew.heap.size from rfl, World.cell?_alloc_mark, bytesRow_at _ _ _ hj]
    rfl
  · exact ((Below.refl _ w).drew).alloc (Nat.le_refl _) _
  · simp

theorem room_str {B : Nat} {w wr : World} {cap : Nat} {l : List UInt8} (h : Room B w wr cap l) (n c : Nat) (hn : n = l.length) :
    (convert 48 9 (.slice (some ⟨B, 0, none⟩) n c)).run Tryz.prog wr = .ok (.string (bs l)) wr := by
  subst hn
  exact run_convert_bytes_back wr 48 9 5 ⟨B, 0, none⟩ c l Tryz.underlying48 Tryz.underlying5 Tryz.underlying9 (fun j hj => by rw [Addr.add_lit, Nat.zero_add]; exact h.2.1 j hj)

theorem set_ne {l : List UInt8} {i : Nat} {c : UInt8} (h : i < l.length) (hc : c ≠ l[i]) : l.set i c ≠ l := by
  intro e
  have : (l.set i c)[i]? = l[i]? := by rw [e]
  rw [List.getElem?_set_self h, List.getElem?_eq_getElem h] at this
  injection this with this
  exact hc this
end Go.Proofs.YtofclflcicjlaaaGreat
