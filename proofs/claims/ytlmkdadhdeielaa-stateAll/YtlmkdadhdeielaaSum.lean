/-
  start, Sum, awake: what they return.
-/
import Derived.Test.YtlmkdadhdeielaaJoin
namespace Go.Proofs.Ytlmkdadhdeielaa
open Go.ChangeShapes Go.WideShapes Go.ChangeAt Go.RowKit
open Go.ChangeMaps (open_string shut_string)

theorem each_fits (f : F4) (hf : Fits f) (l : List UInt8) : Fits (each step4 32 f l).1 := pieces_pres Fits step4 step4_fits 32 l f hf _
theorem p5_bits (a : Nat) : IntKind.u64.wrap ((a : Int) + 2870177450012600261) = (((a + 2870177450012600261) % 18446744073709551616 : Nat) : Int) := by
  rw [show (2870177450012600261 : Int) = ((2870177450012600261 : Nat) : Int) from rfl, wrapAdd]
theorem start_few (a : Nat) (l : List UInt8) (h : l.length < 32) : start a l = ((a + 2870177450012600261) % 18446744073709551616, l) := by unfold start; rw [if_pos h]
theorem start_many (a : Nat) (l : List UInt8) (h : ¬ l.length < 32) : start a l = (join4 (each step4 32 (new4 a) l).1, (each step4 32 (new4 a) l).2) := by unfold start; rw [if_neg h]
theorem ret_pair' {p : Nat × List UInt8} {a : Nat} {t : ByteArray} (h1 : a = p.1) (h2 : t = bs p.2) : Ending.returned (.tuple #[.int .u64 (a : Int), .string t]) = .returned (.tuple #[.int .u64 (p.1 : Int), .string (bs p.2)]) := by rw [h1, h2]

set_option maxRecDepth 100000 in
set_option maxHeartbeats 1000000 in
theorem start_any (a : Nat) (ha : a < 18446744073709551616) (s : ByteArray) (w : World) :
    Calls Try.prog 23 #[.int .u64 a, .string s] w fun e w' => e = .returned (.tuple #[.int .u64 ((start a s.data.toList).1 : Nat), .string (bs (start a s.data.toList).2)]) ∧ Below w.heap.size w w' := by
  by_cases hlt : s.size < 32
  · have E := start_few a s.data.toList (by rw [len_data]; exact hlt)
    have E1 := hidI (congrArg Prod.fst E)
    have E2 := hidI (congrArg Prod.snd E)
    clear E
    have e1 := p5_bits a
    generalize start a s.data.toList = p at *
    generalize (a + 2870177450012600261) % 18446744073709551616 = y at *
    go_enter Try.func23, Try.ntmps23
    go_wp2
    go_ret2
    exact ⟨ret_pair' E1.out.symm (by rw [E2.out]; rfl), Below.refl _ _⟩
  · have E := start_many a s.data.toList (by rw [len_data]; exact hlt)
    have E1 := hidI (congrArg Prod.fst E)
    have E2 := hidI (congrArg Prod.snd E)
    clear E
    have cn := fun w => new4_any a w
    have ce := fun w => each25 (new4 a) s w
    have cj := fun w => joined_any (each step4 32 (new4 a) s.data.toList).1 (each_fits _ (new4_fits a ha) _) w
    generalize start a s.data.toList = p at *
    generalize new4 a = f at *
    generalize each step4 32 f s.data.toList = q at *
    obtain ⟨g, r⟩ := q
    dsimp only at E1 E2 cj ce
    generalize join4 g = j at *
    unfold agg4 at *
    go_enter Try.func23, Try.ntmps23
    go_wp2_with fail
    refine (cn _).mono ?_
    rintro e w1 ⟨rfl, h1⟩
    go_wp2_with fail
    refine (ce _).mono ?_
    rintro e w2 ⟨rfl, h2⟩
    have hb := hidI (h1.trans (h2.mono h1.size))
    clear h1 h2 cn ce
    go_wp2_with fail
    refine (cj _).mono ?_
    rintro e w3 ⟨rfl, h3⟩
    have hb3 := hidI ((hb.out.alloc hb.out.size _).trans (h3.mono (hb.out.alloc hb.out.size _).size))
    clear h3 hb cj
    go_wp2
    go_ret2
    exact ⟨ret_pair' E1.out.symm (by rw [E2.out]), hb3.out⟩

theorem list_bs (l : List UInt8) : (bs l).data.toList = l := by unfold bs; simp
theorem sum_def (seed n : Nat) (l : List UInt8) (p : Nat × List UInt8) (hp : start seed l = p) (hn : l.length = n) : mix (each hsingle 1 (each hhalf 4 (each hword 8 ((p.1 + n) % 18446744073709551616) p.2).1 (each hword 8 ((p.1 + n) % 18446744073709551616) p.2).2).1 (each hhalf 4 (each hword 8 ((p.1 + n) % 18446744073709551616) p.2).1 (each hword 8 ((p.1 + n) % 18446744073709551616) p.2).2).2).1 = sum seed l := by
  rw [← hp, ← hn]
  unfold sum ahead most
  with_reducible rfl
theorem add_len (a n : Nat) : IntKind.u64.wrap ((a : Int) + IntKind.u64.wrap (n : Int)) = (((a + n) % 18446744073709551616 : Nat) : Int) := by
  rw [wrapN, wrapAdd, Nat.add_mod, Nat.mod_mod, ← Nat.add_mod]

set_option maxRecDepth 100000 in
set_option maxHeartbeats 1000000 in
theorem sum_any (a : Nat) (ha : a < 18446744073709551616) (s : ByteArray) (w : World) :
    Calls Try.prog 15 #[.int .u64 a, .string s] w fun e w' => e = .returned (.int .u64 (sum a s.data.toList : Nat)) ∧ Below w.heap.size w w' := by
  have c0 := fun w => start_any a ha s w
  have D := fun p hp => hidI (sum_def a s.size s.data.toList p hp (len_data s))
  generalize sum a s.data.toList = z at *
  obtain ⟨p, hp⟩ : ∃ p, start a s.data.toList = p := ⟨_, rfl⟩
  replace D := D p hp
  rw [hp] at c0
  clear hp
  obtain ⟨p, r⟩ := p
  dsimp only at D c0
  have e0 := add_len p s.size
  have l0 := m64 (p + s.size)
  generalize (p + s.size) % 18446744073709551616 = y at *
  have c1 := fun w => each17 y (bs r) l0 w
  rw [list_bs] at c1
  have l1 := each_lt hword hword_lt 8 y r l0
  generalize each hword 8 y r = q at *
  obtain ⟨q, r1⟩ := q
  dsimp only at D c1 l1
  have c2 := fun w => each18 q (bs r1) l1 w
  rw [list_bs] at c2
  have l2 := each_lt hhalf hhalf_lt 4 q r1 l1
  generalize each hhalf 4 q r1 = q2 at *
  obtain ⟨q2, r2⟩ := q2
  dsimp only at D c2 l2
  have c3 := fun w => each19 q2 (bs r2) l2 w
  rw [list_bs] at c3
  have l3 := each_lt hsingle hsingle_lt 1 q2 r2 l2
  generalize each hsingle 1 q2 r2 = q3 at *
  obtain ⟨q3, r3⟩ := q3
  dsimp only at D c3 l3
  have cm := fun w => mix_any q3 l3 w
  generalize mix q3 = m at *
  clear l0 l1 l2 l3
  go_enter Try.func15, Try.ntmps15
  go_wp2_with fail
  refine (c0 _).mono ?_
  rintro e w1 ⟨rfl, h1⟩
  replace h1 := hidI h1
  go_wp2_with fail
  refine (c1 _).mono ?_
  rintro e w' ⟨rfl, m1, rfl⟩
  go_wp2_with fail
  refine (c2 _).mono ?_
  rintro e w' ⟨rfl, m2, rfl⟩
  go_wp2_with fail
  refine (c3 _).mono ?_
  rintro e w' ⟨rfl, m3, rfl⟩
  go_wp2_with fail
  refine (cm _).mono ?_
  rintro e w' ⟨rfl, rfl⟩
  go_wp2
  go_ret
  exact ⟨ret64 D.out, below_drewN h1.out _⟩

theorem sum_nil : sum 0 [] = 17241709254077376921 := by decide +kernel
theorem sum_own {w W : World} (h : Below w.heap.size w W) (a : Nat) (ha : a < 18446744073709551616) (s : ByteArray) :
    Calls Try.prog 15 #[.int .u64 a, .string s] W fun e w' => e = .returned (.int .u64 (sum a s.data.toList : Nat)) ∧ Below w.heap.size w w' := by
  refine (sum_any a ha s W).mono ?_
  rintro e w' ⟨rfl, hb⟩
  exact ⟨rfl, h.trans (hb.mono h.size)⟩
end Go.Proofs.Ytlmkdadhdeielaa
