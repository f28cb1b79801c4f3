/-
  Two packages together.
-/
import Derived.Test.YtabnafjndljimaaCl
namespace Go.Proofs.Ytabnafjndljimaa
open Go.ChangeShapes Go.WideShapes Go.ChangeAt Go.RowKit
open Go.ChangeMaps (open_string shut_string)

def WiRel (s t : List Nat) (N : Nat) (tv : Value) (w4 : World) (sv : Value) (wr : World) : Prop :=
  ∃ i : Nat, i ≤ N ∧ sv = .int .i64 i ∧ wr.ownsRow 0 3 1 tv N (ni (mix s t i)) ∧ Chg (fun k => tv.ownBlock = some k) w4 wr
set_option maxRecDepth 100000 in
set_option maxHeartbeats 2000000 in
theorem with_any (p q : Pk) (N D E : Nat) (W : World) (hp : PkOk N D p) (hq : PkOk N E q) (tp : Tm W N p) (tq : Tm W N q) (h0 : 0 < N) (hN : N ≤ 1000) (hDE : D + E < 16777216) :
    Calls Try.prog 38 #[pav N p, pav N q] W fun e W' => ∃ r : Pk, e = .returned (pav N r) ∧ r.c = p.c + q.c ∧ r.ts = List.zipWith (· + ·) p.ts q.ts ∧ Tm W' N r ∧ W.heap.size ≤ r.b ∧ Below W.heap.size W W' := by
  have lp := hp.1
  have lq := hq.1
  have cp : (p.c : Int) ≤ 281474976710656 := by have := hp.2.2; omega
  have cq : (q.c : Int) ≤ 281474976710656 := by have := hq.2.2; omega
  have BP : Hid (∀ t ∈ p.ts, t ≤ D) := hp.2.1
  have BQ : Hid (∀ t ∈ q.ts, t ≤ E) := hq.2.1
  clear hp hq
  obtain ⟨pc, pb, pcap, ps⟩ := p
  obtain ⟨qc, qb, qcap, qs⟩ := q
  simp only at lp lq cp cq BP BQ
  unfold pav pcv
  simp only
  have hb3 : Below W.heap.size W (((W.alloc (.cells #[.int .i64 (pc : Int), .slice (some ⟨pb, 0, none⟩) N pcap] 63)).alloc (.cells #[.int .i64 (qc : Int), .slice (some ⟨qb, 0, none⟩) N qcap] 63)).alloc (.cells #[.int .i64 0, .slice none 0 0] 63)) :=
    (((Below.refl _ _).alloc (Nat.le_refl _) _).alloc (by simp) _).alloc (by simp; omega) _
  have k0 : Blk (((W.alloc (.cells #[.int .i64 (pc : Int), .slice (some ⟨pb, 0, none⟩) N pcap] 63)).alloc (.cells #[.int .i64 (qc : Int), .slice (some ⟨qb, 0, none⟩) N qcap] 63)).alloc (.cells #[.int .i64 0, .slice none 0 0] 63)) W.heap.size #[.int .i64 (pc : Int), .slice (some ⟨pb, 0, none⟩) N pcap] 63 := blk_alloc (blk_alloc (blk_new _ _ _) _) _
  have k1 : Blk (((W.alloc (.cells #[.int .i64 (pc : Int), .slice (some ⟨pb, 0, none⟩) N pcap] 63)).alloc (.cells #[.int .i64 (qc : Int), .slice (some ⟨qb, 0, none⟩) N qcap] 63)).alloc (.cells #[.int .i64 0, .slice none 0 0] 63)) (W.heap.size + 1) #[.int .i64 (qc : Int), .slice (some ⟨qb, 0, none⟩) N qcap] 63 := blk_alloc (by have := blk_new (W.alloc (.cells #[.int .i64 (pc : Int), .slice (some ⟨pb, 0, none⟩) N pcap] 63)) #[.int .i64 (qc : Int), .slice (some ⟨qb, 0, none⟩) N qcap] 63; simpa using this) _
  have k2 : Blk (((W.alloc (.cells #[.int .i64 (pc : Int), .slice (some ⟨pb, 0, none⟩) N pcap] 63)).alloc (.cells #[.int .i64 (qc : Int), .slice (some ⟨qb, 0, none⟩) N qcap] 63)).alloc (.cells #[.int .i64 0, .slice none 0 0] 63)) (W.heap.size + 1 + 1) #[.int .i64 0, .slice none 0 0] 63 := by
    have := blk_new ((W.alloc (.cells #[.int .i64 (pc : Int), .slice (some ⟨pb, 0, none⟩) N pcap] 63)).alloc (.cells #[.int .i64 (qc : Int), .slice (some ⟨qb, 0, none⟩) N qcap] 63)) #[.int .i64 0, .slice none 0 0] 63; simpa using this
  have hsz : (((W.alloc (.cells #[.int .i64 (pc : Int), .slice (some ⟨pb, 0, none⟩) N pcap] 63)).alloc (.cells #[.int .i64 (qc : Int), .slice (some ⟨qb, 0, none⟩) N qcap] 63)).alloc (.cells #[.int .i64 0, .slice none 0 0] 63)).heap.size = W.heap.size + 3 := by simp
  have CL := clone_any ⟨pb, 0, none⟩ N pcap ps (((W.alloc (.cells #[.int .i64 (pc : Int), .slice (some ⟨pb, 0, none⟩) N pcap] 63)).alloc (.cells #[.int .i64 (qc : Int), .slice (some ⟨qb, 0, none⟩) N qcap] 63)).alloc (.cells #[.int .i64 0, .slice none 0 0] 63)) lp (by omega)
    (fun i h => by have c := tm_cell tp i h; rw [hb3.cell (World.block_lt_of_cell? _ _ c)]; exact c)
  have TQ := Hid.intro (own_later tq hb3)
  have LP := Hid.intro lp
  have LQ := Hid.intro lq
  have HK := Hid.intro (And.intro hb3 (And.intro k0 (And.intro k1 (And.intro k2 hsz))))
  clear tp tq hb3 k0 k1 k2 hsz lp lq
  go_enter Try.func38, Try.ntmps38
  go_wp2_with fail
  with_reducible refine CL.mono ?_
  rintro e w4 ⟨v, rfl, m1, m2⟩
  obtain ⟨hb3, z0, z1, z2, hsz⟩ := HK.out
  clear CL HK
  rw [hsz] at m1 m2
  have b4 : Below W.heap.size W w4 := hb3.trans (m2.mono (by omega))
  have k0 := blk_below z0 m2 (by omega)
  have k1 := blk_below z1 m2 (by omega)
  have k2 := blk_below z2 m2 (by omega)
  have tq : Tm w4 N ⟨qc, qb, qcap, qs⟩ := own_below TQ.out m2 (fun k hk => by have := (TQ.out.lt k hk).2; omega)
  have qlt : qb < W.heap.size + 3 := by have := (TQ.out.lt qb rfl).2; omega
  obtain ⟨b, cap, rfl⟩ := own_slice m1 h0
  have hbb := (m1.lt b rfl)
  have c11 : w4.cell? ⟨W.heap.size + 1, 1, none⟩ = some (.slice (some ⟨qb, 0, none⟩) N qcap) := by rw [blk_cell k1]; rfl
  have m1 := Hid.intro (own_low m1 (Nat.zero_le _))
  have HH := Hid.intro (And.intro b4 (And.intro k0 (And.intro k1 (And.intro k2 tq))))
  clear hb3 TQ m2 b4 k0 k1 k2 tq hsz z0 z1 z2
  go_wp2_with fail
  clear c11
  go_loopw [14] (fun sv wr => WiRel ps qs N (.slice (some ⟨b, 0, none⟩) N cap) w4 sv wr) (fun sv _ => N - (intOf sv).toNat)
  case atStart => exact ⟨0, by omega, rfl, by rw [mix_zero]; exact m1.out, chg_refl _ _⟩
  case round =>
    obtain ⟨i, hi, rfl, d1, d2⟩ := hrel
    obtain ⟨b4, y0, y1, y2, tq⟩ := HH.out
    by_cases hlt : i < N
    · have li : i < ps.length := by rw [LP.out]; exact hlt
      have lj : i < qs.length := by rw [LQ.out]; exact hlt
      have leq := LP.out.trans LQ.out.symm
      have ct : wr.cell? ⟨b, i, none⟩ = some (.int .i64 (ps[i] : Int)) := by
        rw [(own_there d1 i (by omega)).1, ni_at _ i (by rw [mix_len ps qs i leq (by omega)]; exact li), mix_at ps qs i leq li]
      have ft := (own_there d1 i (by omega)).2.2
      have tqr : Tm wr N ⟨qc, qb, qcap, qs⟩ := own_kept tq d2 (fun k hk e => by simp [pcv, Value.ownBlock] at hk e; omega)
      have cq' : wr.cell? ⟨qb, i, none⟩ = some (.int .i64 (qs[i] : Int)) := by have := tm_cell tqr i lj; rwa [Addr.add_lit, Nat.zero_add] at this
      have x1 := BP.out _ (List.getElem_mem li)
      have x2 := BQ.out _ (List.getElem_mem lj)
      have o2 := own_set d1 i (.int .i64 ((ps[i] + qs[i] : Nat) : Int))
      rw [ni_set, mix_step ps qs i leq li] at o2
      have c2 : Chg (fun k => (Value.slice (some ⟨b, 0, none⟩) N cap).ownBlock = some k) w4 (wr.setCell ⟨b, i, none⟩ (.int .i64 ((ps[i] + qs[i] : Nat) : Int))) := chg_set d2 _ _ (fun _ => rfl)
      have O2 := Hid.intro (And.intro o2 c2)
      generalize ps[i] = x at *
      generalize qs[i] = y at *
      have bx : (x : Int) ≤ 16777216 := by omega
      have bY : (y : Int) ≤ 16777216 := by omega
      clear o2 c2 d1 d2 tqr x1 x2 b4 y0 y1 y2 tq leq li lj
      go_wp2_with fail
      go_roundw
      case rel => exact ⟨i + 1, by omega, by go_num, O2.out.1, O2.out.2⟩
      case measure => simp [intOf]; omega
    · obtain rfl : i = N := by omega
      have leq := LP.out.trans LQ.out.symm
      have k0 := blk_kept y0 d2 (fun e => by simp [Value.ownBlock] at e; omega)
      have k1 := blk_kept y1 d2 (fun e => by simp [Value.ownBlock] at e; omega)
      have k2 := blk_kept y2 d2 (fun e => by simp [Value.ownBlock] at e; omega)
      have bw : Below W.heap.size W wr := b4.trans (chg_below d2 b4.size (fun k hk => by simp [Value.ownBlock] at hk; omega))
      have c0 : wr.cell? ⟨W.heap.size, 0, none⟩ = some (.int .i64 (pc : Int)) := by rw [blk_cell k0]; rfl
      have c1 : wr.cell? ⟨W.heap.size + 1, 0, none⟩ = some (.int .i64 (qc : Int)) := by rw [blk_cell k1]; rfl
      have c20 : wr.cell? ⟨W.heap.size + 1 + 1, 0, none⟩ = some (.int .i64 0) := by rw [blk_cell k2]; rfl
      have c21 : wr.cell? ⟨W.heap.size + 1 + 1, 1, none⟩ = some (.slice none 0 0) := by rw [blk_cell k2]; rfl
      have f20 := blk_free k2 0
      have f21 := blk_free k2 1
      have q0 : (wr.setCell ⟨W.heap.size + 1 + 1, 0, none⟩ (.int .i64 ((pc : Int) + (qc : Int)))).cell? ⟨W.heap.size + 1 + 1, 0, none⟩ = some (.int .i64 ((pc : Int) + (qc : Int))) := by rw [blk_cell (blk_set k2 0 _)]; rfl
      have q1 : ((wr.setCell ⟨W.heap.size + 1 + 1, 0, none⟩ (.int .i64 ((pc : Int) + (qc : Int)))).setCell ⟨W.heap.size + 1 + 1, 1, none⟩ (.slice (some ⟨b, 0, none⟩) i cap)).cell? ⟨W.heap.size + 1 + 1, 1, none⟩ = some (.slice (some ⟨b, 0, none⟩) i cap) := by rw [blk_cell (blk_set (blk_set k2 0 _) 1 _)]; rfl
      have cc : Chg (· = W.heap.size + 1 + 1) wr ((wr.setCell ⟨W.heap.size + 1 + 1, 0, none⟩ (.int .i64 ((pc : Int) + (qc : Int)))).setCell ⟨W.heap.size + 1 + 1, 1, none⟩ (.slice (some ⟨b, 0, none⟩) i cap)) := chg_in (chg_in (chg_refl _ _) _ _) _ _
      have mx : mix ps qs i = List.zipWith (· + ·) ps qs := by have := mix_all ps qs leq; rwa [LP.out] at this
      rw [mx] at d1
      have R := Hid.intro (And.intro (own_kept d1 cc (fun k hk e => by simp [Value.ownBlock] at hk; omega)) (bw.trans (chg_below cc bw.size (fun k hk => by omega))))
      clear d1 d2 bw cc k0 k1 k2 y0 y1 y2 b4 tq leq mx HH m1
      go_wp2_with fail
      refine bodyPost_ret (v := .agg #[.int .i64 ((pc : Int) + (qc : Int)), .slice (some ⟨b, 0, none⟩) i cap]) (by simp [results, Try.results38, go_sem, q0, q1]) rfl ⟨⟨pc + qc, b, cap, List.zipWith (· + ·) ps qs⟩, ?_, rfl, rfl, R.out.1, by show W.heap.size ≤ b; omega, R.out.2⟩
      simp
end Go.Proofs.Ytabnafjndljimaa
