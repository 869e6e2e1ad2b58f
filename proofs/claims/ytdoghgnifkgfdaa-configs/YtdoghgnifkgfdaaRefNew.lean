/-
  cloisterref.New: a kernel of the document's answer: here only that it comes back, and that nothing old turns.
-/
import Derived.Test.YtdoghgnifkgfdaaWhole
namespace Go.Proofs.Ytdoghgnifkgfdaa
open Go.RowKit

/-- A block of m cells, whatever they hold. -/
def RowS (w : World) (g m t : Nat) : Prop := ∃ f, RowF w g m t f
theorem RowS.set {w : World} {g m t : Nat} (h : RowS w g m t) (j : Nat) (v : Value) : RowS (w.setCell ⟨g, j, none⟩ v) g m t := by
  obtain ⟨f, h⟩ := h
  exact ⟨_, h.set j v⟩
theorem grownBy_drew {w w' : World} {row : Option Nat} (h : w.grownBy w' row) : w.grownBy w'.drew row := ⟨h.os, h.tape, h.output, h.size, h.block⟩
theorem RowS.drew {w : World} {g m t : Nat} (h : RowS w g m t) : RowS w.drew g m t := h

set_option maxRecDepth 100000 in
set_option maxHeartbeats 2000000 in
theorem fresh_any (Kb Gc n nC cq0 bo oo nI capI t : Nat) (q : Option Addr) (z : Nat → Int) (w : World) (h0 : w.cell? ⟨Kb, 0, none⟩ = some (.slice (some ⟨bo, oo, none⟩) nC cq0)) (h4 : w.cell? ⟨Kb, 4, none⟩ = some (.slice (some ⟨Gc, 0, none⟩) nC nC))
    (hi : w.cell? ⟨bo, oo + n * 3 + 1, none⟩ = some (.slice q nI capI)) (hs : Sl w q nI (fun j => .int .i64 (z j))) (hr : RowS w Gc (nC * 26) t) (hn : n < nC) (h16 : nI ≤ 16) (g1 : Kb ≠ Gc) (g2 : bo ≠ Gc) (g3 : ∀ b o, q = some ⟨b, o, none⟩ → b ≠ Gc) :
    Calls Try.prog 50 #[.pointer (some ⟨Kb, 0, none⟩), .int .i64 n] w fun e w' => e = .returned (.tuple #[]) ∧ w.grownBy w' (some Gc) ∧ RowS w' Gc (nC * 26) t := by
  obtain ⟨ff, hf⟩ := hr
  have e0 := hf.cell (j := n * 26) (by omega)
  have f0 := hf.frozen (n * 26)
  have e1 := hf.cell (j := n * 26 + 1) (by omega)
  have f1 := hf.frozen (n * 26 + 1)
  have e2 := hf.cell (j := n * 26 + 2) (by omega)
  have f2 := hf.frozen (n * 26 + 2)
  have e3 := hf.cell (j := n * 26 + 3) (by omega)
  have f3 := hf.frozen (n * 26 + 3)
  have e4 := hf.cell (j := n * 26 + 4) (by omega)
  have f4 := hf.frozen (n * 26 + 4)
  have e5 := hf.cell (j := n * 26 + 5) (by omega)
  have f5 := hf.frozen (n * 26 + 5)
  have e6 := hf.cell (j := n * 26 + 6) (by omega)
  have f6 := hf.frozen (n * 26 + 6)
  have e7 := hf.cell (j := n * 26 + 7) (by omega)
  have f7 := hf.frozen (n * 26 + 7)
  have e8 := hf.cell (j := n * 26 + 8) (by omega)
  have f8 := hf.frozen (n * 26 + 8)
  have e9 := hf.cell (j := n * 26 + 9) (by omega)
  have f9 := hf.frozen (n * 26 + 9)
  have e10 := hf.cell (j := n * 26 + 10) (by omega)
  have f10 := hf.frozen (n * 26 + 10)
  have e11 := hf.cell (j := n * 26 + 11) (by omega)
  have f11 := hf.frozen (n * 26 + 11)
  have e12 := hf.cell (j := n * 26 + 12) (by omega)
  have f12 := hf.frozen (n * 26 + 12)
  have e13 := hf.cell (j := n * 26 + 13) (by omega)
  have f13 := hf.frozen (n * 26 + 13)
  have e14 := hf.cell (j := n * 26 + 14) (by omega)
  have f14 := hf.frozen (n * 26 + 14)
  have e15 := hf.cell (j := n * 26 + 15) (by omega)
  have f15 := hf.frozen (n * 26 + 15)
  have e16 := hf.cell (j := n * 26 + 16) (by omega)
  have f16 := hf.frozen (n * 26 + 16)
  have e17 := hf.cell (j := n * 26 + 17) (by omega)
  have f17 := hf.frozen (n * 26 + 17)
  have e18 := hf.cell (j := n * 26 + 18) (by omega)
  have f18 := hf.frozen (n * 26 + 18)
  have e19 := hf.cell (j := n * 26 + 19) (by omega)
  have f19 := hf.frozen (n * 26 + 19)
  have e20 := hf.cell (j := n * 26 + 20) (by omega)
  have f20 := hf.frozen (n * 26 + 20)
  have e21 := hf.cell (j := n * 26 + 21) (by omega)
  have f21 := hf.frozen (n * 26 + 21)
  have e5' : w.cell? ⟨Gc, n * 26 + 4 + 1, none⟩ = some (ff (n * 26 + 5)) := e5
  have f5' : w.frozen? ⟨Gc, n * 26 + 4 + 1, none⟩ = false := f5
  have e6' : w.cell? ⟨Gc, n * 26 + 4 + 2, none⟩ = some (ff (n * 26 + 6)) := e6
  have f6' : w.frozen? ⟨Gc, n * 26 + 4 + 2, none⟩ = false := f6
  have e7' : w.cell? ⟨Gc, n * 26 + 4 + 3, none⟩ = some (ff (n * 26 + 7)) := e7
  have f7' : w.frozen? ⟨Gc, n * 26 + 4 + 3, none⟩ = false := f7
  have e8' : w.cell? ⟨Gc, n * 26 + 4 + 4, none⟩ = some (ff (n * 26 + 8)) := e8
  have f8' : w.frozen? ⟨Gc, n * 26 + 4 + 4, none⟩ = false := f8
  have e9' : w.cell? ⟨Gc, n * 26 + 4 + 5, none⟩ = some (ff (n * 26 + 9)) := e9
  have f9' : w.frozen? ⟨Gc, n * 26 + 4 + 5, none⟩ = false := f9
  have e10' : w.cell? ⟨Gc, n * 26 + 4 + 6, none⟩ = some (ff (n * 26 + 10)) := e10
  have f10' : w.frozen? ⟨Gc, n * 26 + 4 + 6, none⟩ = false := f10
  have e11' : w.cell? ⟨Gc, n * 26 + 4 + 7, none⟩ = some (ff (n * 26 + 11)) := e11
  have f11' : w.frozen? ⟨Gc, n * 26 + 4 + 7, none⟩ = false := f11
  have e12' : w.cell? ⟨Gc, n * 26 + 4 + 8, none⟩ = some (ff (n * 26 + 12)) := e12
  have f12' : w.frozen? ⟨Gc, n * 26 + 4 + 8, none⟩ = false := f12
  have e13' : w.cell? ⟨Gc, n * 26 + 4 + 9, none⟩ = some (ff (n * 26 + 13)) := e13
  have f13' : w.frozen? ⟨Gc, n * 26 + 4 + 9, none⟩ = false := f13
  have e14' : w.cell? ⟨Gc, n * 26 + 4 + 10, none⟩ = some (ff (n * 26 + 14)) := e14
  have f14' : w.frozen? ⟨Gc, n * 26 + 4 + 10, none⟩ = false := f14
  have e15' : w.cell? ⟨Gc, n * 26 + 4 + 11, none⟩ = some (ff (n * 26 + 15)) := e15
  have f15' : w.frozen? ⟨Gc, n * 26 + 4 + 11, none⟩ = false := f15
  have e16' : w.cell? ⟨Gc, n * 26 + 4 + 12, none⟩ = some (ff (n * 26 + 16)) := e16
  have f16' : w.frozen? ⟨Gc, n * 26 + 4 + 12, none⟩ = false := f16
  have e17' : w.cell? ⟨Gc, n * 26 + 4 + 13, none⟩ = some (ff (n * 26 + 17)) := e17
  have f17' : w.frozen? ⟨Gc, n * 26 + 4 + 13, none⟩ = false := f17
  have e18' : w.cell? ⟨Gc, n * 26 + 4 + 14, none⟩ = some (ff (n * 26 + 18)) := e18
  have f18' : w.frozen? ⟨Gc, n * 26 + 4 + 14, none⟩ = false := f18
  have e19' : w.cell? ⟨Gc, n * 26 + 4 + 15, none⟩ = some (ff (n * 26 + 19)) := e19
  have f19' : w.frozen? ⟨Gc, n * 26 + 4 + 15, none⟩ = false := f19
  have HR : Hid (RowS w Gc (nC * 26) t) := ⟨ff, hf⟩
  have HS : Hid (Sl w q nI (fun j => .int .i64 (z j))) := hs
  have HG3 : Hid (∀ b o, q = some ⟨b, o, none⟩ → b ≠ Gc) := g3
  clear hs g3 hf e5 e6 e7 e8 e9 e10 e11 e12 e13 e14 e15 e16 e17 e18 e19 f5 f6 f7 f8 f9 f10 f11 f12 f13 f14 f15 f16 f17 f18 f19
  go_enter Try.func50, Try.ntmps50
  go_wp2_with fail
  go_loopw [5] (fun i wr => ∃ k : Nat, k ≤ nI ∧ i = .int .i64 k ∧ Hid (w.grownBy wr (some Gc)) ∧ Hid (RowS wr Gc (nC * 26) t)) (fun i _ => nI - (intOf i).toNat)
  case atStart =>
    refine ⟨0, Nat.zero_le _, rfl, ?_, ?_⟩
    · show World.grownBy _ _ _
      iterate 20 refine grownBy_setCell ?_ _ _
      exact World.grownBy.refl _ _
    · show RowS _ _ _ _
      iterate 20 refine RowS.set ?_ _ _
      exact HR.out
  case round =>
    obtain ⟨k, hk, rfl, HG, HRr⟩ := hrel
    have m0 := HG.out.cell h0 (by simpa using g1)
    have m4 := HG.out.cell h4 (by simpa using g1)
    have mi := HG.out.cell hi (by simpa using g2)
    obtain ⟨fr, hfr⟩ := HRr.out
    by_cases hlt : k < nI
    · obtain ⟨bq, oq, rfl, hc⟩ := HS.out.at (by omega)
      have c0 := HG.out.cell (hc k hlt) (by simpa using HG3.out bq oq rfl)
      have ek := hfr.cell (j := n * 26 + 4 + k) (by omega)
      have fk := hfr.frozen (n * 26 + 4 + k)
      have w0' : ∀ (W : World) (v : Value), (W.setCell ⟨Gc, n * 26 + 4 + k, none⟩ v).cell? ⟨Kb, 0, none⟩ = W.cell? ⟨Kb, 0, none⟩ := fun W v => World.cell?_setCell_other _ _ _ _ (fun e => by have e1 := congrArg Addr.block e; simp only at e1; omega)
      have w1' : ∀ (W : World) (v : Value), (W.setCell ⟨Gc, n * 26 + 4 + k, none⟩ v).cell? ⟨bo, oo + n * 3 + 1, none⟩ = W.cell? ⟨bo, oo + n * 3 + 1, none⟩ := fun W v => World.cell?_setCell_other _ _ _ _ (fun e => by have e1 := congrArg Addr.block e; simp only at e1; omega)
      have hbq : bq ≠ Gc := HG3.out bq oq rfl
      have w2' : ∀ (W : World) (v : Value), (W.setCell ⟨Gc, n * 26 + 4 + k, none⟩ v).cell? ⟨bq, oq + k, none⟩ = W.cell? ⟨bq, oq + k, none⟩ := fun W v => World.cell?_setCell_other _ _ _ _ (fun e => by have e1 := congrArg Addr.block e; simp only at e1; omega)
      have ik0 : (0 : Int) ≤ (k : Int) := by omega
      have ik1 : (k : Int) < 16 := by omega
      have ik2 : (k : Int) < (nI : Int) := by omega
      clear e0 f0 e1 f1 e2 f2 e3 f3 e4 f4 e20 f20 e21 f21 e5' f5' e6' f6' e7' f7' e8' f8' e9' f9' e10' f10' e11' f11' e12' f12' e13' f13' e14' f14' e15' f15' e16' f16' e17' f17' e18' f18' e19' f19' hc hfr
      go_wp2_with fail
      go_region_held3 (fun W => W.cell? ⟨Kb, 0, none⟩ = some (.slice (some ⟨bo, oo, none⟩) nC cq0) ∧ W.cell? ⟨bo, oo + n * 3 + 1, none⟩ = some (.slice (some ⟨bq, oq, none⟩) nI capI) ∧ W.cell? ⟨bq, oq + k, none⟩ = some (.int .i64 (z k))) (go_keep) (fail)
      clear w0' w1' w2'
      go_wp2_with fail
      exact ⟨⟨k + 1, by omega, by go_num, grownBy_drew (grownBy_setCell HG.out _ _), RowS.drew (HRr.out.set _ _)⟩, by simp [intOf]; omega⟩
    · obtain rfl : k = nI := by omega
      have en := hfr.cell (j := n * 26 + 20) (by omega)
      have fn := hfr.frozen (n * 26 + 20)
      have en' := hfr.cell (j := n * 26 + 21) (by omega)
      have fn' := hfr.frozen (n * 26 + 21)
      clear e0 f0 e1 f1 e2 f2 e3 f3 e4 f4 e20 f20 e21 f21 e5' f5' e6' f6' e7' f7' e8' f8' e9' f9' e10' f10' e11' f11' e12' f12' e13' f13' e14' f14' e15' f15' e16' f16' e17' f17' e18' f18' e19' f19' hfr
      go_wp2_with fail
      go_end0
      exact ⟨rfl, grownBy_setCell (grownBy_setCell HG.out _ _) _ _, (HRr.out.set _ _).set _ _⟩

theorem info_rcell : (Try.prog.info? 168).map (fun i => (i.zero, i.size, i.bytes)) = some (some (.agg #[.int .i64 0, .int .i64 0, .int .i64 0, .int .i64 0, .int .i64 0, .int .i64 0, .int .i64 0, .int .i64 0, .int .i64 0, .int .i64 0, .int .i64 0, .int .i64 0, .int .i64 0, .int .i64 0, .int .i64 0, .int .i64 0, .int .i64 0, .int .i64 0, .int .i64 0, .int .i64 0, .int .i64 0, .slice none 0 0, .slice none 0 0, .int .i64 0, .int .i64 0, .bool false]), 26, 240) := by kernel_rfl
theorem info_rline : (Try.prog.info? 231).map (fun i => (i.zero, i.size, i.bytes)) = some (some (.agg #[.slice none 0 0, .int .i64 0, .bool false, .int .i64 0, .int .i64 0]), 5, 56) := by kernel_rfl

theorem make_run {P : Program} (t e : TypeId) (z : Value) (size bytes n : Nat) (ht : P.underlying t = some (.slice e)) (hinfo : (P.info? e).map (fun i => (i.zero, i.size, i.bytes)) = some (some z, size, bytes)) (hb : bytes * n ≤ 281474976710656) (hn : n ≤ 9223372036854775807) :
    ∃ MC : Array Value, MC.size = n * size ∧ ∀ W : World, (Instr.makeSlice t (.int .i64 n) (.int .i64 n)).run P W = .ok (.slice (some ⟨W.heap.size, 0, none⟩) n n) (W.alloc (.cells MC e)) := by
  obtain ⟨i, h2, h3, h4, h5⟩ := info_parts hinfo
  subst h4 h5
  refine ⟨madeCells z.cells (n * i.size), size_madeCells _ _, fun W => ?_⟩
  have hb' : (i.bytes : Int) * (n : Int) ≤ 281474976710656 := by
    have h : ((i.bytes * n : Nat) : Int) ≤ 281474976710656 := by omega
    rwa [Int.natCast_mul] at h
  have hr := run_make (P := P) W t e i z ht h2 h3 .i64 .i64 n n (by omega) (Int.le_refl _) hb' (by omega)
  simpa only [Int.toNat_natCast] using hr

theorem RowS.of_heap {W : World} {g m t : Nat} {cs : Array Value} (h : W.heap[g]? = some (.cells cs t (0, 0))) (hs : cs.size = m) : RowS W g m t :=
  ⟨fun j => cs[j]!, cs, h, hs, fun j hj => by simp [hs, hj]⟩
theorem RowS.alloc' {w : World} {g m t : Nat} (h : RowS w g m t) (o : Obj) : RowS (w.alloc o) g m t := by
  obtain ⟨f, h⟩ := h
  exact ⟨f, h.alloc o⟩
theorem RowS.at (A : World) (cs : Array Value) (t : Nat) {g m : Nat} (hg : A.heap.size = g) (hm : cs.size = m) : RowS (A.alloc (.cells cs t)) g m t := by
  subst hg hm
  exact ⟨fun j => cs[j]!, RowF.new A cs t _ (fun j hj => by simp [hj])⟩
theorem lent_image {w wr : World} {nl : Bool} {b n : Nat} {z : Nat → Int} (h : Inn w nl b n 1 z) (hb : Below w.heap.size w wr) (hz : nl = true → n = 0) :
    ∃ qi ci, lentV nl b n = .slice qi n ci ∧ Sl wr qi n (fun j => .int .i64 (z j)) ∧ ∀ b o, qi = some ⟨b, o, none⟩ → b < w.heap.size := by
  cases nl
  · obtain ⟨ty, hr⟩ := h rfl
    refine ⟨some ⟨b, 0, none⟩, n + 2, rfl, ((hr.below hb hr.lt).sl_le (by omega)).congr (fun j hj => by simp [padZ, hj]), fun b' o' e => ?_⟩
    have := Option.some.inj e
    simp only [Addr.mk.injEq] at this
    rw [← this.1]
    exact hr.lt
  · obtain rfl := hz rfl
    exact ⟨none, 0, rfl, .inl rfl, fun b o e => by cases e⟩
theorem RowS.new (w : World) (cs : Array Value) (t : Nat) : RowS (w.alloc (.cells cs t)) w.heap.size cs.size t :=
  ⟨fun j => cs[j]!, RowF.new w cs t _ (fun j hj => by simp [hj])⟩

set_option maxRecDepth 100000 in
set_option maxHeartbeats 2000000 in
theorem refNew_any (c : Cfg) (o0 o1 o2 o3 : Value) (B : Nat) (w : World) (hl : LentR w c B o0 o1 o2 o3) (h16 : ∀ i, i < c.nC → c.nImg i ≤ 16) (h6 : c.nC ≤ 6) (h8 : c.nCh ≤ 8) (hc0 : 1 ≤ c.nC) (hz2 : c.chN = true → c.nCh = 0) (hzi : ∀ i, i < c.nC → c.imgN i = true → c.nImg i = 0) :
    Calls Try.prog 26 #[.agg #[o0, o1, o2, o3]] w fun e w' => ∃ kb, e = .returned (.pointer (some ⟨kb, 0, none⟩)) ∧ Below w.heap.size w w' := by
  obtain ⟨cb, rb, hbl, dbl, q0, cq0, q1, cq1, hi, hi2, rfl, lq0, zq0, sq0, rfl, lq1, zq1, sq1, rfl, rfl, hin, hB1, hB2, hrow, hord, hch, hdv, hh1, hh2, hh3⟩ := hl.ex
  obtain ⟨q2, cq2, e2⟩ : ∃ q cc, lentV c.chN hbl c.nCh = .slice q c.nCh cc := lentV_form _ _ _ hz2
  obtain ⟨bo, oo, rfl, hq⟩ := sq0.at (by omega)
  obtain ⟨M1, hM1, hm1⟩ := make_run (P := Try.prog) 131 168 _ 26 240 c.nC Try.underlying131 info_rcell (by omega) (by omega)
  obtain ⟨M2, hM2, hm2⟩ := make_run (P := Try.prog) 132 231 _ 5 56 c.nCh Try.underlying132 info_rline (by omega) (by omega)
  rw [e2]
  have HQ : Hid (∀ j, j < c.nC * 3 → w.cell? ⟨bo, oo + j, none⟩ = some (cellF c cb j)) := hq
  have HI : Hid (InnCells w c c.nC B hi cb) := hin
  have H16 : Hid (∀ i, i < c.nC → c.nImg i ≤ 16) := h16
  have HM1 : Hid (M1.size = c.nC * 26) := hM1
  have HZI : Hid (∀ i, i < c.nC → c.imgN i = true → c.nImg i = 0) := hzi
  have hbo : bo < w.heap.size := by
    have := block_lt_of_cell (hq 0 (by omega))
    exact this
  clear hl lq0 zq0 sq0 lq1 zq1 sq1 hin hB1 hB2 hrow hord hch hdv hh1 hh2 hh3 hq h16 hM1 hM2 e2 hzi hz2
  go_enter Try.func26, Try.ntmps26
  go_wp2_with fail
  go_region_held3 (fun W => W.cell? ⟨w.heap.size, 0, none⟩ = some (.slice (some ⟨bo, oo, none⟩) c.nC cq0) ∧ W.cell? ⟨w.heap.size, 1, none⟩ = some (.slice q1 c.nT cq1) ∧ W.cell? ⟨w.heap.size, 2, none⟩ = some (.slice q2 c.nCh cq2) ∧ W.cell? ⟨w.heap.size, 3, none⟩ = some (lentV c.dvN dbl c.nD)) (go_keep) (fail)
  · go_wp2_with fail
    go_loopw [4] (fun i wr => ∃ k : Nat, k ≤ c.nC ∧ i = .int .i64 k ∧ Hid (Below w.heap.size w wr) ∧ Hid (wr.cell? ⟨w.heap.size, 0, none⟩ = some (.slice (some ⟨bo, oo, none⟩) c.nC cq0)) ∧ Hid (wr.cell? ⟨w.heap.size + 1 + 1 + 1, 0, none⟩ = some (.slice (some ⟨bo, oo, none⟩) c.nC cq0)) ∧ Hid (wr.cell? ⟨w.heap.size + 1 + 1 + 1, 4, none⟩ = some (.slice (some ⟨w.heap.size + 1, 0, none⟩) c.nC c.nC)) ∧ Hid (RowS wr (w.heap.size + 1) (c.nC * 26) 168)) (fun i _ => c.nC - (intOf i).toNat)
    case atStart =>
      refine ⟨0, Nat.zero_le _, rfl, ?_, ?_, ?_, ?_, ?_⟩
      · show Below _ _ _
        exact (((((Below.refl _ _).alloc (Nat.le_refl _) _).alloc (by simp) _).alloc (by simp; omega) _).alloc (by simp; omega) _).drew
      · show _ = _
        simp [go_sem]
      · show _ = _
        simp [go_sem]
      · show _ = _
        simp [go_sem]
      · exact RowS.drew ((RowS.at (w.alloc _) M1 _ (by simp) HM1.out).alloc' _ |>.alloc' _)
    case round =>
      obtain ⟨k, hk, rfl, HB, X0, K0, K4, HR⟩ := hrel
      have x0 := X0.out
      by_cases hlt : k < c.nC
      · have c1 := (HB.out.cell (p := ⟨bo, oo + (k * 3 + 1), none⟩) hbo).trans (HQ.out (k * 3 + 1) (by omega))
        obtain ⟨-, ef, -⟩ := cellF_at c cb k
        rw [ef, ← Nat.add_assoc] at c1
        obtain ⟨qi, ci, e1, hsl, hqb⟩ : ∃ qi ci, lentV (c.imgN k) (cb k + 1) (c.nImg k) = .slice qi (c.nImg k) ci ∧ Sl wr qi (c.nImg k) (fun j => .int .i64 (c.img k j)) ∧ ∀ b o, qi = some ⟨b, o, none⟩ → b < w.heap.size := lent_image (HI.out.img k hlt) HB.out (HZI.out k hlt)
        rw [e1] at c1
        go_wp2_with fail
        refine (fresh_any (w.heap.size + 1 + 1 + 1) (w.heap.size + 1) k c.nC cq0 bo oo (c.nImg k) ci 168 qi (c.img k) _ K0.out K4.out c1 hsl HR.out hlt (H16.out k hlt) (by omega) (by omega) (fun b o h => by have := hqb b o h; omega)).mono ?_
        rintro e w' ⟨rfl, hgr, hrs⟩
        have y0 : Hid (w'.cell? ⟨w.heap.size, 0, none⟩ = _) := hgr.cell x0 (fun e => by have := Option.some.inj e; simp only at this; omega)
        have y1 : Hid (w'.cell? ⟨w.heap.size + 1 + 1 + 1, 0, none⟩ = _) := hgr.cell K0.out (fun e => by have := Option.some.inj e; simp only at this; omega)
        have y2 : Hid (w'.cell? ⟨w.heap.size + 1 + 1 + 1, 4, none⟩ = _) := hgr.cell K4.out (fun e => by have := Option.some.inj e; simp only at this; omega)
        have HB' : Hid (Below w.heap.size w w') := HB.out.grown hgr HB.out.size (fun j hj => by simp at hj; omega)
        have HR' : Hid (RowS w' (w.heap.size + 1) (c.nC * 26) 168) := hrs
        clear hgr hrs c1 ef e1 hsl hqb x0
        go_wp2_with fail
        exact ⟨⟨k + 1, by omega, by go_num, HB', y0, y1, y2, HR'⟩, by simp [intOf]; omega⟩
      · obtain rfl : k = c.nC := by omega
        go_wp2_with fail
        go_ret
        exact ⟨_, rfl, HB.out⟩
  · go_wp2_with fail
    go_loopw [4] (fun i wr => ∃ k : Nat, k ≤ c.nC ∧ i = .int .i64 k ∧ Hid (Below w.heap.size w wr) ∧ Hid (wr.cell? ⟨w.heap.size, 0, none⟩ = some (.slice (some ⟨bo, oo, none⟩) c.nC cq0)) ∧ Hid (wr.cell? ⟨w.heap.size + 1 + 1 + 1, 0, none⟩ = some (.slice (some ⟨bo, oo, none⟩) c.nC cq0)) ∧ Hid (wr.cell? ⟨w.heap.size + 1 + 1 + 1, 4, none⟩ = some (.slice (some ⟨w.heap.size + 1 + 1, 0, none⟩) c.nC c.nC)) ∧ Hid (RowS wr (w.heap.size + 1 + 1) (c.nC * 26) 168)) (fun i _ => c.nC - (intOf i).toNat)
    case atStart =>
      refine ⟨0, Nat.zero_le _, rfl, ?_, ?_, ?_, ?_, ?_⟩
      · show Below _ _ _
        exact (((((Below.refl _ _).alloc (Nat.le_refl _) _).alloc (by simp) _).alloc (by simp; omega) _).alloc (by simp; omega) _).drew
      · show _ = _
        simp [go_sem]
      · show _ = _
        simp [go_sem]
      · show _ = _
        simp [go_sem]
      · exact RowS.drew ((RowS.at ((w.alloc _).alloc _) M1 _ (by simp) HM1.out).alloc' _)
    case round =>
      obtain ⟨k, hk, rfl, HB, X0, K0, K4, HR⟩ := hrel
      have x0 := X0.out
      by_cases hlt : k < c.nC
      · have c1 := (HB.out.cell (p := ⟨bo, oo + (k * 3 + 1), none⟩) hbo).trans (HQ.out (k * 3 + 1) (by omega))
        obtain ⟨-, ef, -⟩ := cellF_at c cb k
        rw [ef, ← Nat.add_assoc] at c1
        obtain ⟨qi, ci, e1, hsl, hqb⟩ : ∃ qi ci, lentV (c.imgN k) (cb k + 1) (c.nImg k) = .slice qi (c.nImg k) ci ∧ Sl wr qi (c.nImg k) (fun j => .int .i64 (c.img k j)) ∧ ∀ b o, qi = some ⟨b, o, none⟩ → b < w.heap.size := lent_image (HI.out.img k hlt) HB.out (HZI.out k hlt)
        rw [e1] at c1
        go_wp2_with fail
        refine (fresh_any (w.heap.size + 1 + 1 + 1) (w.heap.size + 1 + 1) k c.nC cq0 bo oo (c.nImg k) ci 168 qi (c.img k) _ K0.out K4.out c1 hsl HR.out hlt (H16.out k hlt) (by omega) (by omega) (fun b o h => by have := hqb b o h; omega)).mono ?_
        rintro e w' ⟨rfl, hgr, hrs⟩
        have y0 : Hid (w'.cell? ⟨w.heap.size, 0, none⟩ = _) := hgr.cell x0 (fun e => by have := Option.some.inj e; simp only at this; omega)
        have y1 : Hid (w'.cell? ⟨w.heap.size + 1 + 1 + 1, 0, none⟩ = _) := hgr.cell K0.out (fun e => by have := Option.some.inj e; simp only at this; omega)
        have y2 : Hid (w'.cell? ⟨w.heap.size + 1 + 1 + 1, 4, none⟩ = _) := hgr.cell K4.out (fun e => by have := Option.some.inj e; simp only at this; omega)
        have HB' : Hid (Below w.heap.size w w') := HB.out.grown hgr HB.out.size (fun j hj => by simp at hj; omega)
        have HR' : Hid (RowS w' (w.heap.size + 1 + 1) (c.nC * 26) 168) := hrs
        clear hgr hrs c1 ef e1 hsl hqb x0
        go_wp2_with fail
        exact ⟨⟨k + 1, by omega, by go_num, HB', y0, y1, y2, HR'⟩, by simp [intOf]; omega⟩
      · obtain rfl : k = c.nC := by omega
        go_wp2_with fail
        go_ret
        exact ⟨_, rfl, HB.out⟩

end Go.Proofs.Ytdoghgnifkgfdaa
