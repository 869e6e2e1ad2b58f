/-
  made: one kernel more of a config, if there is one.
-/
import Derived.Test.YtdoghgnifkgfdaaRefNew
import Derived.Test.YtdoghgnifkgfdaaNew
import Derived.Test.YtdoghgnifkgfdaaCheck
namespace Go.Proofs.Ytdoghgnifkgfdaa
open Go.RowKit Go.Maps

def cells5 (a b c d e : Value) (j : Nat) : Value := if j = 0 then a else if j = 1 then b else if j = 2 then c else if j = 3 then d else e

/-- The law's own world: kernels and the document's, as many; block bw holds it. -/
structure WInv (w : World) (bw m : Nat) (ks rs : Value) : Prop where
  row : RowF w bw 5 32 (cells5 ks rs (.slice none 0 0) (.slice none 0 0) (.slice none 0 0))
  k : ∃ xs, w.ownsRow (bw + 1) 51 1 ks m xs
  r : ∃ ys, w.ownsRow (bw + 1) 99 1 rs m ys
  ne : ∀ g, ks.ownBlock = some g → rs.ownBlock ≠ some g

/-- The blocks that made may write. -/
def RZ (bw : Nat) (ks rs : Value) (j : Nat) : Prop := j = bw ∨ ks.ownBlock = some j ∨ rs.ownBlock = some j

theorem info_k : (Try.prog.info? 51).map (fun i => (i.zero, i.size, i.bytes)) = some (some (.pointer none), 1, 8) := by kernel_rfl
theorem info_r : (Try.prog.info? 99).map (fun i => (i.zero, i.size, i.bytes)) = some (some (.pointer none), 1, 8) := by kernel_rfl

theorem nameLent : (Try.f19.name == "runtime.NumGoroutine") = false := by kernel_rfl
theorem bodyLent : Try.f19.body.isNone = false := by kernel_rfl
theorem nameNew : (Try.f26.name == "runtime.NumGoroutine") = false := by kernel_rfl
theorem bodyNew : Try.f26.body.isNone = false := by kernel_rfl

theorem cellF_one (c : Cfg) (cb : Nat → Nat) (j : Nat) : (cellF c cb j).oneCell' = true := by
  unfold cellF lentV
  repeat' split
  all_goals rfl
theorem lentV_one (nl : Bool) (b n : Nat) : (lentV nl b n).oneCell' = true := by
  unfold lentV
  split <;> rfl

theorem lent_slz {w : World} {nl : Bool} {b n k bn : Nat} {z : Nat → Int} (h : Inn w nl b n k z) (hz : nl = true → n = 0) (hb : bn * n ≤ 140737488355328) : SlZ w (lentV nl b n) nl n k z bn := by
  cases nl
  · obtain ⟨ty, hr⟩ := h rfl
    exact ⟨some ⟨b, 0, none⟩, n + 2, rfl, by omega, by simp, by simp, hb, (hr.sl_le (Nat.mul_le_mul_right _ (by omega))).congr (fun j hj => by simp [padZ, hj])⟩
  · obtain rfl := hz rfl
    exact ⟨none, 0, rfl, by omega, by simp, by simp, hb, .inl (by simp)⟩

/-- The config without a word on nil rows: New is not told of them. -/
def noRowN (c : Cfg) : Cfg := { c with rowN := fun _ => false }

theorem Inn.below {w w' : World} {nl : Bool} {b n k : Nat} {z : Nat → Int} (h : Inn w nl b n k z) (hb : Below w.heap.size w w') : Inn w' nl b n k z := fun hn => by
  obtain ⟨ty, hr⟩ := h hn
  exact ⟨ty, hr.below hb hr.lt⟩
theorem InnCells.below {w w' : World} {c : Cfg} {k lo hi : Nat} {cb : Nat → Nat} (h : InnCells w c k lo hi cb) (hb : Below w.heap.size w w') : InnCells w' c k lo hi cb :=
  ⟨fun i hi => (h.code i hi).below hb, fun i hi => (h.img i hi).below hb, h.lo, h.ord⟩
theorem LentR.below {w w' : World} {c : Cfg} {B : Nat} {v0 v1 v2 v3 : Value} (h : LentR w c B v0 v1 v2 v3) (hb : Below w.heap.size w w') : LentR w' c B v0 v1 v2 v3 := by
  obtain ⟨cb, rb, hbl, dbl, q0, cq0, q1, cq1, hi, hi2, e0, l0, z0, s0, e1, l1, z1, s1, e2, e3, hin, hB1, hB2, hrow, hord, hch, hdv, hh⟩ := h.ex
  exact ⟨⟨cb, rb, hbl, dbl, q0, cq0, q1, cq1, hi, hi2, e0, l0, z0, s0.below hb, e1, l1, z1, s1.below hb, e2, e3, hin.below hb, hB1, hB2, fun i hi => ⟨(hrow i hi).1.below hb, (hrow i hi).2⟩, hord, hch.below hb, hdv.below hb, hh⟩⟩
theorem WInv.below {w w' : World} {bw m : Nat} {ks rs : Value} (h : WInv w bw m ks rs) (hb : Below w.heap.size w w') : WInv w' bw m ks rs :=
  ⟨h.row.below hb h.row.lt, let ⟨xs, hx⟩ := h.k; ⟨xs, own_below hx hb⟩, let ⟨ys, hy⟩ := h.r; ⟨ys, own_below hy hb⟩, h.ne⟩

/-- What is handed in reads as the config. -/
theorem in_cfg {c : Cfg} {w0 w : World} {B hi hi2 gC gT hbl dbl : Nat} {cb rb : Nat → Nat} {v0 v1 v2 v3 i0 i1 : Value} (h : CfgR w0 v0 v1 v2 v3 c) (hin : InnCells w c c.nC B hi cb) (hrow : ∀ i, i < c.nT → Inn w false (rb i) (c.nRow i) 2 (c.row i) ∧ hi ≤ rb i ∧ rb i < hi2)
    (hch : Inn w c.chN hbl c.nCh 3 c.ch) (hdv : Inn w c.dvN dbl c.nD 1 c.dv) (rC : RowF w gC ((c.nC + 2) * 3) 70 (outC c.nC (cellF c cb))) (rT : RowF w gT (c.nT + 2) 63 (outT c.nT (fun i => lentV false (rb i) (c.nRow i))))
    (e0 : i0 = if c.cellsN then .slice none 0 0 else .slice (some ⟨gC, 0, none⟩) c.nC (c.nC + 2)) (e1 : i1 = if c.tableN then .slice none 0 0 else .slice (some ⟨gT, 0, none⟩) c.nT (c.nT + 2)) :
    CfgR w i0 i1 (lentV c.chN hbl c.nCh) (lentV c.dvN dbl c.nD) (noRowN c) := by
  obtain ⟨⟨p0, cap0, F0, rfl, -, n0, z0, b0, -, k0⟩, ⟨p1, cap1, F1, rfl, -, n1, z1, b1, -, k1⟩, ⟨p2, cap2, rfl, -, n2, z2, b2, -⟩, ⟨p3, cap3, rfl, -, n3, z3, b3, -⟩⟩ := h
  refine ⟨?_, ?_, lent_slz hch (fun h => (z2 (n2.2 h)).1) b2, lent_slz hdv (fun h => (z3 (n3.2 h)).1) b3⟩
  · have inner : ∀ i, i < c.nC → SlZ w (cellF c cb (i * 3)) (c.codeN i) (c.nCode i) 4 (c.code i) 32 ∧ SlZ w (cellF c cb (i * 3 + 1)) (c.imgN i) (c.nImg i) 1 (c.img i) 8 ∧ cellF c cb (i * 3 + 2) = .int .i64 (c.lim i) := fun i hi => by
      obtain ⟨a1, a2, a3⟩ := cellF_at c cb i
      obtain ⟨⟨pc, capc, _, -, nc, zc, bc, -⟩, ⟨pi, capi, _, -, ni, zi, bi, -⟩, -⟩ := k0 i hi
      rw [a1, a2, a3]
      exact ⟨lent_slz (hin.code i hi) (fun h => (zc (nc.2 h)).1) bc, lent_slz (hin.img i hi) (fun h => (zi (ni.2 h)).1) bi, rfl⟩
    cases hN : c.cellsN
    · rw [hN] at e0
      refine ⟨some ⟨gC, 0, none⟩, c.nC + 2, cellF c cb, e0, by show c.nC ≤ _; omega, by simp [noRowN, hN], by simp, b0, (rC.sl_le (by show c.nC * 3 ≤ _; omega)).congr (fun j hj => ?_), inner⟩
      exact if_pos hj
    · rw [hN] at e0
      have hz := z0 (n0.2 hN)
      refine ⟨none, 0, cellF c cb, by rw [e0]; show _ = Value.slice none c.nC 0; rw [hz.1]; rfl, by show c.nC ≤ _; omega, by simp [noRowN, hN], fun _ => ⟨hz.1, rfl⟩, b0, .inl (by show c.nC * 3 = 0; omega), inner⟩
  · have inner : ∀ i, i < c.nT → SlZ w (lentV false (rb i) (c.nRow i)) false (c.nRow i) 2 (c.row i) 16 := fun i hi => by
      obtain ⟨pr, capr, _, -, nr, zr, br, -⟩ := k1 i hi
      exact lent_slz (hrow i hi).1 (fun h => by cases h) br
    cases hN : c.tableN
    · rw [hN] at e1
      refine ⟨some ⟨gT, 0, none⟩, c.nT + 2, fun i => lentV false (rb i) (c.nRow i), e1, by show c.nT ≤ _; omega, by simp [noRowN, hN], by simp, b1, (rT.sl_le (by show c.nT ≤ _; omega)).congr (fun j hj => ?_), inner⟩
      exact if_pos hj
    · rw [hN] at e1
      have hz := z1 (n1.2 hN)
      refine ⟨none, 0, fun i => lentV false (rb i) (c.nRow i), by rw [e1]; show _ = Value.slice none c.nT 0; rw [hz.1]; rfl, by show c.nT ≤ _; omega, by simp [noRowN, hN], fun _ => ⟨hz.1, rfl⟩, b1, .inl (by show c.nT = 0; omega), inner⟩

/-- The end of made, where a kernel came: both lists are one longer. -/
theorem made_end {w w2 w3 : World} {bw m g g3 : Nat} {cap cap3 : Nat} {rs : Value} {xs ys : List Value} (hb : Below bw w w2) (hg : But (fun j => rs.ownBlock = some j) w2 w3)
    (hr : RowF w2 bw 5 32 (cells5 (.slice (some ⟨g, 0, none⟩) (m + 1 : Nat) cap) rs (.slice none 0 0) (.slice none 0 0) (.slice none 0 0)))
    (hk : w2.ownsRow (bw + 1) 51 1 (.slice (some ⟨g, 0, none⟩) (m + 1 : Nat) cap) (m + 1) xs)
    (ho : w3.ownsRow (bw + 1) 99 1 (.slice (some ⟨g3, 0, none⟩) (m + 1 : Nat) cap3) (m + 1) ys)
    (ha : rs.ownBlock = some g3 ∨ w2.heap.size ≤ g3) (hne : rs.ownBlock ≠ some g) (hgl : bw + 1 ≤ g ∧ g < w2.heap.size) (hlo : ∀ j, rs.ownBlock = some j → bw + 1 ≤ j) :
    Below bw w (w3.setCell ⟨bw, 1, none⟩ (.slice (some ⟨g3, 0, none⟩) (m + 1 : Nat) cap3)) ∧ ∃ m' ks' rs', m' ≤ m + 1 ∧ WInv (w3.setCell ⟨bw, 1, none⟩ (.slice (some ⟨g3, 0, none⟩) (m + 1 : Nat) cap3)) bw m' ks' rs' := by
  have hbw : bw < w2.heap.size := hr.lt
  have hr3 : RowF w3 bw 5 32 _ := hr.of_heap (hg.block bw hbw (fun e => by have := hlo bw e; omega))
  have hs : (w3.setCell ⟨bw, 1, none⟩ (.slice (some ⟨g3, 0, none⟩) (m + 1 : Nat) cap3)).heap.size = w3.heap.size := size_setCell _ _ _
  refine ⟨⟨hg.os.trans hb.os, hg.tape.trans hb.tape, hg.output.trans hb.output, by rw [hs]; exact Nat.le_trans hb.size hg.size, fun j hj => ?_⟩, m + 1, .slice (some ⟨g, 0, none⟩) (m + 1 : Nat) cap, .slice (some ⟨g3, 0, none⟩) (m + 1 : Nat) cap3, Nat.le_refl _, ?_⟩
  · refine (heap_setCell_other _ _ _ _ (by show j ≠ bw; omega)).trans ((hg.block j (by omega) (fun e => by have := hlo j e; omega)).trans (hb.block j hj))
  · refine ⟨(hr3.set 1 _).congr (fun j hj => ?_), ⟨xs, ?_⟩, ⟨ys, ownsRow_setCell_below ho (by simp) _⟩, fun g' h1 h2 => ?_⟩
    · have : j = 0 ∨ j = 1 ∨ j = 2 ∨ j = 3 ∨ j = 4 := by omega
      rcases this with rfl | rfl | rfl | rfl | rfl <;> rfl
    · refine ownsRow_setCell_below ?_ (by simp) _
      rcases hk.2 with hn | ⟨g', cap', cur, hv, hbg, hh, r⟩
      · exact ⟨hk.1, .inl hn⟩
      · obtain rfl : g = g' := by
          simp only [Value.slice.injEq, Option.some.injEq, Addr.mk.injEq] at hv
          exact hv.1.1
        exact ⟨hk.1, .inr ⟨g, cap', cur, hv, hbg, by rw [hg.block g hgl.2 hne]; exact hh, r⟩⟩
    · have e1 : g = g' := by simpa [Value.ownBlock] using h1
      have e2 : g3 = g' := by simpa [Value.ownBlock] using h2
      subst e1
      subst e2
      rcases ha with h | h
      · exact hne h
      · omega

set_option maxRecDepth 100000 in
set_option maxHeartbeats 4000000 in
theorem made_any (c : Cfg) (v0 v1 v2 v3 : Value) (bw m : Nat) (ks rs : Value) (w : World) (hst : ∀ w', But (RZ bw ks rs) w w' → CfgR w' v0 v1 v2 v3 c) (hw : CfgW c) (hi : WInv w bw m ks rs) (hn : m ≤ 8796093022208) :
    Calls Try.prog 8 #[.pointer (some ⟨bw, 0, none⟩), .agg #[v0, v1, v2, v3]] w fun e w' => e = .returned (.bool true) ∧ Below bw w w' ∧ ∃ m' ks' rs', m' ≤ m + 1 ∧ WInv w' bw m' ks' rs' := by
  have h := hst w (But.refl _ _)
  have HA : Hid (∀ o, Below w.heap.size w (w.alloc o)) := fun o => (Below.refl _ _).alloc (Nat.le_refl _) _
  have hcp := h
  obtain ⟨⟨p0, cap0, F0, rfl, -, n0, z0, b0, -, k0⟩, ⟨p1, cap1, F1, rfl, -, n1, z1, b1, -, k1⟩, ⟨p2, cap2, rfl, -, n2, z2, b2, -⟩, ⟨p3, cap3, rfl, -, n3, z3, b3, -⟩⟩ := hcp
  have HC : Hid (CfgR w (.slice p0 c.nC cap0) (.slice p1 c.nT cap1) (.slice p2 c.nCh cap2) (.slice p3 c.nD cap3) c) := h
  have ZCH : Hid (c.chN = true → c.nCh = 0) := fun h => (z2 (n2.2 h)).1
  have ZDV : Hid (c.dvN = true → c.nD = 0) := fun h => (z3 (n3.2 h)).1
  have ZIM : Hid (∀ i, i < c.nC → c.imgN i = true → c.nImg i = 0) := fun i hi h => by
    obtain ⟨-, ⟨pi, capi, _, -, ni, zi, bi, -⟩, -⟩ := k0 i hi
    exact (zi (ni.2 h)).1
  have N0 : Hid ((p0 = none ↔ c.cellsN = true) ∧ (p0 = none → c.nC = 0 ∧ cap0 = 0) ∧ (p1 = none ↔ c.tableN = true) ∧ (p1 = none → c.nT = 0 ∧ cap1 = 0)) := ⟨n0, z0, n1, z1⟩
  have B0 : Hid (56 * c.nC ≤ 140737488355328) := b0
  have B1 : Hid (24 * c.nT ≤ 140737488355328) := b1
  have hb0 : c.nC ≤ 2513169434916 := by omega
  have hb1 : c.nT ≤ 5864062014805 := by omega
  have hb2 : c.nCh ≤ 8796093022208 := by omega
  have hb3 : c.nD ≤ 17592186044416 := by omega
  have HW : Hid (CfgW c) := hw
  have HI : Hid (WInv w bw m ks rs) := hi
  have HST : Hid (∀ w', But (RZ bw ks rs) w w' → CfgR w' (.slice p0 c.nC cap0) (.slice p1 c.nT cap1) (.slice p2 c.nCh cap2) (.slice p3 c.nD cap3) c) := hst
  have hbwlt : bw < w.heap.size := hi.row.lt
  clear h hst hw hi n0 z0 k0 n1 z1 k1 n2 z2 n3 z3 b0 b1 b2 b3
  go_enter Try.func8, Try.ntmps8
  go_wp2_with fail
  refine (lent_any c _ _ _ _ _ (HC.out.below (HA.out _))).mono ?_
  rintro e wL ⟨x0, x1, x2, x3, rfl, hl, hbelL⟩
  have HL0 : Hid (LentR wL c _ x0 x1 x2 x3) := hl
  obtain ⟨cb, rb, hbl, dbl, q0, cq0, q1, cq1, hi, hi2, rfl, lq0, zq0, sq0, rfl, lq1, zq1, sq1, e2, e3, hin, hB1, hB2, hrow, hord, hch, hdv, hh1, hh2, hh3⟩ := hl.ex
  obtain ⟨q2, cq2, f2⟩ := lentV_form c.chN hbl c.nCh ZCH.out
  obtain ⟨q3, cq3, f3⟩ := lentV_form c.dvN dbl c.nD ZDV.out
  have F2 : Hid (lentV c.chN hbl c.nCh = .slice q2 c.nCh cq2) := f2
  have F3 : Hid (lentV c.dvN dbl c.nD = .slice q3 c.nD cq3) := f3
  obtain rfl : x2 = .slice q2 c.nCh cq2 := e2.trans f2
  obtain rfl : x3 = .slice q3 c.nD cq3 := e3.trans f3
  have HBL : Hid (Below (w.heap.size + 1) (w.alloc (.cells #[.slice p0 c.nC cap0, .slice p1 c.nT cap1, .slice p2 c.nCh cap2, .slice p3 c.nD cap3] 39)) wL) := hbelL.mono (by simp)
  have SQ0 : Hid (Sl wL q0 (c.nC * 3) (cellF c cb)) := sq0
  have SQ1 : Hid (Sl wL q1 c.nT (fun i => lentV false (rb i) (c.nRow i))) := sq1
  have ZQ : Hid ((q0 = none → c.nC = 0) ∧ (q1 = none → c.nT = 0)) := ⟨fun h => (zq0 h).1, fun h => (zq1 h).1⟩
  have HIN : Hid (InnCells wL c c.nC (w.heap.size + 1) hi cb) := by show InnCells _ _ _ _ _ _; simpa using hin
  have HRO : Hid (∀ i, i < c.nT → Inn wL false (rb i) (c.nRow i) 2 (c.row i) ∧ hi ≤ rb i ∧ rb i < hi2) := hrow
  have HCH : Hid (Inn wL c.chN hbl c.nCh 3 c.ch) := hch
  have HDV : Hid (Inn wL c.dvN dbl c.nD 1 c.dv) := hdv
  clear hl hbelL sq0 sq1 zq0 zq1 hin hrow hord hch hdv hh1 hh2 hh3 e2 e3 f2 f3 lq0 lq1 hB1 hB2
  obtain ⟨y0, y1, y2, y3⟩ := box4 HBL.out
  have hH : w.heap.size < wL.heap.size := block_lt_of_cell y0
  go_wp2_with fail
  have hM : (wL.alloc (.cells #[.slice q0 c.nC cq0, .slice q1 c.nT cq1, .slice q2 c.nCh cq2, .slice q3 c.nD cq3] 39)).heap.size = wL.heap.size + 1 := by simp
  have HAL : Hid (∀ o, Below wL.heap.size wL (wL.alloc o)) := fun o => (Below.refl _ _).alloc (Nat.le_refl _) _
  refine (outer_any c.nC c.nT cq0 cq1 q0 q1 (cellF c cb) (fun i => lentV false (rb i) (c.nRow i)) _ _ _ (SQ0.out.below (HAL.out _)) (SQ1.out.below (HAL.out _)) ZQ.out.1 ZQ.out.2 (fun j _ => cellF_one c cb j) (fun j _ => lentV_one _ _ _) B0.out B1.out).mono ?_
  rintro e wO ⟨he, hszO, hbelO, hrC, hrT⟩
  rw [hM] at he hszO hrC hrT
  subst he
  have HZO : Hid (wO.heap.size = wL.heap.size + 1 + 1 + 1 + 1) := hszO
  have HRC : Hid (RowF wO (wL.heap.size + 1 + 1) ((c.nC + 2) * 3) 70 (outC c.nC (cellF c cb))) := hrC
  have HRT : Hid (RowF wO (wL.heap.size + 1 + 1 + 1) (c.nT + 2) 63 (outT c.nT (fun i => lentV false (rb i) (c.nRow i)))) := hrT
  have HMI : Hid (RowF wO wL.heap.size 4 39 (cells4 (.slice q0 c.nC cq0) (.slice q1 c.nT cq1) (.slice q2 c.nCh cq2) (.slice q3 c.nD cq3))) := (row4 wL _ _ _ _ _).below hbelO (by rw [hM]; omega)
  have HBO : Hid (Below wL.heap.size wL wO) := below1 hbelO
  clear hszO hbelO hrC hrT hM
  obtain ⟨m0, m1, m2, m3⟩ := HMI.out.at4
  have hszO' : wL.heap.size < wO.heap.size := by have := HZO.out; omega
  have t0 := (HBO.out.cell (p := ⟨w.heap.size, 0, none⟩) hH).trans y0
  have t1 := (HBO.out.cell (p := ⟨w.heap.size, 1, none⟩) hH).trans y1
  have t2 := (HBO.out.cell (p := ⟨w.heap.size, 2, none⟩) hH).trans y2
  have t3 := (HBO.out.cell (p := ⟨w.heap.size, 3, none⟩) hH).trans y3
  have hHO : w.heap.size < wO.heap.size := by omega
  clear y0 y1 y2 y3
  have HIO : Hid (InnCells wO c c.nC (w.heap.size + 1) hi cb) := HIN.out.below HBO.out
  have HROO : Hid (∀ i, i < c.nT → Inn wO false (rb i) (c.nRow i) 2 (c.row i) ∧ hi ≤ rb i ∧ rb i < hi2) := fun i hi => ⟨(HRO.out i hi).1.below HBO.out, (HRO.out i hi).2⟩
  have HCHO : Hid (Inn wO c.chN hbl c.nCh 3 c.ch) := HCH.out.below HBO.out
  have HDVO : Hid (Inn wO c.dvN dbl c.nD 1 c.dv) := HDV.out.below HBO.out
  clear HIN HRO HCH HDV
  obtain ⟨n0, z0, n1, z1⟩ := N0.out
  cases p0 with
  | none =>
    obtain ⟨hz0, rfl⟩ := z0 rfl
    have HN0 : Hid (c.cellsN = true) := n0.1 rfl
    clear hz0
    cases p1 with
    | none =>
      obtain ⟨hz1, rfl⟩ := z1 rfl
      have HN1 : Hid (c.tableN = true) := n1.1 rfl
      clear hz1
      clear n0 z0 n1 z1
      have HCI : Hid (CfgR wO (.slice none 0 0) (.slice none 0 0) (.slice q2 c.nCh cq2) (.slice q3 c.nD cq3) (noRowN c)) := by
        have hh := in_cfg (i0 := .slice none 0 0) (i1 := .slice none 0 0) HC.out HIO.out HROO.out HCHO.out HDVO.out HRC.out HRT.out (by simp [HN0.out]) (by simp [HN1.out])
        rw [F2.out, F3.out] at hh
        exact hh
      go_wp2_with fail
      refine (new_any (noRowN c) _ _ _ _ _ (HCI.out.below ((Below.refl _ _).alloc (Nat.le_refl _) _)) HW.out).mono ?_
      rintro e wN ⟨kv, x, y, rfl, hchk, hbelN, hkv⟩
      have HCK : Hid (CheckIs c x y) := hchk
      have HBN : Hid (Below wO.heap.size wO wN) := below1 hbelN
      have HKV : Hid ((x ≠ 0 ∧ kv = .pointer none) ∨ (x = 0 ∧ ∃ b, kv = .pointer (some ⟨b, 0, none⟩))) := hkv
      have hsN : wO.heap.size ≤ wN.heap.size := HBN.out.size
      have s0 := (HBN.out.cell (p := ⟨w.heap.size, 0, none⟩) hHO).trans t0
      have s1 := (HBN.out.cell (p := ⟨w.heap.size, 1, none⟩) hHO).trans t1
      have s2 := (HBN.out.cell (p := ⟨w.heap.size, 2, none⟩) hHO).trans t2
      have s3 := (HBN.out.cell (p := ⟨w.heap.size, 3, none⟩) hHO).trans t3
      have HMN : Hid (RowF wN wL.heap.size 4 39 _) := HMI.out.below HBN.out hszO'
      have HBwN : Hid (Below w.heap.size w wN) := ((box_below HBL.out).trans (HBO.out.mono (by omega))).trans (HBN.out.mono (by omega))
      clear hchk hbelN hkv t0 t1 t2 t3 m0 m1 m2 m3
      go_wp2_with fail
      refine (refCheck_any c _ _ _ _ _ (HC.out.below HBwN.out)).mono ?_
      rintro e wC ⟨x', y', rfl, hchk', hbelC⟩
      obtain ⟨rfl, rfl⟩ := HCK.out.uniq hchk'
      have HBC : Hid (Below wN.heap.size wN wC) := hbelC
      have hsC : wN.heap.size ≤ wC.heap.size := HBC.out.size
      have r0 := (HBC.out.cell (p := ⟨w.heap.size, 0, none⟩) (by show w.heap.size < _; omega)).trans s0
      have r1 := (HBC.out.cell (p := ⟨w.heap.size, 1, none⟩) (by show w.heap.size < _; omega)).trans s1
      have r2 := (HBC.out.cell (p := ⟨w.heap.size, 2, none⟩) (by show w.heap.size < _; omega)).trans s2
      have r3 := (HBC.out.cell (p := ⟨w.heap.size, 3, none⟩) (by show w.heap.size < _; omega)).trans s3
      have HMC : Hid (RowF wC wL.heap.size 4 39 _) := HMN.out.below HBC.out (by omega)
      have HBOC : Hid (Below wO.heap.size wO wC) := HBN.out.trans (HBC.out.mono (by omega))
      have HBwC : Hid (Below w.heap.size w wC) := HBwN.out.trans (HBC.out.mono (by omega))
      clear hchk' hbelC s0 s1 s2 s3 HMN
      go_wp2_with fail
      refine (outside_any c _ _ _ _ (wL.heap.size + 1 + 1) (wL.heap.size + 1 + 1 + 1) cb rb w _ HC.out HBwC.out (by omega) (by omega) (by omega) (HRC.out.below HBOC.out (by have := HZO.out; omega)) (HRT.out.below HBOC.out (by have := HZO.out; omega))).mono ?_
      rintro e wS ⟨rfl, hb2⟩
      have HB2 : Hid (But2 wC wS (wL.heap.size + 1 + 1) (wL.heap.size + 1 + 1 + 1)) := hb2
      have hsS : wC.heap.size ≤ wS.heap.size := HB2.out.size
      have HBLS : Hid (Below wL.heap.size wL wS) := HB2.out.below (HBO.out.trans (HBOC.out.mono (by omega))) (by omega) (by omega)
      have HMS : Hid (RowF wS wL.heap.size 4 39 (cells4 (.slice q0 c.nC cq0) (.slice q1 c.nT cq1) (.slice q2 c.nCh cq2) (.slice q3 c.nD cq3))) := HMC.out.of_heap (HB2.out.block _ (by omega) (by omega) (by omega))
      have HBBS : Hid (Below (w.alloc (.cells #[.slice none c.nC 0, .slice none c.nT 0, .slice p2 c.nCh cap2, .slice p3 c.nD cap3] 39)).heap.size (w.alloc (.cells #[.slice none c.nC 0, .slice none c.nT 0, .slice p2 c.nCh cap2, .slice p3 c.nD cap3] 39)) wS) := by
        show Below _ _ _
        have hh : Below (w.heap.size + 1) _ wS := HBL.out.trans (HBLS.out.mono (by omega))
        simpa using hh
      obtain ⟨y0, y1, y2, y3⟩ := box4 (HBL.out.trans (HBLS.out.mono (by omega)))
      obtain ⟨m0, m1, m2, m3⟩ := HMS.out.at4
      have hHS : w.heap.size < wS.heap.size := by omega
      have hLS : wL.heap.size < wS.heap.size := by omega
      clear hb2 r0 r1 r2 r3 HMC
      go_wp2_with fail
      refine (whole_any c _ _ _ _ _ _ _ _ _ _ (HC.out.below (HA.out _)) HBBS.out (HL0.out.below HBLS.out)).mono ?_
      rintro e wW ⟨rfl, hbw⟩
      have HBW : Hid (Below (w.heap.size + 1) (w.alloc _) wW) := hbw.mono (by simp)
      clear hbw y0 y1 y2 y3 m0 m1 m2 m3
      rcases HKV.out with ⟨hx0, rfl⟩ | ⟨hx0, kb, rfl⟩
      · have hx1 : (x != 0) = true := by simpa using hx0
        clear hx0
        go_wp2_with (go_at_call 25; refine (num_any x _).mono ?_; rintro e w' ⟨rfl, rfl⟩)
        go_ret
        exact ⟨rfl, (box_below HBW.out).mono (by omega), m, ks, rs, by omega, HI.out.below (box_below HBW.out)⟩
      · have hx1 : (x != 0) = false := by simpa using hx0
        have HX0 : Hid (x = 0) := hx0
        clear hx0
        have HIW : Hid (WInv wW bw m ks rs) := HI.out.below (box_below HBW.out)
        obtain ⟨xs, hks⟩ := HIW.out.k
        have HKS : Hid (wW.ownsRow (bw + 1) 51 1 ks m xs) := hks
        have u0 : wW.cell? ⟨bw, 0, none⟩ = some ks := HIW.out.row.cell (by omega)
        have hbW : bw < wW.heap.size := block_lt_of_cell u0
        clear hks
        go_wp2_with (first | (go_at_call 25; refine (num_any x _).mono ?_; rintro e wW ⟨rfl, rfl⟩) | (at_builtin; (refine wpList_append_info _ rfl _ _ 24 rfl (bw + 1) 51 _ 1 8 Try.underlying24 info_k rfl (by omega) ks m xs rfl (HKS.out.alloc _) wW.heap.size [.pointer (some ⟨kb, 0, none⟩)] 51 rfl rfl (by exact alloc_at rfl) (by simp [Value.oneCell']) (by simp only [maxLen]; omega) (by omega) (by simp; omega) ?_)))
        intro g cap w1 hown1 hgrow1 hat hlt1
        have hksown : ∀ j, ks.ownBlock = some j → bw + 1 ≤ j ∧ j < w.heap.size := fun j hj => by
          obtain ⟨xs', hx'⟩ := HI.out.k
          exact hx'.lt j hj
        have hrsown : ∀ j, rs.ownBlock = some j → bw + 1 ≤ j ∧ j < w.heap.size := fun j hj => by
          obtain ⟨xs', hx'⟩ := HI.out.r
          exact hx'.lt j hj
        have hsW : w.heap.size + 1 ≤ wW.heap.size := by have := HBW.out.size; simpa using this
        have hs1 : wW.heap.size + 1 ≤ w1.heap.size := by have := hgrow1.size; simpa using this
        have OLD1 : Hid (∀ j, j < wW.heap.size → ks.ownBlock ≠ some j → w1.heap[j]? = wW.heap[j]?) := fun j hj hne => (hgrow1.block j (by simp; omega) (fun e => hne e.symm)).trans (heap_alloc_old _ _ hj)
        have HR1 : Hid (RowF w1 bw 5 32 (cells5 ks rs (.slice none 0 0) (.slice none 0 0) (.slice none 0 0))) := HIW.out.row.of_heap (OLD1.out bw hbW (fun e => by have := hksown bw e; omega))
        have HR2 : Hid (RowF (w1.setCell ⟨bw, 0, none⟩ (.slice (some ⟨g, 0, none⟩) (m + 1 : Nat) cap)) bw 5 32 (cells5 (.slice (some ⟨g, 0, none⟩) (m + 1 : Nat) cap) rs (.slice none 0 0) (.slice none 0 0) (.slice none 0 0))) := (HR1.out.set 0 _).congr (fun j hj => by
          have : j = 0 ∨ j = 1 ∨ j = 2 ∨ j = 3 ∨ j = 4 := by omega
          rcases this with rfl | rfl | rfl | rfl | rfl <;> rfl)
        have d0 : w1.cell? ⟨bw, 0, none⟩ = some ks := HR1.out.cell (by omega)
        have d0f := HR1.out.frozen 0
        have HK2 : Hid ((w1.setCell ⟨bw, 0, none⟩ (.slice (some ⟨g, 0, none⟩) (m + 1 : Nat) cap)).ownsRow (bw + 1) 51 1 (.slice (some ⟨g, 0, none⟩) (m + 1 : Nat) cap) (m + 1) (xs ++ [.pointer (some ⟨kb, 0, none⟩)])) := ownsRow_setCell_below hown1 (by simp) _
        have OLD2 : Hid (∀ j, j < wW.heap.size → j ≠ bw → ks.ownBlock ≠ some j → (w1.setCell ⟨bw, 0, none⟩ (.slice (some ⟨g, 0, none⟩) (m + 1 : Nat) cap)).heap[j]? = wW.heap[j]?) := fun j hj h1 h2 => (heap_setCell_other _ _ _ _ (by simpa using h1)).trans (OLD1.out j hj h2)
        have hs2 : (w1.setCell ⟨bw, 0, none⟩ (.slice (some ⟨g, 0, none⟩) (m + 1 : Nat) cap)).heap.size = w1.heap.size := size_setCell _ _ _
        have HBU : Hid (But (RZ bw ks rs) w (w1.setCell ⟨bw, 0, none⟩ (.slice (some ⟨g, 0, none⟩) (m + 1 : Nat) cap))) := ⟨(hgrow1.os.trans (box_below HBW.out).os), (hgrow1.tape.trans (box_below HBW.out).tape), (hgrow1.output.trans (box_below HBW.out).output), by omega, fun j hj hn => (OLD2.out j (by omega) (fun e => hn (.inl e)) (fun e => hn (.inr (.inl e)))).trans ((box_below HBW.out).block j hj)⟩
        have HCW : Hid (CfgR (w1.setCell ⟨bw, 0, none⟩ (.slice (some ⟨g, 0, none⟩) (m + 1 : Nat) cap)) (.slice none c.nC 0) (.slice none c.nT 0) (.slice p2 c.nCh cap2) (.slice p3 c.nD cap3) c) := HST.out _ HBU.out
        obtain ⟨ys, hrs⟩ := HIW.out.r
        have HRS2 : Hid ((w1.setCell ⟨bw, 0, none⟩ (.slice (some ⟨g, 0, none⟩) (m + 1 : Nat) cap)).ownsRow (bw + 1) 99 1 rs m ys) := by
          rcases hrs.2 with hn | ⟨g', cap', cur, hv, hbg, hg, r⟩
          · exact ⟨hrs.1, .inl hn⟩
          · have hrg : rs.ownBlock = some g' := by rw [hv]; rfl
            exact ⟨hrs.1, .inr ⟨g', cap', cur, hv, hbg, by rw [OLD2.out g' (by have := hrsown g' hrg; omega) (by omega) (fun e => HI.out.ne g' e hrg)]; exact hg, r⟩⟩
        have HNE2 : Hid (rs.ownBlock ≠ some g) := by
          rcases hat with h | h
          · exact HI.out.ne g h
          · intro e
            have := hrsown g e
            omega
        have HROWH : Hid (RowF (w1.setCell ⟨bw, 0, none⟩ (.slice (some ⟨g, 0, none⟩) (m + 1 : Nat) cap)) w.heap.size 4 39 (cells4 (.slice none c.nC 0) (.slice none c.nT 0) (.slice p2 c.nCh cap2) (.slice p3 c.nD cap3))) := ((row4 w _ _ _ _ _).below HBW.out (by omega)).of_heap (OLD2.out _ (by omega) (by omega) (fun e => by have := hksown _ e; omega))
        have HHG : Hid (bw + 1 ≤ g ∧ g < w1.heap.size) := by
          rcases hat with h | h
          · have := hksown g h; exact ⟨this.1, hlt1⟩
          · exact ⟨by omega, hlt1⟩
        clear hown1 hgrow1 hat hlt1 hrs u0
        go_wp2_with fail
        obtain ⟨k0, k1, k2, k3⟩ := HROWH.out.at4
        have b1 : (w1.setCell ⟨bw, 0, none⟩ (.slice (some ⟨g, 0, none⟩) (m + 1 : Nat) cap)).cell? ⟨bw, 1, none⟩ = some rs := HR2.out.cell (by omega)
        have b1f := HR2.out.frozen 1
        have CK0 : Hid (CheckIs c 0 0) := HCK.out.place HX0.out
        have H2S : Hid (w.heap.size + 1 ≤ (w1.setCell ⟨bw, 0, none⟩ (.slice (some ⟨g, 0, none⟩) (m + 1 : Nat) cap)).heap.size ∧ bw < (w1.setCell ⟨bw, 0, none⟩ (.slice (some ⟨g, 0, none⟩) (m + 1 : Nat) cap)).heap.size ∧ g < (w1.setCell ⟨bw, 0, none⟩ (.slice (some ⟨g, 0, none⟩) (m + 1 : Nat) cap)).heap.size) := ⟨by omega, by omega, by rw [hs2]; exact HHG.out.2⟩
        have HB2w : Hid (Below bw w (w1.setCell ⟨bw, 0, none⟩ (.slice (some ⟨g, 0, none⟩) (m + 1 : Nat) cap))) := ⟨HBU.out.os, HBU.out.tape, HBU.out.output, HBU.out.size, fun j hj => HBU.out.block j (by omega) (fun h => by
          rcases h with h | h | h
          · omega
          · have := hksown j h; omega
          · have := hrsown j h; omega)⟩
        clear hs2 OLD1 OLD2 HR1 d0 d0f hsW hs1
        generalize (w1.setCell ⟨bw, 0, none⟩ (.slice (some ⟨g, 0, none⟩) (m + 1 : Nat) cap)) = w2 at *
        have g1 := H2S.out.1
        have g2 := H2S.out.2.1
        have NC : Hid (NCok c ∧ c.nCh ≤ 8 ∧ AllOk (CellOk c) c.nC) := by
          have hh := CK0.out
          unfold CheckIs at hh
          rcases hh with h | h | ⟨_, _, i, _, h, _⟩ | h | ⟨_, _, _, _, i, _, h, _⟩ | h | ⟨_, _, _, _, _, _, i, _, h, _⟩ | ⟨_, _, _, _, _, _, _, i, _, h, _⟩ | h
          · exact absurd h.2.1 (by omega)
          · exact absurd h.2.2.1 (by omega)
          · exact absurd h (by omega)
          · exact absurd h.2.2.2.2.1 (by omega)
          · exact absurd h (by omega)
          · exact absurd h.2.2.2.2.2.2.1 (by omega)
          · exact absurd h (by omega)
          · exact absurd h (by omega)
          · exact ⟨h.1, h.2.2.2.1, h.2.2.2.2.2.2.2.1⟩
        go_region_law
          (first
            | (refine step_call_go1 rfl 19 _ _ rfl _ rfl Try.f19 Try.func19 nameLent bodyLent (fun r w' => ∃ x0 x1 x2 x3, r = .agg #[x0, x1, x2, x3] ∧ LentR w' c w2.heap.size x0 x1 x2 x3 ∧ Below w2.heap.size w2 w') ?_ ?_
               · exact (lent_any c (.slice none c.nC 0) (.slice none c.nT 0) (.slice p2 c.nCh cap2) (.slice p3 c.nD cap3) w2.drew (HCW.out.keep (fun _ _ h => h))).mono (fun e w' ⟨x0, x1, x2, x3, h1, h2, h3⟩ => ⟨_, h1, x0, x1, x2, x3, rfl, h2, ⟨h3.os, h3.tape, h3.output, h3.size, h3.block⟩⟩)
               rintro r wl ⟨x0, x1, x2, x3, rfl, hl2, hbl2⟩
               have HBl : Hid (Below w2.heap.size w2 wl) := hbl2
               have HLl : Hid (LentR wl c w2.heap.size x0 x1 x2 x3) := hl2
               have hsl : w2.heap.size ≤ wl.heap.size := hbl2.size
               have q1 := (HBl.out.cell (p := ⟨bw, 1, none⟩) g2).trans b1
               obtain ⟨j0, j1, j2, j3⟩ := (HROWH.out.below HBl.out (by omega)).at4
               clear hl2 hbl2)
            | (refine step_call_go1 rfl 26 _ _ rfl _ rfl Try.f26 Try.func26 nameNew bodyNew (fun r w' => ∃ kb, r = .pointer (some ⟨kb, 0, none⟩) ∧ Below wl.heap.size wl w') ?_ ?_
               · exact (refNew_any c x0 x1 x2 x3 w2.heap.size wl HLl.out (fun i hi => (NC.out.2.2 i hi).2.1) NC.out.1.2 NC.out.2.1 NC.out.1.1 ZCH.out ZIM.out).mono (fun e w' ⟨kb, h1, h2⟩ => ⟨_, h1, kb, rfl, h2⟩)
               rintro r wk ⟨kb2, rfl, hbk⟩
               have HBK : Hid (Below w2.heap.size w2 wk) := HBl.out.trans (hbk.mono hsl)
               have hsk : w2.heap.size ≤ wk.heap.size := HBK.out.size
               clear q1 j0 j1 j2 j3
               have q1 := (HBK.out.cell (p := ⟨bw, 1, none⟩) g2).trans b1
               have q1a : (wk.alloc (.cells #[.pointer (some ⟨kb2, 0, none⟩)] 99)).cell? ⟨bw, 1, none⟩ = some rs := ((HBK.out.alloc hsk _).cell (p := ⟨bw, 1, none⟩) g2).trans b1
               obtain ⟨j0, j1, j2, j3⟩ := (HROWH.out.below HBK.out (by omega)).at4
               clear hbk)
            | (refine step_append_info rfl _ _ 25 rfl (bw + 1) 99 _ 1 8 Try.underlying25 info_r rfl (by omega) rs m ys rfl (own_below HRS2.out (HBK.out.alloc (by omega) _)) wk.heap.size [.pointer (some ⟨kb2, 0, none⟩)] 99 rfl rfl (by exact alloc_at rfl) (by simp [Value.oneCell']) (by simp only [maxLen]; omega) (by omega) (by simp; omega) ?_
               intro g3 cap3' w3 hown3 hgrow3 hat3 hlt3
               have OLD3 : Hid (∀ j, j < w2.heap.size → rs.ownBlock ≠ some j → w3.heap[j]? = w2.heap[j]?) := (fun j hj hne => (hgrow3.block j (by simp; omega) (fun e => hne e.symm)).trans ((heap_alloc_old _ _ (by omega)).trans (HBK.out.block j hj)))
               have HR3 : Hid (RowF w3 bw 5 32 (cells5 (.slice (some ⟨g, 0, none⟩) (m + 1 : Nat) cap) rs (.slice none 0 0) (.slice none 0 0) (.slice none 0 0))) := HR2.out.of_heap (OLD3.out bw (by omega) (fun e => by have := hrsown bw e; omega))
               clear q1 j0 j1 j2 j3
               have q1 : w3.cell? ⟨bw, 1, none⟩ = some rs := HR3.out.cell (by omega)
               have q1f := HR3.out.frozen 1
               have hO3 : Hid (w3.ownsRow (bw + 1) 99 1 (.slice (some ⟨g3, 0, none⟩) (m + 1 : Nat) cap3') (m + 1) (ys ++ [.pointer (some ⟨kb2, 0, none⟩)])) := hown3
               have hA3 : Hid (rs.ownBlock = some g3 ∨ w2.heap.size ≤ g3) := by
                 rcases hat3 with h | h
                 · exact Or.inl h
                 · exact Or.inr (by rw [h]; simp; omega)
               have hG3 : Hid (But (fun j => rs.ownBlock = some j) w2 w3) := ⟨hgrow3.os.trans HBK.out.os, hgrow3.tape.trans HBK.out.tape, hgrow3.output.trans HBK.out.output, Nat.le_trans (Nat.le_trans hsk (by simp)) hgrow3.size, fun j hj hne => OLD3.out j hj hne⟩
               clear hown3 hgrow3 hat3))
        all_goals go_wp2_with fail
        all_goals go_ret
        all_goals exact ⟨rfl, made_end HB2w.out hG3.out HR2.out HK2.out hO3.out hA3.out HNE2.out ⟨HHG.out.1, H2S.out.2.2⟩ (fun j hj => (hrsown j hj).1)⟩
    | some b =>
      have HN1 : Hid (c.tableN = false) := by
        show _ = _
        cases h : c.tableN
        · rfl
        · exact absurd (n1.2 h) (by simp)
      clear n0 z0 n1 z1
      have HCI : Hid (CfgR wO (.slice none 0 0) (.slice (some ⟨wL.heap.size + 1 + 1 + 1, 0, none⟩) c.nT (c.nT + 2)) (.slice q2 c.nCh cq2) (.slice q3 c.nD cq3) (noRowN c)) := by
        have hh := in_cfg (i0 := .slice none 0 0) (i1 := .slice (some ⟨wL.heap.size + 1 + 1 + 1, 0, none⟩) c.nT (c.nT + 2)) HC.out HIO.out HROO.out HCHO.out HDVO.out HRC.out HRT.out (by simp [HN0.out]) (by simp [HN1.out])
        rw [F2.out, F3.out] at hh
        exact hh
      go_wp2_with fail
      refine (new_any (noRowN c) _ _ _ _ _ (HCI.out.below ((Below.refl _ _).alloc (Nat.le_refl _) _)) HW.out).mono ?_
      rintro e wN ⟨kv, x, y, rfl, hchk, hbelN, hkv⟩
      have HCK : Hid (CheckIs c x y) := hchk
      have HBN : Hid (Below wO.heap.size wO wN) := below1 hbelN
      have HKV : Hid ((x ≠ 0 ∧ kv = .pointer none) ∨ (x = 0 ∧ ∃ b, kv = .pointer (some ⟨b, 0, none⟩))) := hkv
      have hsN : wO.heap.size ≤ wN.heap.size := HBN.out.size
      have s0 := (HBN.out.cell (p := ⟨w.heap.size, 0, none⟩) hHO).trans t0
      have s1 := (HBN.out.cell (p := ⟨w.heap.size, 1, none⟩) hHO).trans t1
      have s2 := (HBN.out.cell (p := ⟨w.heap.size, 2, none⟩) hHO).trans t2
      have s3 := (HBN.out.cell (p := ⟨w.heap.size, 3, none⟩) hHO).trans t3
      have HMN : Hid (RowF wN wL.heap.size 4 39 _) := HMI.out.below HBN.out hszO'
      have HBwN : Hid (Below w.heap.size w wN) := ((box_below HBL.out).trans (HBO.out.mono (by omega))).trans (HBN.out.mono (by omega))
      clear hchk hbelN hkv t0 t1 t2 t3 m0 m1 m2 m3
      go_wp2_with fail
      refine (refCheck_any c _ _ _ _ _ (HC.out.below HBwN.out)).mono ?_
      rintro e wC ⟨x', y', rfl, hchk', hbelC⟩
      obtain ⟨rfl, rfl⟩ := HCK.out.uniq hchk'
      have HBC : Hid (Below wN.heap.size wN wC) := hbelC
      have hsC : wN.heap.size ≤ wC.heap.size := HBC.out.size
      have r0 := (HBC.out.cell (p := ⟨w.heap.size, 0, none⟩) (by show w.heap.size < _; omega)).trans s0
      have r1 := (HBC.out.cell (p := ⟨w.heap.size, 1, none⟩) (by show w.heap.size < _; omega)).trans s1
      have r2 := (HBC.out.cell (p := ⟨w.heap.size, 2, none⟩) (by show w.heap.size < _; omega)).trans s2
      have r3 := (HBC.out.cell (p := ⟨w.heap.size, 3, none⟩) (by show w.heap.size < _; omega)).trans s3
      have HMC : Hid (RowF wC wL.heap.size 4 39 _) := HMN.out.below HBC.out (by omega)
      have HBOC : Hid (Below wO.heap.size wO wC) := HBN.out.trans (HBC.out.mono (by omega))
      have HBwC : Hid (Below w.heap.size w wC) := HBwN.out.trans (HBC.out.mono (by omega))
      clear hchk' hbelC s0 s1 s2 s3 HMN
      go_wp2_with fail
      refine (outside_any c _ _ _ _ (wL.heap.size + 1 + 1) (wL.heap.size + 1 + 1 + 1) cb rb w _ HC.out HBwC.out (by omega) (by omega) (by omega) (HRC.out.below HBOC.out (by have := HZO.out; omega)) (HRT.out.below HBOC.out (by have := HZO.out; omega))).mono ?_
      rintro e wS ⟨rfl, hb2⟩
      have HB2 : Hid (But2 wC wS (wL.heap.size + 1 + 1) (wL.heap.size + 1 + 1 + 1)) := hb2
      have hsS : wC.heap.size ≤ wS.heap.size := HB2.out.size
      have HBLS : Hid (Below wL.heap.size wL wS) := HB2.out.below (HBO.out.trans (HBOC.out.mono (by omega))) (by omega) (by omega)
      have HMS : Hid (RowF wS wL.heap.size 4 39 (cells4 (.slice q0 c.nC cq0) (.slice q1 c.nT cq1) (.slice q2 c.nCh cq2) (.slice q3 c.nD cq3))) := HMC.out.of_heap (HB2.out.block _ (by omega) (by omega) (by omega))
      have HBBS : Hid (Below (w.alloc (.cells #[.slice none c.nC 0, .slice (some b) c.nT cap1, .slice p2 c.nCh cap2, .slice p3 c.nD cap3] 39)).heap.size (w.alloc (.cells #[.slice none c.nC 0, .slice (some b) c.nT cap1, .slice p2 c.nCh cap2, .slice p3 c.nD cap3] 39)) wS) := by
        show Below _ _ _
        have hh : Below (w.heap.size + 1) _ wS := HBL.out.trans (HBLS.out.mono (by omega))
        simpa using hh
      obtain ⟨y0, y1, y2, y3⟩ := box4 (HBL.out.trans (HBLS.out.mono (by omega)))
      obtain ⟨m0, m1, m2, m3⟩ := HMS.out.at4
      have hHS : w.heap.size < wS.heap.size := by omega
      have hLS : wL.heap.size < wS.heap.size := by omega
      clear hb2 r0 r1 r2 r3 HMC
      go_wp2_with fail
      refine (whole_any c _ _ _ _ _ _ _ _ _ _ (HC.out.below (HA.out _)) HBBS.out (HL0.out.below HBLS.out)).mono ?_
      rintro e wW ⟨rfl, hbw⟩
      have HBW : Hid (Below (w.heap.size + 1) (w.alloc _) wW) := hbw.mono (by simp)
      clear hbw y0 y1 y2 y3 m0 m1 m2 m3
      rcases HKV.out with ⟨hx0, rfl⟩ | ⟨hx0, kb, rfl⟩
      · have hx1 : (x != 0) = true := by simpa using hx0
        clear hx0
        go_wp2_with (go_at_call 25; refine (num_any x _).mono ?_; rintro e w' ⟨rfl, rfl⟩)
        go_ret
        exact ⟨rfl, (box_below HBW.out).mono (by omega), m, ks, rs, by omega, HI.out.below (box_below HBW.out)⟩
      · have hx1 : (x != 0) = false := by simpa using hx0
        have HX0 : Hid (x = 0) := hx0
        clear hx0
        have HIW : Hid (WInv wW bw m ks rs) := HI.out.below (box_below HBW.out)
        obtain ⟨xs, hks⟩ := HIW.out.k
        have HKS : Hid (wW.ownsRow (bw + 1) 51 1 ks m xs) := hks
        have u0 : wW.cell? ⟨bw, 0, none⟩ = some ks := HIW.out.row.cell (by omega)
        have hbW : bw < wW.heap.size := block_lt_of_cell u0
        clear hks
        go_wp2_with (first | (go_at_call 25; refine (num_any x _).mono ?_; rintro e wW ⟨rfl, rfl⟩) | (at_builtin; (refine wpList_append_info _ rfl _ _ 24 rfl (bw + 1) 51 _ 1 8 Try.underlying24 info_k rfl (by omega) ks m xs rfl (HKS.out.alloc _) wW.heap.size [.pointer (some ⟨kb, 0, none⟩)] 51 rfl rfl (by exact alloc_at rfl) (by simp [Value.oneCell']) (by simp only [maxLen]; omega) (by omega) (by simp; omega) ?_)))
        intro g cap w1 hown1 hgrow1 hat hlt1
        have hksown : ∀ j, ks.ownBlock = some j → bw + 1 ≤ j ∧ j < w.heap.size := fun j hj => by
          obtain ⟨xs', hx'⟩ := HI.out.k
          exact hx'.lt j hj
        have hrsown : ∀ j, rs.ownBlock = some j → bw + 1 ≤ j ∧ j < w.heap.size := fun j hj => by
          obtain ⟨xs', hx'⟩ := HI.out.r
          exact hx'.lt j hj
        have hsW : w.heap.size + 1 ≤ wW.heap.size := by have := HBW.out.size; simpa using this
        have hs1 : wW.heap.size + 1 ≤ w1.heap.size := by have := hgrow1.size; simpa using this
        have OLD1 : Hid (∀ j, j < wW.heap.size → ks.ownBlock ≠ some j → w1.heap[j]? = wW.heap[j]?) := fun j hj hne => (hgrow1.block j (by simp; omega) (fun e => hne e.symm)).trans (heap_alloc_old _ _ hj)
        have HR1 : Hid (RowF w1 bw 5 32 (cells5 ks rs (.slice none 0 0) (.slice none 0 0) (.slice none 0 0))) := HIW.out.row.of_heap (OLD1.out bw hbW (fun e => by have := hksown bw e; omega))
        have HR2 : Hid (RowF (w1.setCell ⟨bw, 0, none⟩ (.slice (some ⟨g, 0, none⟩) (m + 1 : Nat) cap)) bw 5 32 (cells5 (.slice (some ⟨g, 0, none⟩) (m + 1 : Nat) cap) rs (.slice none 0 0) (.slice none 0 0) (.slice none 0 0))) := (HR1.out.set 0 _).congr (fun j hj => by
          have : j = 0 ∨ j = 1 ∨ j = 2 ∨ j = 3 ∨ j = 4 := by omega
          rcases this with rfl | rfl | rfl | rfl | rfl <;> rfl)
        have d0 : w1.cell? ⟨bw, 0, none⟩ = some ks := HR1.out.cell (by omega)
        have d0f := HR1.out.frozen 0
        have HK2 : Hid ((w1.setCell ⟨bw, 0, none⟩ (.slice (some ⟨g, 0, none⟩) (m + 1 : Nat) cap)).ownsRow (bw + 1) 51 1 (.slice (some ⟨g, 0, none⟩) (m + 1 : Nat) cap) (m + 1) (xs ++ [.pointer (some ⟨kb, 0, none⟩)])) := ownsRow_setCell_below hown1 (by simp) _
        have OLD2 : Hid (∀ j, j < wW.heap.size → j ≠ bw → ks.ownBlock ≠ some j → (w1.setCell ⟨bw, 0, none⟩ (.slice (some ⟨g, 0, none⟩) (m + 1 : Nat) cap)).heap[j]? = wW.heap[j]?) := fun j hj h1 h2 => (heap_setCell_other _ _ _ _ (by simpa using h1)).trans (OLD1.out j hj h2)
        have hs2 : (w1.setCell ⟨bw, 0, none⟩ (.slice (some ⟨g, 0, none⟩) (m + 1 : Nat) cap)).heap.size = w1.heap.size := size_setCell _ _ _
        have HBU : Hid (But (RZ bw ks rs) w (w1.setCell ⟨bw, 0, none⟩ (.slice (some ⟨g, 0, none⟩) (m + 1 : Nat) cap))) := ⟨(hgrow1.os.trans (box_below HBW.out).os), (hgrow1.tape.trans (box_below HBW.out).tape), (hgrow1.output.trans (box_below HBW.out).output), by omega, fun j hj hn => (OLD2.out j (by omega) (fun e => hn (.inl e)) (fun e => hn (.inr (.inl e)))).trans ((box_below HBW.out).block j hj)⟩
        have HCW : Hid (CfgR (w1.setCell ⟨bw, 0, none⟩ (.slice (some ⟨g, 0, none⟩) (m + 1 : Nat) cap)) (.slice none c.nC 0) (.slice (some b) c.nT cap1) (.slice p2 c.nCh cap2) (.slice p3 c.nD cap3) c) := HST.out _ HBU.out
        obtain ⟨ys, hrs⟩ := HIW.out.r
        have HRS2 : Hid ((w1.setCell ⟨bw, 0, none⟩ (.slice (some ⟨g, 0, none⟩) (m + 1 : Nat) cap)).ownsRow (bw + 1) 99 1 rs m ys) := by
          rcases hrs.2 with hn | ⟨g', cap', cur, hv, hbg, hg, r⟩
          · exact ⟨hrs.1, .inl hn⟩
          · have hrg : rs.ownBlock = some g' := by rw [hv]; rfl
            exact ⟨hrs.1, .inr ⟨g', cap', cur, hv, hbg, by rw [OLD2.out g' (by have := hrsown g' hrg; omega) (by omega) (fun e => HI.out.ne g' e hrg)]; exact hg, r⟩⟩
        have HNE2 : Hid (rs.ownBlock ≠ some g) := by
          rcases hat with h | h
          · exact HI.out.ne g h
          · intro e
            have := hrsown g e
            omega
        have HROWH : Hid (RowF (w1.setCell ⟨bw, 0, none⟩ (.slice (some ⟨g, 0, none⟩) (m + 1 : Nat) cap)) w.heap.size 4 39 (cells4 (.slice none c.nC 0) (.slice (some b) c.nT cap1) (.slice p2 c.nCh cap2) (.slice p3 c.nD cap3))) := ((row4 w _ _ _ _ _).below HBW.out (by omega)).of_heap (OLD2.out _ (by omega) (by omega) (fun e => by have := hksown _ e; omega))
        have HHG : Hid (bw + 1 ≤ g ∧ g < w1.heap.size) := by
          rcases hat with h | h
          · have := hksown g h; exact ⟨this.1, hlt1⟩
          · exact ⟨by omega, hlt1⟩
        clear hown1 hgrow1 hat hlt1 hrs u0
        go_wp2_with fail
        obtain ⟨k0, k1, k2, k3⟩ := HROWH.out.at4
        have b1 : (w1.setCell ⟨bw, 0, none⟩ (.slice (some ⟨g, 0, none⟩) (m + 1 : Nat) cap)).cell? ⟨bw, 1, none⟩ = some rs := HR2.out.cell (by omega)
        have b1f := HR2.out.frozen 1
        have CK0 : Hid (CheckIs c 0 0) := HCK.out.place HX0.out
        have H2S : Hid (w.heap.size + 1 ≤ (w1.setCell ⟨bw, 0, none⟩ (.slice (some ⟨g, 0, none⟩) (m + 1 : Nat) cap)).heap.size ∧ bw < (w1.setCell ⟨bw, 0, none⟩ (.slice (some ⟨g, 0, none⟩) (m + 1 : Nat) cap)).heap.size ∧ g < (w1.setCell ⟨bw, 0, none⟩ (.slice (some ⟨g, 0, none⟩) (m + 1 : Nat) cap)).heap.size) := ⟨by omega, by omega, by rw [hs2]; exact HHG.out.2⟩
        have HB2w : Hid (Below bw w (w1.setCell ⟨bw, 0, none⟩ (.slice (some ⟨g, 0, none⟩) (m + 1 : Nat) cap))) := ⟨HBU.out.os, HBU.out.tape, HBU.out.output, HBU.out.size, fun j hj => HBU.out.block j (by omega) (fun h => by
          rcases h with h | h | h
          · omega
          · have := hksown j h; omega
          · have := hrsown j h; omega)⟩
        clear hs2 OLD1 OLD2 HR1 d0 d0f hsW hs1
        generalize (w1.setCell ⟨bw, 0, none⟩ (.slice (some ⟨g, 0, none⟩) (m + 1 : Nat) cap)) = w2 at *
        have g1 := H2S.out.1
        have g2 := H2S.out.2.1
        have NC : Hid (NCok c ∧ c.nCh ≤ 8 ∧ AllOk (CellOk c) c.nC) := by
          have hh := CK0.out
          unfold CheckIs at hh
          rcases hh with h | h | ⟨_, _, i, _, h, _⟩ | h | ⟨_, _, _, _, i, _, h, _⟩ | h | ⟨_, _, _, _, _, _, i, _, h, _⟩ | ⟨_, _, _, _, _, _, _, i, _, h, _⟩ | h
          · exact absurd h.2.1 (by omega)
          · exact absurd h.2.2.1 (by omega)
          · exact absurd h (by omega)
          · exact absurd h.2.2.2.2.1 (by omega)
          · exact absurd h (by omega)
          · exact absurd h.2.2.2.2.2.2.1 (by omega)
          · exact absurd h (by omega)
          · exact absurd h (by omega)
          · exact ⟨h.1, h.2.2.2.1, h.2.2.2.2.2.2.2.1⟩
        go_region_law
          (first
            | (refine step_call_go1 rfl 19 _ _ rfl _ rfl Try.f19 Try.func19 nameLent bodyLent (fun r w' => ∃ x0 x1 x2 x3, r = .agg #[x0, x1, x2, x3] ∧ LentR w' c w2.heap.size x0 x1 x2 x3 ∧ Below w2.heap.size w2 w') ?_ ?_
               · exact (lent_any c (.slice none c.nC 0) (.slice (some b) c.nT cap1) (.slice p2 c.nCh cap2) (.slice p3 c.nD cap3) w2.drew (HCW.out.keep (fun _ _ h => h))).mono (fun e w' ⟨x0, x1, x2, x3, h1, h2, h3⟩ => ⟨_, h1, x0, x1, x2, x3, rfl, h2, ⟨h3.os, h3.tape, h3.output, h3.size, h3.block⟩⟩)
               rintro r wl ⟨x0, x1, x2, x3, rfl, hl2, hbl2⟩
               have HBl : Hid (Below w2.heap.size w2 wl) := hbl2
               have HLl : Hid (LentR wl c w2.heap.size x0 x1 x2 x3) := hl2
               have hsl : w2.heap.size ≤ wl.heap.size := hbl2.size
               have q1 := (HBl.out.cell (p := ⟨bw, 1, none⟩) g2).trans b1
               obtain ⟨j0, j1, j2, j3⟩ := (HROWH.out.below HBl.out (by omega)).at4
               clear hl2 hbl2)
            | (refine step_call_go1 rfl 26 _ _ rfl _ rfl Try.f26 Try.func26 nameNew bodyNew (fun r w' => ∃ kb, r = .pointer (some ⟨kb, 0, none⟩) ∧ Below wl.heap.size wl w') ?_ ?_
               · exact (refNew_any c x0 x1 x2 x3 w2.heap.size wl HLl.out (fun i hi => (NC.out.2.2 i hi).2.1) NC.out.1.2 NC.out.2.1 NC.out.1.1 ZCH.out ZIM.out).mono (fun e w' ⟨kb, h1, h2⟩ => ⟨_, h1, kb, rfl, h2⟩)
               rintro r wk ⟨kb2, rfl, hbk⟩
               have HBK : Hid (Below w2.heap.size w2 wk) := HBl.out.trans (hbk.mono hsl)
               have hsk : w2.heap.size ≤ wk.heap.size := HBK.out.size
               clear q1 j0 j1 j2 j3
               have q1 := (HBK.out.cell (p := ⟨bw, 1, none⟩) g2).trans b1
               have q1a : (wk.alloc (.cells #[.pointer (some ⟨kb2, 0, none⟩)] 99)).cell? ⟨bw, 1, none⟩ = some rs := ((HBK.out.alloc hsk _).cell (p := ⟨bw, 1, none⟩) g2).trans b1
               obtain ⟨j0, j1, j2, j3⟩ := (HROWH.out.below HBK.out (by omega)).at4
               clear hbk)
            | (refine step_append_info rfl _ _ 25 rfl (bw + 1) 99 _ 1 8 Try.underlying25 info_r rfl (by omega) rs m ys rfl (own_below HRS2.out (HBK.out.alloc (by omega) _)) wk.heap.size [.pointer (some ⟨kb2, 0, none⟩)] 99 rfl rfl (by exact alloc_at rfl) (by simp [Value.oneCell']) (by simp only [maxLen]; omega) (by omega) (by simp; omega) ?_
               intro g3 cap3' w3 hown3 hgrow3 hat3 hlt3
               have OLD3 : Hid (∀ j, j < w2.heap.size → rs.ownBlock ≠ some j → w3.heap[j]? = w2.heap[j]?) := (fun j hj hne => (hgrow3.block j (by simp; omega) (fun e => hne e.symm)).trans ((heap_alloc_old _ _ (by omega)).trans (HBK.out.block j hj)))
               have HR3 : Hid (RowF w3 bw 5 32 (cells5 (.slice (some ⟨g, 0, none⟩) (m + 1 : Nat) cap) rs (.slice none 0 0) (.slice none 0 0) (.slice none 0 0))) := HR2.out.of_heap (OLD3.out bw (by omega) (fun e => by have := hrsown bw e; omega))
               clear q1 j0 j1 j2 j3
               have q1 : w3.cell? ⟨bw, 1, none⟩ = some rs := HR3.out.cell (by omega)
               have q1f := HR3.out.frozen 1
               have hO3 : Hid (w3.ownsRow (bw + 1) 99 1 (.slice (some ⟨g3, 0, none⟩) (m + 1 : Nat) cap3') (m + 1) (ys ++ [.pointer (some ⟨kb2, 0, none⟩)])) := hown3
               have hA3 : Hid (rs.ownBlock = some g3 ∨ w2.heap.size ≤ g3) := by
                 rcases hat3 with h | h
                 · exact Or.inl h
                 · exact Or.inr (by rw [h]; simp; omega)
               have hG3 : Hid (But (fun j => rs.ownBlock = some j) w2 w3) := ⟨hgrow3.os.trans HBK.out.os, hgrow3.tape.trans HBK.out.tape, hgrow3.output.trans HBK.out.output, Nat.le_trans (Nat.le_trans hsk (by simp)) hgrow3.size, fun j hj hne => OLD3.out j hj hne⟩
               clear hown3 hgrow3 hat3))
        all_goals go_wp2_with fail
        all_goals go_ret
        all_goals exact ⟨rfl, made_end HB2w.out hG3.out HR2.out HK2.out hO3.out hA3.out HNE2.out ⟨HHG.out.1, H2S.out.2.2⟩ (fun j hj => (hrsown j hj).1)⟩
  | some a =>
    have HN0 : Hid (c.cellsN = false) := by
      show _ = _
      cases h : c.cellsN
      · rfl
      · exact absurd (n0.2 h) (by simp)
    cases p1 with
    | none =>
      obtain ⟨hz1, rfl⟩ := z1 rfl
      have HN1 : Hid (c.tableN = true) := n1.1 rfl
      clear hz1
      clear n0 z0 n1 z1
      have HCI : Hid (CfgR wO (.slice (some ⟨wL.heap.size + 1 + 1, 0, none⟩) c.nC (c.nC + 2)) (.slice none 0 0) (.slice q2 c.nCh cq2) (.slice q3 c.nD cq3) (noRowN c)) := by
        have hh := in_cfg (i0 := .slice (some ⟨wL.heap.size + 1 + 1, 0, none⟩) c.nC (c.nC + 2)) (i1 := .slice none 0 0) HC.out HIO.out HROO.out HCHO.out HDVO.out HRC.out HRT.out (by simp [HN0.out]) (by simp [HN1.out])
        rw [F2.out, F3.out] at hh
        exact hh
      go_wp2_with fail
      refine (new_any (noRowN c) _ _ _ _ _ (HCI.out.below ((Below.refl _ _).alloc (Nat.le_refl _) _)) HW.out).mono ?_
      rintro e wN ⟨kv, x, y, rfl, hchk, hbelN, hkv⟩
      have HCK : Hid (CheckIs c x y) := hchk
      have HBN : Hid (Below wO.heap.size wO wN) := below1 hbelN
      have HKV : Hid ((x ≠ 0 ∧ kv = .pointer none) ∨ (x = 0 ∧ ∃ b, kv = .pointer (some ⟨b, 0, none⟩))) := hkv
      have hsN : wO.heap.size ≤ wN.heap.size := HBN.out.size
      have s0 := (HBN.out.cell (p := ⟨w.heap.size, 0, none⟩) hHO).trans t0
      have s1 := (HBN.out.cell (p := ⟨w.heap.size, 1, none⟩) hHO).trans t1
      have s2 := (HBN.out.cell (p := ⟨w.heap.size, 2, none⟩) hHO).trans t2
      have s3 := (HBN.out.cell (p := ⟨w.heap.size, 3, none⟩) hHO).trans t3
      have HMN : Hid (RowF wN wL.heap.size 4 39 _) := HMI.out.below HBN.out hszO'
      have HBwN : Hid (Below w.heap.size w wN) := ((box_below HBL.out).trans (HBO.out.mono (by omega))).trans (HBN.out.mono (by omega))
      clear hchk hbelN hkv t0 t1 t2 t3 m0 m1 m2 m3
      go_wp2_with fail
      refine (refCheck_any c _ _ _ _ _ (HC.out.below HBwN.out)).mono ?_
      rintro e wC ⟨x', y', rfl, hchk', hbelC⟩
      obtain ⟨rfl, rfl⟩ := HCK.out.uniq hchk'
      have HBC : Hid (Below wN.heap.size wN wC) := hbelC
      have hsC : wN.heap.size ≤ wC.heap.size := HBC.out.size
      have r0 := (HBC.out.cell (p := ⟨w.heap.size, 0, none⟩) (by show w.heap.size < _; omega)).trans s0
      have r1 := (HBC.out.cell (p := ⟨w.heap.size, 1, none⟩) (by show w.heap.size < _; omega)).trans s1
      have r2 := (HBC.out.cell (p := ⟨w.heap.size, 2, none⟩) (by show w.heap.size < _; omega)).trans s2
      have r3 := (HBC.out.cell (p := ⟨w.heap.size, 3, none⟩) (by show w.heap.size < _; omega)).trans s3
      have HMC : Hid (RowF wC wL.heap.size 4 39 _) := HMN.out.below HBC.out (by omega)
      have HBOC : Hid (Below wO.heap.size wO wC) := HBN.out.trans (HBC.out.mono (by omega))
      have HBwC : Hid (Below w.heap.size w wC) := HBwN.out.trans (HBC.out.mono (by omega))
      clear hchk' hbelC s0 s1 s2 s3 HMN
      go_wp2_with fail
      refine (outside_any c _ _ _ _ (wL.heap.size + 1 + 1) (wL.heap.size + 1 + 1 + 1) cb rb w _ HC.out HBwC.out (by omega) (by omega) (by omega) (HRC.out.below HBOC.out (by have := HZO.out; omega)) (HRT.out.below HBOC.out (by have := HZO.out; omega))).mono ?_
      rintro e wS ⟨rfl, hb2⟩
      have HB2 : Hid (But2 wC wS (wL.heap.size + 1 + 1) (wL.heap.size + 1 + 1 + 1)) := hb2
      have hsS : wC.heap.size ≤ wS.heap.size := HB2.out.size
      have HBLS : Hid (Below wL.heap.size wL wS) := HB2.out.below (HBO.out.trans (HBOC.out.mono (by omega))) (by omega) (by omega)
      have HMS : Hid (RowF wS wL.heap.size 4 39 (cells4 (.slice q0 c.nC cq0) (.slice q1 c.nT cq1) (.slice q2 c.nCh cq2) (.slice q3 c.nD cq3))) := HMC.out.of_heap (HB2.out.block _ (by omega) (by omega) (by omega))
      have HBBS : Hid (Below (w.alloc (.cells #[.slice (some a) c.nC cap0, .slice none c.nT 0, .slice p2 c.nCh cap2, .slice p3 c.nD cap3] 39)).heap.size (w.alloc (.cells #[.slice (some a) c.nC cap0, .slice none c.nT 0, .slice p2 c.nCh cap2, .slice p3 c.nD cap3] 39)) wS) := by
        show Below _ _ _
        have hh : Below (w.heap.size + 1) _ wS := HBL.out.trans (HBLS.out.mono (by omega))
        simpa using hh
      obtain ⟨y0, y1, y2, y3⟩ := box4 (HBL.out.trans (HBLS.out.mono (by omega)))
      obtain ⟨m0, m1, m2, m3⟩ := HMS.out.at4
      have hHS : w.heap.size < wS.heap.size := by omega
      have hLS : wL.heap.size < wS.heap.size := by omega
      clear hb2 r0 r1 r2 r3 HMC
      go_wp2_with fail
      refine (whole_any c _ _ _ _ _ _ _ _ _ _ (HC.out.below (HA.out _)) HBBS.out (HL0.out.below HBLS.out)).mono ?_
      rintro e wW ⟨rfl, hbw⟩
      have HBW : Hid (Below (w.heap.size + 1) (w.alloc _) wW) := hbw.mono (by simp)
      clear hbw y0 y1 y2 y3 m0 m1 m2 m3
      rcases HKV.out with ⟨hx0, rfl⟩ | ⟨hx0, kb, rfl⟩
      · have hx1 : (x != 0) = true := by simpa using hx0
        clear hx0
        go_wp2_with (go_at_call 25; refine (num_any x _).mono ?_; rintro e w' ⟨rfl, rfl⟩)
        go_ret
        exact ⟨rfl, (box_below HBW.out).mono (by omega), m, ks, rs, by omega, HI.out.below (box_below HBW.out)⟩
      · have hx1 : (x != 0) = false := by simpa using hx0
        have HX0 : Hid (x = 0) := hx0
        clear hx0
        have HIW : Hid (WInv wW bw m ks rs) := HI.out.below (box_below HBW.out)
        obtain ⟨xs, hks⟩ := HIW.out.k
        have HKS : Hid (wW.ownsRow (bw + 1) 51 1 ks m xs) := hks
        have u0 : wW.cell? ⟨bw, 0, none⟩ = some ks := HIW.out.row.cell (by omega)
        have hbW : bw < wW.heap.size := block_lt_of_cell u0
        clear hks
        go_wp2_with (first | (go_at_call 25; refine (num_any x _).mono ?_; rintro e wW ⟨rfl, rfl⟩) | (at_builtin; (refine wpList_append_info _ rfl _ _ 24 rfl (bw + 1) 51 _ 1 8 Try.underlying24 info_k rfl (by omega) ks m xs rfl (HKS.out.alloc _) wW.heap.size [.pointer (some ⟨kb, 0, none⟩)] 51 rfl rfl (by exact alloc_at rfl) (by simp [Value.oneCell']) (by simp only [maxLen]; omega) (by omega) (by simp; omega) ?_)))
        intro g cap w1 hown1 hgrow1 hat hlt1
        have hksown : ∀ j, ks.ownBlock = some j → bw + 1 ≤ j ∧ j < w.heap.size := fun j hj => by
          obtain ⟨xs', hx'⟩ := HI.out.k
          exact hx'.lt j hj
        have hrsown : ∀ j, rs.ownBlock = some j → bw + 1 ≤ j ∧ j < w.heap.size := fun j hj => by
          obtain ⟨xs', hx'⟩ := HI.out.r
          exact hx'.lt j hj
        have hsW : w.heap.size + 1 ≤ wW.heap.size := by have := HBW.out.size; simpa using this
        have hs1 : wW.heap.size + 1 ≤ w1.heap.size := by have := hgrow1.size; simpa using this
        have OLD1 : Hid (∀ j, j < wW.heap.size → ks.ownBlock ≠ some j → w1.heap[j]? = wW.heap[j]?) := fun j hj hne => (hgrow1.block j (by simp; omega) (fun e => hne e.symm)).trans (heap_alloc_old _ _ hj)
        have HR1 : Hid (RowF w1 bw 5 32 (cells5 ks rs (.slice none 0 0) (.slice none 0 0) (.slice none 0 0))) := HIW.out.row.of_heap (OLD1.out bw hbW (fun e => by have := hksown bw e; omega))
        have HR2 : Hid (RowF (w1.setCell ⟨bw, 0, none⟩ (.slice (some ⟨g, 0, none⟩) (m + 1 : Nat) cap)) bw 5 32 (cells5 (.slice (some ⟨g, 0, none⟩) (m + 1 : Nat) cap) rs (.slice none 0 0) (.slice none 0 0) (.slice none 0 0))) := (HR1.out.set 0 _).congr (fun j hj => by
          have : j = 0 ∨ j = 1 ∨ j = 2 ∨ j = 3 ∨ j = 4 := by omega
          rcases this with rfl | rfl | rfl | rfl | rfl <;> rfl)
        have d0 : w1.cell? ⟨bw, 0, none⟩ = some ks := HR1.out.cell (by omega)
        have d0f := HR1.out.frozen 0
        have HK2 : Hid ((w1.setCell ⟨bw, 0, none⟩ (.slice (some ⟨g, 0, none⟩) (m + 1 : Nat) cap)).ownsRow (bw + 1) 51 1 (.slice (some ⟨g, 0, none⟩) (m + 1 : Nat) cap) (m + 1) (xs ++ [.pointer (some ⟨kb, 0, none⟩)])) := ownsRow_setCell_below hown1 (by simp) _
        have OLD2 : Hid (∀ j, j < wW.heap.size → j ≠ bw → ks.ownBlock ≠ some j → (w1.setCell ⟨bw, 0, none⟩ (.slice (some ⟨g, 0, none⟩) (m + 1 : Nat) cap)).heap[j]? = wW.heap[j]?) := fun j hj h1 h2 => (heap_setCell_other _ _ _ _ (by simpa using h1)).trans (OLD1.out j hj h2)
        have hs2 : (w1.setCell ⟨bw, 0, none⟩ (.slice (some ⟨g, 0, none⟩) (m + 1 : Nat) cap)).heap.size = w1.heap.size := size_setCell _ _ _
        have HBU : Hid (But (RZ bw ks rs) w (w1.setCell ⟨bw, 0, none⟩ (.slice (some ⟨g, 0, none⟩) (m + 1 : Nat) cap))) := ⟨(hgrow1.os.trans (box_below HBW.out).os), (hgrow1.tape.trans (box_below HBW.out).tape), (hgrow1.output.trans (box_below HBW.out).output), by omega, fun j hj hn => (OLD2.out j (by omega) (fun e => hn (.inl e)) (fun e => hn (.inr (.inl e)))).trans ((box_below HBW.out).block j hj)⟩
        have HCW : Hid (CfgR (w1.setCell ⟨bw, 0, none⟩ (.slice (some ⟨g, 0, none⟩) (m + 1 : Nat) cap)) (.slice (some a) c.nC cap0) (.slice none c.nT 0) (.slice p2 c.nCh cap2) (.slice p3 c.nD cap3) c) := HST.out _ HBU.out
        obtain ⟨ys, hrs⟩ := HIW.out.r
        have HRS2 : Hid ((w1.setCell ⟨bw, 0, none⟩ (.slice (some ⟨g, 0, none⟩) (m + 1 : Nat) cap)).ownsRow (bw + 1) 99 1 rs m ys) := by
          rcases hrs.2 with hn | ⟨g', cap', cur, hv, hbg, hg, r⟩
          · exact ⟨hrs.1, .inl hn⟩
          · have hrg : rs.ownBlock = some g' := by rw [hv]; rfl
            exact ⟨hrs.1, .inr ⟨g', cap', cur, hv, hbg, by rw [OLD2.out g' (by have := hrsown g' hrg; omega) (by omega) (fun e => HI.out.ne g' e hrg)]; exact hg, r⟩⟩
        have HNE2 : Hid (rs.ownBlock ≠ some g) := by
          rcases hat with h | h
          · exact HI.out.ne g h
          · intro e
            have := hrsown g e
            omega
        have HROWH : Hid (RowF (w1.setCell ⟨bw, 0, none⟩ (.slice (some ⟨g, 0, none⟩) (m + 1 : Nat) cap)) w.heap.size 4 39 (cells4 (.slice (some a) c.nC cap0) (.slice none c.nT 0) (.slice p2 c.nCh cap2) (.slice p3 c.nD cap3))) := ((row4 w _ _ _ _ _).below HBW.out (by omega)).of_heap (OLD2.out _ (by omega) (by omega) (fun e => by have := hksown _ e; omega))
        have HHG : Hid (bw + 1 ≤ g ∧ g < w1.heap.size) := by
          rcases hat with h | h
          · have := hksown g h; exact ⟨this.1, hlt1⟩
          · exact ⟨by omega, hlt1⟩
        clear hown1 hgrow1 hat hlt1 hrs u0
        go_wp2_with fail
        obtain ⟨k0, k1, k2, k3⟩ := HROWH.out.at4
        have b1 : (w1.setCell ⟨bw, 0, none⟩ (.slice (some ⟨g, 0, none⟩) (m + 1 : Nat) cap)).cell? ⟨bw, 1, none⟩ = some rs := HR2.out.cell (by omega)
        have b1f := HR2.out.frozen 1
        have CK0 : Hid (CheckIs c 0 0) := HCK.out.place HX0.out
        have H2S : Hid (w.heap.size + 1 ≤ (w1.setCell ⟨bw, 0, none⟩ (.slice (some ⟨g, 0, none⟩) (m + 1 : Nat) cap)).heap.size ∧ bw < (w1.setCell ⟨bw, 0, none⟩ (.slice (some ⟨g, 0, none⟩) (m + 1 : Nat) cap)).heap.size ∧ g < (w1.setCell ⟨bw, 0, none⟩ (.slice (some ⟨g, 0, none⟩) (m + 1 : Nat) cap)).heap.size) := ⟨by omega, by omega, by rw [hs2]; exact HHG.out.2⟩
        have HB2w : Hid (Below bw w (w1.setCell ⟨bw, 0, none⟩ (.slice (some ⟨g, 0, none⟩) (m + 1 : Nat) cap))) := ⟨HBU.out.os, HBU.out.tape, HBU.out.output, HBU.out.size, fun j hj => HBU.out.block j (by omega) (fun h => by
          rcases h with h | h | h
          · omega
          · have := hksown j h; omega
          · have := hrsown j h; omega)⟩
        clear hs2 OLD1 OLD2 HR1 d0 d0f hsW hs1
        generalize (w1.setCell ⟨bw, 0, none⟩ (.slice (some ⟨g, 0, none⟩) (m + 1 : Nat) cap)) = w2 at *
        have g1 := H2S.out.1
        have g2 := H2S.out.2.1
        have NC : Hid (NCok c ∧ c.nCh ≤ 8 ∧ AllOk (CellOk c) c.nC) := by
          have hh := CK0.out
          unfold CheckIs at hh
          rcases hh with h | h | ⟨_, _, i, _, h, _⟩ | h | ⟨_, _, _, _, i, _, h, _⟩ | h | ⟨_, _, _, _, _, _, i, _, h, _⟩ | ⟨_, _, _, _, _, _, _, i, _, h, _⟩ | h
          · exact absurd h.2.1 (by omega)
          · exact absurd h.2.2.1 (by omega)
          · exact absurd h (by omega)
          · exact absurd h.2.2.2.2.1 (by omega)
          · exact absurd h (by omega)
          · exact absurd h.2.2.2.2.2.2.1 (by omega)
          · exact absurd h (by omega)
          · exact absurd h (by omega)
          · exact ⟨h.1, h.2.2.2.1, h.2.2.2.2.2.2.2.1⟩
        go_region_law
          (first
            | (refine step_call_go1 rfl 19 _ _ rfl _ rfl Try.f19 Try.func19 nameLent bodyLent (fun r w' => ∃ x0 x1 x2 x3, r = .agg #[x0, x1, x2, x3] ∧ LentR w' c w2.heap.size x0 x1 x2 x3 ∧ Below w2.heap.size w2 w') ?_ ?_
               · exact (lent_any c (.slice (some a) c.nC cap0) (.slice none c.nT 0) (.slice p2 c.nCh cap2) (.slice p3 c.nD cap3) w2.drew (HCW.out.keep (fun _ _ h => h))).mono (fun e w' ⟨x0, x1, x2, x3, h1, h2, h3⟩ => ⟨_, h1, x0, x1, x2, x3, rfl, h2, ⟨h3.os, h3.tape, h3.output, h3.size, h3.block⟩⟩)
               rintro r wl ⟨x0, x1, x2, x3, rfl, hl2, hbl2⟩
               have HBl : Hid (Below w2.heap.size w2 wl) := hbl2
               have HLl : Hid (LentR wl c w2.heap.size x0 x1 x2 x3) := hl2
               have hsl : w2.heap.size ≤ wl.heap.size := hbl2.size
               have q1 := (HBl.out.cell (p := ⟨bw, 1, none⟩) g2).trans b1
               obtain ⟨j0, j1, j2, j3⟩ := (HROWH.out.below HBl.out (by omega)).at4
               clear hl2 hbl2)
            | (refine step_call_go1 rfl 26 _ _ rfl _ rfl Try.f26 Try.func26 nameNew bodyNew (fun r w' => ∃ kb, r = .pointer (some ⟨kb, 0, none⟩) ∧ Below wl.heap.size wl w') ?_ ?_
               · exact (refNew_any c x0 x1 x2 x3 w2.heap.size wl HLl.out (fun i hi => (NC.out.2.2 i hi).2.1) NC.out.1.2 NC.out.2.1 NC.out.1.1 ZCH.out ZIM.out).mono (fun e w' ⟨kb, h1, h2⟩ => ⟨_, h1, kb, rfl, h2⟩)
               rintro r wk ⟨kb2, rfl, hbk⟩
               have HBK : Hid (Below w2.heap.size w2 wk) := HBl.out.trans (hbk.mono hsl)
               have hsk : w2.heap.size ≤ wk.heap.size := HBK.out.size
               clear q1 j0 j1 j2 j3
               have q1 := (HBK.out.cell (p := ⟨bw, 1, none⟩) g2).trans b1
               have q1a : (wk.alloc (.cells #[.pointer (some ⟨kb2, 0, none⟩)] 99)).cell? ⟨bw, 1, none⟩ = some rs := ((HBK.out.alloc hsk _).cell (p := ⟨bw, 1, none⟩) g2).trans b1
               obtain ⟨j0, j1, j2, j3⟩ := (HROWH.out.below HBK.out (by omega)).at4
               clear hbk)
            | (refine step_append_info rfl _ _ 25 rfl (bw + 1) 99 _ 1 8 Try.underlying25 info_r rfl (by omega) rs m ys rfl (own_below HRS2.out (HBK.out.alloc (by omega) _)) wk.heap.size [.pointer (some ⟨kb2, 0, none⟩)] 99 rfl rfl (by exact alloc_at rfl) (by simp [Value.oneCell']) (by simp only [maxLen]; omega) (by omega) (by simp; omega) ?_
               intro g3 cap3' w3 hown3 hgrow3 hat3 hlt3
               have OLD3 : Hid (∀ j, j < w2.heap.size → rs.ownBlock ≠ some j → w3.heap[j]? = w2.heap[j]?) := (fun j hj hne => (hgrow3.block j (by simp; omega) (fun e => hne e.symm)).trans ((heap_alloc_old _ _ (by omega)).trans (HBK.out.block j hj)))
               have HR3 : Hid (RowF w3 bw 5 32 (cells5 (.slice (some ⟨g, 0, none⟩) (m + 1 : Nat) cap) rs (.slice none 0 0) (.slice none 0 0) (.slice none 0 0))) := HR2.out.of_heap (OLD3.out bw (by omega) (fun e => by have := hrsown bw e; omega))
               clear q1 j0 j1 j2 j3
               have q1 : w3.cell? ⟨bw, 1, none⟩ = some rs := HR3.out.cell (by omega)
               have q1f := HR3.out.frozen 1
               have hO3 : Hid (w3.ownsRow (bw + 1) 99 1 (.slice (some ⟨g3, 0, none⟩) (m + 1 : Nat) cap3') (m + 1) (ys ++ [.pointer (some ⟨kb2, 0, none⟩)])) := hown3
               have hA3 : Hid (rs.ownBlock = some g3 ∨ w2.heap.size ≤ g3) := by
                 rcases hat3 with h | h
                 · exact Or.inl h
                 · exact Or.inr (by rw [h]; simp; omega)
               have hG3 : Hid (But (fun j => rs.ownBlock = some j) w2 w3) := ⟨hgrow3.os.trans HBK.out.os, hgrow3.tape.trans HBK.out.tape, hgrow3.output.trans HBK.out.output, Nat.le_trans (Nat.le_trans hsk (by simp)) hgrow3.size, fun j hj hne => OLD3.out j hj hne⟩
               clear hown3 hgrow3 hat3))
        all_goals go_wp2_with fail
        all_goals go_ret
        all_goals exact ⟨rfl, made_end HB2w.out hG3.out HR2.out HK2.out hO3.out hA3.out HNE2.out ⟨HHG.out.1, H2S.out.2.2⟩ (fun j hj => (hrsown j hj).1)⟩
    | some b =>
      have HN1 : Hid (c.tableN = false) := by
        show _ = _
        cases h : c.tableN
        · rfl
        · exact absurd (n1.2 h) (by simp)
      clear n0 z0 n1 z1
      have HCI : Hid (CfgR wO (.slice (some ⟨wL.heap.size + 1 + 1, 0, none⟩) c.nC (c.nC + 2)) (.slice (some ⟨wL.heap.size + 1 + 1 + 1, 0, none⟩) c.nT (c.nT + 2)) (.slice q2 c.nCh cq2) (.slice q3 c.nD cq3) (noRowN c)) := by
        have hh := in_cfg (i0 := .slice (some ⟨wL.heap.size + 1 + 1, 0, none⟩) c.nC (c.nC + 2)) (i1 := .slice (some ⟨wL.heap.size + 1 + 1 + 1, 0, none⟩) c.nT (c.nT + 2)) HC.out HIO.out HROO.out HCHO.out HDVO.out HRC.out HRT.out (by simp [HN0.out]) (by simp [HN1.out])
        rw [F2.out, F3.out] at hh
        exact hh
      go_wp2_with fail
      refine (new_any (noRowN c) _ _ _ _ _ (HCI.out.below ((Below.refl _ _).alloc (Nat.le_refl _) _)) HW.out).mono ?_
      rintro e wN ⟨kv, x, y, rfl, hchk, hbelN, hkv⟩
      have HCK : Hid (CheckIs c x y) := hchk
      have HBN : Hid (Below wO.heap.size wO wN) := below1 hbelN
      have HKV : Hid ((x ≠ 0 ∧ kv = .pointer none) ∨ (x = 0 ∧ ∃ b, kv = .pointer (some ⟨b, 0, none⟩))) := hkv
      have hsN : wO.heap.size ≤ wN.heap.size := HBN.out.size
      have s0 := (HBN.out.cell (p := ⟨w.heap.size, 0, none⟩) hHO).trans t0
      have s1 := (HBN.out.cell (p := ⟨w.heap.size, 1, none⟩) hHO).trans t1
      have s2 := (HBN.out.cell (p := ⟨w.heap.size, 2, none⟩) hHO).trans t2
      have s3 := (HBN.out.cell (p := ⟨w.heap.size, 3, none⟩) hHO).trans t3
      have HMN : Hid (RowF wN wL.heap.size 4 39 _) := HMI.out.below HBN.out hszO'
      have HBwN : Hid (Below w.heap.size w wN) := ((box_below HBL.out).trans (HBO.out.mono (by omega))).trans (HBN.out.mono (by omega))
      clear hchk hbelN hkv t0 t1 t2 t3 m0 m1 m2 m3
      go_wp2_with fail
      refine (refCheck_any c _ _ _ _ _ (HC.out.below HBwN.out)).mono ?_
      rintro e wC ⟨x', y', rfl, hchk', hbelC⟩
      obtain ⟨rfl, rfl⟩ := HCK.out.uniq hchk'
      have HBC : Hid (Below wN.heap.size wN wC) := hbelC
      have hsC : wN.heap.size ≤ wC.heap.size := HBC.out.size
      have r0 := (HBC.out.cell (p := ⟨w.heap.size, 0, none⟩) (by show w.heap.size < _; omega)).trans s0
      have r1 := (HBC.out.cell (p := ⟨w.heap.size, 1, none⟩) (by show w.heap.size < _; omega)).trans s1
      have r2 := (HBC.out.cell (p := ⟨w.heap.size, 2, none⟩) (by show w.heap.size < _; omega)).trans s2
      have r3 := (HBC.out.cell (p := ⟨w.heap.size, 3, none⟩) (by show w.heap.size < _; omega)).trans s3
      have HMC : Hid (RowF wC wL.heap.size 4 39 _) := HMN.out.below HBC.out (by omega)
      have HBOC : Hid (Below wO.heap.size wO wC) := HBN.out.trans (HBC.out.mono (by omega))
      have HBwC : Hid (Below w.heap.size w wC) := HBwN.out.trans (HBC.out.mono (by omega))
      clear hchk' hbelC s0 s1 s2 s3 HMN
      go_wp2_with fail
      refine (outside_any c _ _ _ _ (wL.heap.size + 1 + 1) (wL.heap.size + 1 + 1 + 1) cb rb w _ HC.out HBwC.out (by omega) (by omega) (by omega) (HRC.out.below HBOC.out (by have := HZO.out; omega)) (HRT.out.below HBOC.out (by have := HZO.out; omega))).mono ?_
      rintro e wS ⟨rfl, hb2⟩
      have HB2 : Hid (But2 wC wS (wL.heap.size + 1 + 1) (wL.heap.size + 1 + 1 + 1)) := hb2
      have hsS : wC.heap.size ≤ wS.heap.size := HB2.out.size
      have HBLS : Hid (Below wL.heap.size wL wS) := HB2.out.below (HBO.out.trans (HBOC.out.mono (by omega))) (by omega) (by omega)
      have HMS : Hid (RowF wS wL.heap.size 4 39 (cells4 (.slice q0 c.nC cq0) (.slice q1 c.nT cq1) (.slice q2 c.nCh cq2) (.slice q3 c.nD cq3))) := HMC.out.of_heap (HB2.out.block _ (by omega) (by omega) (by omega))
      have HBBS : Hid (Below (w.alloc (.cells #[.slice (some a) c.nC cap0, .slice (some b) c.nT cap1, .slice p2 c.nCh cap2, .slice p3 c.nD cap3] 39)).heap.size (w.alloc (.cells #[.slice (some a) c.nC cap0, .slice (some b) c.nT cap1, .slice p2 c.nCh cap2, .slice p3 c.nD cap3] 39)) wS) := by
        show Below _ _ _
        have hh : Below (w.heap.size + 1) _ wS := HBL.out.trans (HBLS.out.mono (by omega))
        simpa using hh
      obtain ⟨y0, y1, y2, y3⟩ := box4 (HBL.out.trans (HBLS.out.mono (by omega)))
      obtain ⟨m0, m1, m2, m3⟩ := HMS.out.at4
      have hHS : w.heap.size < wS.heap.size := by omega
      have hLS : wL.heap.size < wS.heap.size := by omega
      clear hb2 r0 r1 r2 r3 HMC
      go_wp2_with fail
      refine (whole_any c _ _ _ _ _ _ _ _ _ _ (HC.out.below (HA.out _)) HBBS.out (HL0.out.below HBLS.out)).mono ?_
      rintro e wW ⟨rfl, hbw⟩
      have HBW : Hid (Below (w.heap.size + 1) (w.alloc _) wW) := hbw.mono (by simp)
      clear hbw y0 y1 y2 y3 m0 m1 m2 m3
      rcases HKV.out with ⟨hx0, rfl⟩ | ⟨hx0, kb, rfl⟩
      · have hx1 : (x != 0) = true := by simpa using hx0
        clear hx0
        go_wp2_with (go_at_call 25; refine (num_any x _).mono ?_; rintro e w' ⟨rfl, rfl⟩)
        go_ret
        exact ⟨rfl, (box_below HBW.out).mono (by omega), m, ks, rs, by omega, HI.out.below (box_below HBW.out)⟩
      · have hx1 : (x != 0) = false := by simpa using hx0
        have HX0 : Hid (x = 0) := hx0
        clear hx0
        have HIW : Hid (WInv wW bw m ks rs) := HI.out.below (box_below HBW.out)
        obtain ⟨xs, hks⟩ := HIW.out.k
        have HKS : Hid (wW.ownsRow (bw + 1) 51 1 ks m xs) := hks
        have u0 : wW.cell? ⟨bw, 0, none⟩ = some ks := HIW.out.row.cell (by omega)
        have hbW : bw < wW.heap.size := block_lt_of_cell u0
        clear hks
        go_wp2_with (first | (go_at_call 25; refine (num_any x _).mono ?_; rintro e wW ⟨rfl, rfl⟩) | (at_builtin; (refine wpList_append_info _ rfl _ _ 24 rfl (bw + 1) 51 _ 1 8 Try.underlying24 info_k rfl (by omega) ks m xs rfl (HKS.out.alloc _) wW.heap.size [.pointer (some ⟨kb, 0, none⟩)] 51 rfl rfl (by exact alloc_at rfl) (by simp [Value.oneCell']) (by simp only [maxLen]; omega) (by omega) (by simp; omega) ?_)))
        intro g cap w1 hown1 hgrow1 hat hlt1
        have hksown : ∀ j, ks.ownBlock = some j → bw + 1 ≤ j ∧ j < w.heap.size := fun j hj => by
          obtain ⟨xs', hx'⟩ := HI.out.k
          exact hx'.lt j hj
        have hrsown : ∀ j, rs.ownBlock = some j → bw + 1 ≤ j ∧ j < w.heap.size := fun j hj => by
          obtain ⟨xs', hx'⟩ := HI.out.r
          exact hx'.lt j hj
        have hsW : w.heap.size + 1 ≤ wW.heap.size := by have := HBW.out.size; simpa using this
        have hs1 : wW.heap.size + 1 ≤ w1.heap.size := by have := hgrow1.size; simpa using this
        have OLD1 : Hid (∀ j, j < wW.heap.size → ks.ownBlock ≠ some j → w1.heap[j]? = wW.heap[j]?) := fun j hj hne => (hgrow1.block j (by simp; omega) (fun e => hne e.symm)).trans (heap_alloc_old _ _ hj)
        have HR1 : Hid (RowF w1 bw 5 32 (cells5 ks rs (.slice none 0 0) (.slice none 0 0) (.slice none 0 0))) := HIW.out.row.of_heap (OLD1.out bw hbW (fun e => by have := hksown bw e; omega))
        have HR2 : Hid (RowF (w1.setCell ⟨bw, 0, none⟩ (.slice (some ⟨g, 0, none⟩) (m + 1 : Nat) cap)) bw 5 32 (cells5 (.slice (some ⟨g, 0, none⟩) (m + 1 : Nat) cap) rs (.slice none 0 0) (.slice none 0 0) (.slice none 0 0))) := (HR1.out.set 0 _).congr (fun j hj => by
          have : j = 0 ∨ j = 1 ∨ j = 2 ∨ j = 3 ∨ j = 4 := by omega
          rcases this with rfl | rfl | rfl | rfl | rfl <;> rfl)
        have d0 : w1.cell? ⟨bw, 0, none⟩ = some ks := HR1.out.cell (by omega)
        have d0f := HR1.out.frozen 0
        have HK2 : Hid ((w1.setCell ⟨bw, 0, none⟩ (.slice (some ⟨g, 0, none⟩) (m + 1 : Nat) cap)).ownsRow (bw + 1) 51 1 (.slice (some ⟨g, 0, none⟩) (m + 1 : Nat) cap) (m + 1) (xs ++ [.pointer (some ⟨kb, 0, none⟩)])) := ownsRow_setCell_below hown1 (by simp) _
        have OLD2 : Hid (∀ j, j < wW.heap.size → j ≠ bw → ks.ownBlock ≠ some j → (w1.setCell ⟨bw, 0, none⟩ (.slice (some ⟨g, 0, none⟩) (m + 1 : Nat) cap)).heap[j]? = wW.heap[j]?) := fun j hj h1 h2 => (heap_setCell_other _ _ _ _ (by simpa using h1)).trans (OLD1.out j hj h2)
        have hs2 : (w1.setCell ⟨bw, 0, none⟩ (.slice (some ⟨g, 0, none⟩) (m + 1 : Nat) cap)).heap.size = w1.heap.size := size_setCell _ _ _
        have HBU : Hid (But (RZ bw ks rs) w (w1.setCell ⟨bw, 0, none⟩ (.slice (some ⟨g, 0, none⟩) (m + 1 : Nat) cap))) := ⟨(hgrow1.os.trans (box_below HBW.out).os), (hgrow1.tape.trans (box_below HBW.out).tape), (hgrow1.output.trans (box_below HBW.out).output), by omega, fun j hj hn => (OLD2.out j (by omega) (fun e => hn (.inl e)) (fun e => hn (.inr (.inl e)))).trans ((box_below HBW.out).block j hj)⟩
        have HCW : Hid (CfgR (w1.setCell ⟨bw, 0, none⟩ (.slice (some ⟨g, 0, none⟩) (m + 1 : Nat) cap)) (.slice (some a) c.nC cap0) (.slice (some b) c.nT cap1) (.slice p2 c.nCh cap2) (.slice p3 c.nD cap3) c) := HST.out _ HBU.out
        obtain ⟨ys, hrs⟩ := HIW.out.r
        have HRS2 : Hid ((w1.setCell ⟨bw, 0, none⟩ (.slice (some ⟨g, 0, none⟩) (m + 1 : Nat) cap)).ownsRow (bw + 1) 99 1 rs m ys) := by
          rcases hrs.2 with hn | ⟨g', cap', cur, hv, hbg, hg, r⟩
          · exact ⟨hrs.1, .inl hn⟩
          · have hrg : rs.ownBlock = some g' := by rw [hv]; rfl
            exact ⟨hrs.1, .inr ⟨g', cap', cur, hv, hbg, by rw [OLD2.out g' (by have := hrsown g' hrg; omega) (by omega) (fun e => HI.out.ne g' e hrg)]; exact hg, r⟩⟩
        have HNE2 : Hid (rs.ownBlock ≠ some g) := by
          rcases hat with h | h
          · exact HI.out.ne g h
          · intro e
            have := hrsown g e
            omega
        have HROWH : Hid (RowF (w1.setCell ⟨bw, 0, none⟩ (.slice (some ⟨g, 0, none⟩) (m + 1 : Nat) cap)) w.heap.size 4 39 (cells4 (.slice (some a) c.nC cap0) (.slice (some b) c.nT cap1) (.slice p2 c.nCh cap2) (.slice p3 c.nD cap3))) := ((row4 w _ _ _ _ _).below HBW.out (by omega)).of_heap (OLD2.out _ (by omega) (by omega) (fun e => by have := hksown _ e; omega))
        have HHG : Hid (bw + 1 ≤ g ∧ g < w1.heap.size) := by
          rcases hat with h | h
          · have := hksown g h; exact ⟨this.1, hlt1⟩
          · exact ⟨by omega, hlt1⟩
        clear hown1 hgrow1 hat hlt1 hrs u0
        go_wp2_with fail
        obtain ⟨k0, k1, k2, k3⟩ := HROWH.out.at4
        have b1 : (w1.setCell ⟨bw, 0, none⟩ (.slice (some ⟨g, 0, none⟩) (m + 1 : Nat) cap)).cell? ⟨bw, 1, none⟩ = some rs := HR2.out.cell (by omega)
        have b1f := HR2.out.frozen 1
        have CK0 : Hid (CheckIs c 0 0) := HCK.out.place HX0.out
        have H2S : Hid (w.heap.size + 1 ≤ (w1.setCell ⟨bw, 0, none⟩ (.slice (some ⟨g, 0, none⟩) (m + 1 : Nat) cap)).heap.size ∧ bw < (w1.setCell ⟨bw, 0, none⟩ (.slice (some ⟨g, 0, none⟩) (m + 1 : Nat) cap)).heap.size ∧ g < (w1.setCell ⟨bw, 0, none⟩ (.slice (some ⟨g, 0, none⟩) (m + 1 : Nat) cap)).heap.size) := ⟨by omega, by omega, by rw [hs2]; exact HHG.out.2⟩
        have HB2w : Hid (Below bw w (w1.setCell ⟨bw, 0, none⟩ (.slice (some ⟨g, 0, none⟩) (m + 1 : Nat) cap))) := ⟨HBU.out.os, HBU.out.tape, HBU.out.output, HBU.out.size, fun j hj => HBU.out.block j (by omega) (fun h => by
          rcases h with h | h | h
          · omega
          · have := hksown j h; omega
          · have := hrsown j h; omega)⟩
        clear hs2 OLD1 OLD2 HR1 d0 d0f hsW hs1
        generalize (w1.setCell ⟨bw, 0, none⟩ (.slice (some ⟨g, 0, none⟩) (m + 1 : Nat) cap)) = w2 at *
        have g1 := H2S.out.1
        have g2 := H2S.out.2.1
        have NC : Hid (NCok c ∧ c.nCh ≤ 8 ∧ AllOk (CellOk c) c.nC) := by
          have hh := CK0.out
          unfold CheckIs at hh
          rcases hh with h | h | ⟨_, _, i, _, h, _⟩ | h | ⟨_, _, _, _, i, _, h, _⟩ | h | ⟨_, _, _, _, _, _, i, _, h, _⟩ | ⟨_, _, _, _, _, _, _, i, _, h, _⟩ | h
          · exact absurd h.2.1 (by omega)
          · exact absurd h.2.2.1 (by omega)
          · exact absurd h (by omega)
          · exact absurd h.2.2.2.2.1 (by omega)
          · exact absurd h (by omega)
          · exact absurd h.2.2.2.2.2.2.1 (by omega)
          · exact absurd h (by omega)
          · exact absurd h (by omega)
          · exact ⟨h.1, h.2.2.2.1, h.2.2.2.2.2.2.2.1⟩
        go_region_law
          (first
            | (refine step_call_go1 rfl 19 _ _ rfl _ rfl Try.f19 Try.func19 nameLent bodyLent (fun r w' => ∃ x0 x1 x2 x3, r = .agg #[x0, x1, x2, x3] ∧ LentR w' c w2.heap.size x0 x1 x2 x3 ∧ Below w2.heap.size w2 w') ?_ ?_
               · exact (lent_any c (.slice (some a) c.nC cap0) (.slice (some b) c.nT cap1) (.slice p2 c.nCh cap2) (.slice p3 c.nD cap3) w2.drew (HCW.out.keep (fun _ _ h => h))).mono (fun e w' ⟨x0, x1, x2, x3, h1, h2, h3⟩ => ⟨_, h1, x0, x1, x2, x3, rfl, h2, ⟨h3.os, h3.tape, h3.output, h3.size, h3.block⟩⟩)
               rintro r wl ⟨x0, x1, x2, x3, rfl, hl2, hbl2⟩
               have HBl : Hid (Below w2.heap.size w2 wl) := hbl2
               have HLl : Hid (LentR wl c w2.heap.size x0 x1 x2 x3) := hl2
               have hsl : w2.heap.size ≤ wl.heap.size := hbl2.size
               have q1 := (HBl.out.cell (p := ⟨bw, 1, none⟩) g2).trans b1
               obtain ⟨j0, j1, j2, j3⟩ := (HROWH.out.below HBl.out (by omega)).at4
               clear hl2 hbl2)
            | (refine step_call_go1 rfl 26 _ _ rfl _ rfl Try.f26 Try.func26 nameNew bodyNew (fun r w' => ∃ kb, r = .pointer (some ⟨kb, 0, none⟩) ∧ Below wl.heap.size wl w') ?_ ?_
               · exact (refNew_any c x0 x1 x2 x3 w2.heap.size wl HLl.out (fun i hi => (NC.out.2.2 i hi).2.1) NC.out.1.2 NC.out.2.1 NC.out.1.1 ZCH.out ZIM.out).mono (fun e w' ⟨kb, h1, h2⟩ => ⟨_, h1, kb, rfl, h2⟩)
               rintro r wk ⟨kb2, rfl, hbk⟩
               have HBK : Hid (Below w2.heap.size w2 wk) := HBl.out.trans (hbk.mono hsl)
               have hsk : w2.heap.size ≤ wk.heap.size := HBK.out.size
               clear q1 j0 j1 j2 j3
               have q1 := (HBK.out.cell (p := ⟨bw, 1, none⟩) g2).trans b1
               have q1a : (wk.alloc (.cells #[.pointer (some ⟨kb2, 0, none⟩)] 99)).cell? ⟨bw, 1, none⟩ = some rs := ((HBK.out.alloc hsk _).cell (p := ⟨bw, 1, none⟩) g2).trans b1
               obtain ⟨j0, j1, j2, j3⟩ := (HROWH.out.below HBK.out (by omega)).at4
               clear hbk)
            | (refine step_append_info rfl _ _ 25 rfl (bw + 1) 99 _ 1 8 Try.underlying25 info_r rfl (by omega) rs m ys rfl (own_below HRS2.out (HBK.out.alloc (by omega) _)) wk.heap.size [.pointer (some ⟨kb2, 0, none⟩)] 99 rfl rfl (by exact alloc_at rfl) (by simp [Value.oneCell']) (by simp only [maxLen]; omega) (by omega) (by simp; omega) ?_
               intro g3 cap3' w3 hown3 hgrow3 hat3 hlt3
               have OLD3 : Hid (∀ j, j < w2.heap.size → rs.ownBlock ≠ some j → w3.heap[j]? = w2.heap[j]?) := (fun j hj hne => (hgrow3.block j (by simp; omega) (fun e => hne e.symm)).trans ((heap_alloc_old _ _ (by omega)).trans (HBK.out.block j hj)))
               have HR3 : Hid (RowF w3 bw 5 32 (cells5 (.slice (some ⟨g, 0, none⟩) (m + 1 : Nat) cap) rs (.slice none 0 0) (.slice none 0 0) (.slice none 0 0))) := HR2.out.of_heap (OLD3.out bw (by omega) (fun e => by have := hrsown bw e; omega))
               clear q1 j0 j1 j2 j3
               have q1 : w3.cell? ⟨bw, 1, none⟩ = some rs := HR3.out.cell (by omega)
               have q1f := HR3.out.frozen 1
               have hO3 : Hid (w3.ownsRow (bw + 1) 99 1 (.slice (some ⟨g3, 0, none⟩) (m + 1 : Nat) cap3') (m + 1) (ys ++ [.pointer (some ⟨kb2, 0, none⟩)])) := hown3
               have hA3 : Hid (rs.ownBlock = some g3 ∨ w2.heap.size ≤ g3) := by
                 rcases hat3 with h | h
                 · exact Or.inl h
                 · exact Or.inr (by rw [h]; simp; omega)
               have hG3 : Hid (But (fun j => rs.ownBlock = some j) w2 w3) := ⟨hgrow3.os.trans HBK.out.os, hgrow3.tape.trans HBK.out.tape, hgrow3.output.trans HBK.out.output, Nat.le_trans (Nat.le_trans hsk (by simp)) hgrow3.size, fun j hj hne => OLD3.out j hj hne⟩
               clear hown3 hgrow3 hat3))
        all_goals go_wp2_with fail
        all_goals go_ret
        all_goals exact ⟨rfl, made_end HB2w.out hG3.out HR2.out HK2.out hO3.out hA3.out HNE2.out ⟨HHG.out.1, H2S.out.2.2⟩ (fun j hj => (hrsown j hj).1)⟩

end Go.Proofs.Ytdoghgnifkgfdaa
