import Derived.Test.YtdoghgnifkgfdaaRules5
import Derived.Test.YtdoghgnifkgfdaaChansNew
namespace Go.Proofs.Ytdoghgnifkgfdaa
open Go.RowKit Go.Maps

set_option maxHeartbeats 1000000 in
theorem rulesCheck_any (c : Cfg) (v0 v1 v2 v3 : Value) (w : World) (h : CfgR w v0 v1 v2 v3 c) (hw : CfgW c) :
    Calls Try.prog 41 #[.agg #[v0, v1, v2, v3]] w (Chk c w) := by
  obtain ⟨p0, cap0, F0, p1, cap1, F1, p2, cap2, p3, cap3, rfl, rfl, rfl, rfl, s0, k0, s1, k1, s2, s3, b0, b1, b2, b3⟩ := h.parts
  have hb2 : c.nCh ≤ 8796093022208 := by omega
  have hb3 : c.nD ≤ 17592186044416 := by omega
  have HR : Hid (CfgR w (.slice p0 c.nC cap0) (.slice p1 c.nT cap1) (.slice p2 c.nCh cap2) (.slice p3 c.nD cap3) c) := h
  have S1 : Hid (Sl w p1 c.nT F1) := s1
  have K1 : Hid (∀ i, i < c.nT → SlZ w (F1 i) (c.rowN i) (c.nRow i) 2 (c.row i) 16) := k1
  have S2 : Hid (Sl w p2 (c.nCh * 3) (fun j => .int .i64 (c.ch j))) := s2
  have S3 : Hid (Sl w p3 c.nD (fun j => .int .i64 (c.dv j))) := s3
  have HW0 : Hid (CfgW c) := hw
  clear h s0 k0 s1 k1 s2 s3 b2 b3 hw
  have HA : Hid (∀ o, Below w.heap.size w (w.alloc o)) := fun o => (Below.refl _ _).alloc (Nat.le_refl _) _
  by_cases n1 : NCok c
  case neg =>
    have q : c.nC < 1 ∨ 6 < c.nC := by unfold NCok at n1; omega
    have C1 : Hid (CheckIs c 1 0) := CheckIs.c1 n1
    clear n1
    rcases q with q | q
    all_goals
      go_enter Try.func41, Try.ntmps41
      go_wp2_with fail
      go_ret2
      exact Chk.mk C1.out (HA.out _)
  have q1 : 1 ≤ c.nC := n1.1
  have q1' : c.nC ≤ 6 := n1.2
  have N1 : Hid (NCok c) := n1
  clear n1
  go_enter Try.func41, Try.ntmps41
  go_wp2_with fail
  refine (faultyRow_any c p1 cap1 F1 _ (S1.out.below (HA.out _)) (fun i hi => (K1.out i hi).keep (below_keep (HA.out _))) b1).mono ?_
  rintro e w1 ⟨x, rfl, hx, hbel⟩
  have HB1 : Hid (Below (w.heap.size + 1) (w.alloc (.cells #[.slice p0 c.nC cap0, .slice p1 c.nT cap1, .slice p2 c.nCh cap2, .slice p3 c.nD cap3] 39)) w1) := hbel.mono (by simp)
  clear hbel
  rcases hx with ⟨hx1, rfl⟩ | ⟨hx1, rfl, hx2⟩ | ⟨i, hx1, rfl, hx2⟩
  · have C2 : Hid (CheckIs c 2 0) := CheckIs.c2 N1.out hx1
    clear hx1
    go_wp2_with fail
    go_ret2
    exact Chk.mk C2.out (box_below HB1.out)
  · have N2 : Hid (NTok c) := hx1
    have N3 : Hid (AllOk (RowAt c) c.nT) := hx2
    clear hx1 hx2
    obtain ⟨x0, x1, x2, x3⟩ := box4 HB1.out
    go_wp2_with fail
    refine (faultyChan_any c p2 cap2 _ (S2.out.below (box_below HB1.out)) hb2).mono ?_
    rintro e w2 ⟨x, rfl, hx, hbel⟩
    have HB2 : Hid (Below (w.heap.size + 1) (w.alloc (.cells #[.slice p0 c.nC cap0, .slice p1 c.nT cap1, .slice p2 c.nCh cap2, .slice p3 c.nD cap3] 39)) w2) := box_step HB1.out hbel
    clear hbel x0 x1 x2 x3
    rcases hx with ⟨hx1, rfl⟩ | ⟨hx1, rfl, hx2⟩ | ⟨i, hx1, rfl, hx2⟩
    · have C4 : Hid (CheckIs c 3 0) := CheckIs.c4 N1.out N2.out N3.out hx1
      clear hx1
      go_wp2_with fail
      go_ret2
      exact Chk.mk C4.out (box_below HB2.out)
    · have N5 : Hid (AllOk (ChOk c) c.nCh) := hx2
      have n4 := hx1
      clear hx1 hx2
      obtain ⟨x0, x1, x2, x3⟩ := box4 HB2.out
      go_wp2_with fail
      refine (faultyDev_any c p3 cap3 _ (S3.out.below (box_below HB2.out)) hb3).mono ?_
      rintro e w3 ⟨x, rfl, hx, hbel⟩
      have HB3 : Hid (Below (w.heap.size + 1) (w.alloc (.cells #[.slice p0 c.nC cap0, .slice p1 c.nT cap1, .slice p2 c.nCh cap2, .slice p3 c.nD cap3] 39)) w3) := box_step HB2.out hbel
      clear hbel x0 x1 x2 x3
      rcases hx with ⟨hx1, rfl⟩ | ⟨hx1, rfl, hx2⟩ | ⟨i, hx1, rfl, hx2⟩
      · have C6 : Hid (CheckIs c 4 0) := CheckIs.c6 N1.out N2.out N3.out n4 N5.out hx1
        clear hx1
        go_wp2_with fail
        go_ret2
        exact Chk.mk C6.out (box_below HB3.out)
      · have N7 : Hid (AllOk (DvOk c) c.nD) := hx2
        have n6 := hx1
        clear hx1 hx2
        obtain ⟨x0, x1, x2, x3⟩ := box4 HB3.out
        go_wp2_with fail
        refine (faultyCell_any c _ _ _ _ _ (HR.out.below (box_below HB3.out)) HW0.out q1' n4 N5.out n6).mono ?_
        rintro e w4 ⟨x, rfl, hx, hbel⟩
        have HB4 : Hid (Below (w.heap.size + 1) (w.alloc (.cells #[.slice p0 c.nC cap0, .slice p1 c.nT cap1, .slice p2 c.nCh cap2, .slice p3 c.nD cap3] 39)) w4) := box_step HB3.out hbel
        clear hbel x0 x1 x2 x3
        rcases hx with ⟨rfl, hx2⟩ | ⟨i, rfl, hx2⟩
        · have C9 : Hid (CheckIs c 0 0) := CheckIs.c9 N1.out N2.out N3.out n4 N5.out n6 N7.out hx2
          clear hx2
          go_wp2_with fail
          go_ret2
          exact Chk.mk C9.out (box_below HB4.out)
        · have C8 : Hid (CheckIs c 5 i) := CheckIs.c8 N1.out N2.out N3.out n4 N5.out n6 N7.out hx2
          have hne : ((i : Int) != -1) = true := by simp
          clear hx2
          go_wp2_with fail
          go_ret2
          exact Chk.mk C8.out (box_below HB4.out)
      · have C7 : Hid (CheckIs c 4 i) := CheckIs.c7 N1.out N2.out N3.out n4 N5.out hx1 hx2
        have hne : ((i : Int) != -1) = true := by simp
        clear hx1 hx2
        go_wp2_with fail
        go_ret2
        exact Chk.mk C7.out (box_below HB3.out)
    · have C5 : Hid (CheckIs c 3 i) := CheckIs.c5 N1.out N2.out N3.out hx1 hx2
      have hne : ((i : Int) != -1) = true := by simp
      clear hx1 hx2
      go_wp2_with fail
      go_ret2
      exact Chk.mk C5.out (box_below HB2.out)
  · have C3 : Hid (CheckIs c 2 i) := CheckIs.c3 N1.out hx1 hx2
    have hne : ((i : Int) != -1) = true := by simp
    clear hx1 hx2
    go_wp2_with fail
    go_ret2
    exact Chk.mk C3.out (box_below HB1.out)

theorem CheckIs.place {c : Cfg} {x y : Int} (h : CheckIs c x y) (h0 : x = 0) : CheckIs c 0 0 := by
  subst h0
  unfold CheckIs at h
  rcases h with h | h | ⟨_, _, i, _, h, _⟩ | h | ⟨_, _, _, _, i, _, h, _⟩ | h | ⟨_, _, _, _, _, _, i, _, h, _⟩ | ⟨_, _, _, _, _, _, _, i, _, h, _⟩ | h
  · exact absurd h.2.1 (by omega)
  · exact absurd h.2.2.1 (by omega)
  · exact absurd h (by omega)
  · exact absurd h.2.2.2.2.1 (by omega)
  · exact absurd h (by omega)
  · exact absurd h.2.2.2.2.2.2.1 (by omega)
  · exact absurd h (by omega)
  · exact absurd h (by omega)
  · exact CheckIs.c9 h.1 h.2.1 h.2.2.1 h.2.2.2.1 h.2.2.2.2.1 h.2.2.2.2.2.1 h.2.2.2.2.2.2.1 h.2.2.2.2.2.2.2.1

/-- What New answers: the number of what is wrong and its place; a kernel just where nothing is. -/
def NewSays (c : Cfg) (w : World) (e : Ending) (w' : World) : Prop :=
  ∃ k : Value, ∃ x y : Int, e = .returned (.tuple #[k, .int .i64 x, .int .i64 y]) ∧ CheckIs c x y ∧ Below w.heap.size w w' ∧ ((x ≠ 0 ∧ k = .pointer none) ∨ (x = 0 ∧ ∃ b, k = .pointer (some ⟨b, 0, none⟩)))

theorem info_ev : (Try.prog.info? 55).map (fun i => (i.zero, i.size, i.bytes)) = some (some (.slice none 0 0), 1, 24) := by kernel_rfl
theorem info_cp : (Try.prog.info? 124).map (fun i => (i.zero, i.size, i.bytes)) = some (some (.pointer none), 1, 8) := by kernel_rfl
theorem nameCloneWin : (Try.f43.name == "runtime.NumGoroutine") = false := by kernel_rfl
theorem bodyCloneWin : Try.f43.body.isNone = false := by kernel_rfl
theorem nameCellsNew : (Try.f44.name == "runtime.NumGoroutine") = false := by kernel_rfl
theorem bodyCellsNew : Try.f44.body.isNone = false := by kernel_rfl

theorem CheckIs.sizes {c : Cfg} (h : CheckIs c 0 0) : NCok c ∧ NTok c ∧ AllOk (CellOk c) c.nC := by
  unfold CheckIs at h
  rcases h with h | h | ⟨_, _, i, _, h, _⟩ | h | ⟨_, _, _, _, i, _, h, _⟩ | h | ⟨_, _, _, _, _, _, i, _, h, _⟩ | ⟨_, _, _, _, _, _, _, i, _, h, _⟩ | h
  · exact absurd h.2.1 (by omega)
  · exact absurd h.2.2.1 (by omega)
  · exact absurd h (by omega)
  · exact absurd h.2.2.2.2.1 (by omega)
  · exact absurd h (by omega)
  · exact absurd h.2.2.2.2.2.2.1 (by omega)
  · exact absurd h (by omega)
  · exact absurd h (by omega)
  · exact ⟨h.1, h.2.1, h.2.2.2.2.2.2.2.1⟩

def kernF (a b c d e : Value) (j : Nat) : Value := if j = 0 then a else if j = 1 then b else if j = 2 then c else if j = 3 then d else e
theorem row5k (w : World) (a b c d e : Value) (t : Nat) : RowF (w.alloc (.cells #[a, b, c, d, e] t)) w.heap.size 5 t (kernF a b c d e) :=
  RowF.new w #[a, b, c, d, e] t _ (fun j hj => by
    have : j = 0 ∨ j = 1 ∨ j = 2 ∨ j = 3 ∨ j = 4 := by simp at hj; omega
    rcases this with rfl | rfl | rfl | rfl | rfl <;> rfl)
theorem RowF.at5k {w : World} {g t : Nat} {a b c d e : Value} (h : RowF w g 5 t (kernF a b c d e)) : w.cell? ⟨g, 0, none⟩ = some a ∧ w.cell? ⟨g, 1, none⟩ = some b ∧ w.cell? ⟨g, 2, none⟩ = some c ∧ w.cell? ⟨g, 3, none⟩ = some d ∧ w.cell? ⟨g, 4, none⟩ = some e :=
  ⟨h.cell (by omega), h.cell (by omega), h.cell (by omega), h.cell (by omega), h.cell (by omega)⟩
theorem RowF.set5k {w : World} {g t : Nat} {a b c d e : Value} (h : RowF w g 5 t (kernF a b c d e)) (v : Value) :
    RowF (w.setCell ⟨g, 0, none⟩ v) g 5 t (kernF v b c d e) ∧ RowF (w.setCell ⟨g, 1, none⟩ v) g 5 t (kernF a v c d e) ∧ RowF (w.setCell ⟨g, 2, none⟩ v) g 5 t (kernF a b v d e) := by
  refine ⟨(h.set 0 v).congr ?_, (h.set 1 v).congr ?_, (h.set 2 v).congr ?_⟩
  all_goals
    intro j hj
    have : j = 0 ∨ j = 1 ∨ j = 2 ∨ j = 3 ∨ j = 4 := by omega
    rcases this with rfl | rfl | rfl | rfl | rfl <;> rfl

/-- A call of a Go function of three arguments, as one step of a region that draws its order. -/
theorem step_call_go3 {P : Program} {ops : Array Oper} {o : Oper} {a : Act} {w : World} {K : Act → World → Prop} {Q : Exit → Act → World → Prop} {E : Prop} (hgd : o.guard = none) (f : FuncId) (s1 s2 s3 : Operand) (t1 t2 t3 : TypeId)
    (ho : o.op = .call { callee := .value (.func f), args := #[s1, s2, s3], argTypes := #[t1, t2, t3] }) (v1 v2 v3 : Value) (hv1 : a.eval s1 = v1) (hv2 : a.eval s2 = v2) (hv3 : a.eval s3 = v3)
    (fn : Func) (hf : P.funcs[f]? = some fn) (hn : (fn.name == "runtime.NumGoroutine") = false) (hb : fn.body.isNone = false) (R : Value → World → Prop)
    (h : Calls P f #[v1, v2, v3] w (fun e w' => ∃ r, e = .returned r ∧ R r w')) (hk : ∀ r w', R r w' → K (a.put o.dst r) w') :
    if Region.wanted o (yielded ops a.tmps) = true then Oper.wp P o a w K Q else E := by
  have hw : Region.wanted o (yielded ops a.tmps) = true := by simp [Region.wanted, hgd]
  rw [if_pos hw]
  unfold Oper.wp
  have hr : (execOp a.eval o).run P w = .ok (.enter f #[v1, v2, v3]) w := by
    have e : a.eval (.func f) = .func (.func f) #[] #[] := rfl
    have hn' : ¬ fn.name = "runtime.NumGoroutine" := by simpa using hn
    have hb' : ¬ fn.body = none := by intro e; rw [e] at hb; cases hb
    simp [execOp, ho, resolve, invoke, hv1, hv2, hv3, e, Deferred.ofValue, callFunc, hf, hn', hb']
  rw [hr]
  refine h.mono ?_
  rintro e w' ⟨r, rfl, hR⟩
  exact hk r w' hR

/-- The kernel under way: k rows, then k cells. -/
def RowsMade (w : World) (K : Nat) (np : Option Addr) (tr : Value) (k : Nat) (wr : World) : Prop :=
  ∃ v xs, Below w.heap.size w wr ∧ RowF wr K 5 114 (kernF v (.int .i64 0) (.slice none 0 0) (.pointer np) tr) ∧ wr.ownsRow (K + 1) 63 1 v k xs
def CellsMade (w : World) (K : Nat) (np : Option Addr) (v tr : Value) (k : Nat) (wr : World) : Prop :=
  ∃ u xs, Below w.heap.size w wr ∧ RowF wr K 5 114 (kernF v (.int .i64 0) u (.pointer np) tr) ∧ wr.ownsRow (K + 1) 124 1 u k xs

/-- What an append and a store into the kernel leave as it was. -/
theorem made_below {w wr wg : World} {K i : Nat} {v x : Value} (hb : Below w.heap.size w wr) (hs : wr.heap.size ≤ wg.heap.size) (hf : wg.os = wr.os ∧ wg.tape = wr.tape ∧ wg.output = wr.output)
    (hol : ∀ j, j < wr.heap.size → v.ownBlock ≠ some j → wg.heap[j]? = wr.heap[j]?) (hlo : ∀ j, v.ownBlock = some j → K + 1 ≤ j) (hK : w.heap.size < K) : Below w.heap.size w (wg.setCell ⟨K, i, none⟩ x) := by
  refine Below.setCell ⟨hf.1.trans hb.os, hf.2.1.trans hb.tape, hf.2.2.trans hb.output, Nat.le_trans hb.size hs, fun j hj => ?_⟩ (by show w.heap.size ≤ K; omega) _
  exact (hol j (Nat.lt_of_lt_of_le hj hb.size) (fun e => by have := hlo j e; omega)).trans (hb.block j hj)

theorem CheckIs.chans {c : Cfg} (h : CheckIs c 0 0) : c.nCh ≤ 8 := by
  unfold CheckIs at h
  rcases h with h | h | ⟨_, _, i, _, h, _⟩ | h | ⟨_, _, _, _, i, _, h, _⟩ | h | ⟨_, _, _, _, _, _, i, _, h, _⟩ | ⟨_, _, _, _, _, _, _, i, _, h, _⟩ | h
  · exact absurd h.2.1 (by omega)
  · exact absurd h.2.2.1 (by omega)
  · exact absurd h (by omega)
  · exact absurd h.2.2.2.2.1 (by omega)
  · exact absurd h (by omega)
  · exact absurd h.2.2.2.2.2.2.1 (by omega)
  · exact absurd h (by omega)
  · exact absurd h (by omega)
  · exact h.2.2.2.1

/-- Behind the kernel's box. -/
theorem new_fin {w W w0 : World} {K t tc : Nat} {cs : Array Value} {a b c d e : Value} (hB : Below (w.heap.size + 1) (w.alloc (.cells cs tc)) W) (hK : K = W.heap.size) (h0 : w0 = W.alloc (.cells #[a, b, c, d, e] t)) :
    Below w.heap.size w w0 ∧ RowF w0 K 5 t (kernF a b c d e) ∧ K < w0.heap.size ∧ w.heap.size < K ∧ Below (w.heap.size + 1) (w.alloc (.cells cs tc)) w0 := by
  subst hK h0
  have hs : w.heap.size < W.heap.size := by have := hB.size; simp at this; omega
  exact ⟨(box_below hB).alloc (by omega) _, row5k W _ _ _ _ _ _, by simp, hs, hB.alloc (by omega) _⟩

theorem nameChansNew : (Try.f42.name == "runtime.NumGoroutine") = false := by kernel_rfl
theorem bodyChansNew : Try.f42.body.isNone = false := by kernel_rfl

set_option maxRecDepth 100000 in
set_option maxHeartbeats 4000000 in
theorem new_any (c : Cfg) (v0 v1 v2 v3 : Value) (w : World) (h : CfgR w v0 v1 v2 v3 c) (hw : CfgW c) :
    Calls Try.prog 21 #[.agg #[v0, v1, v2, v3]] w (NewSays c w) := by
  have HA : Hid (∀ o, Below w.heap.size w (w.alloc o)) := fun o => (Below.refl _ _).alloc (Nat.le_refl _) _
  have HC : Hid (∀ o, Calls Try.prog 41 #[.agg #[v0, v1, v2, v3]] (w.alloc o) (Chk c (w.alloc o))) := fun o => rulesCheck_any c v0 v1 v2 v3 _ (h.below (HA.out _)) hw
  obtain ⟨p0, cap0, F0, p1, cap1, F1, p2, cap2, p3, cap3, rfl, rfl, rfl, rfl, s0, k0, s1, k1, s2, -, b0, b1, b2, b3⟩ := h.parts
  have S2 : Hid (Sl w p2 (c.nCh * 3) (fun j => .int .i64 (c.ch j))) := s2
  have S0 : Hid (Sl w p0 (c.nC * 3) F0) := s0
  have K0 : Hid (∀ i, i < c.nC → _) := k0
  have S1 : Hid (Sl w p1 c.nT F1) := s1
  have K1 : Hid (∀ i, i < c.nT → SlZ w (F1 i) (c.rowN i) (c.nRow i) 2 (c.row i) 16) := k1
  clear h hw s0 k0 s1 k1 s2 b0 b1 b2 b3
  go_enter Try.func21, Try.ntmps21
  go_wp2_with fail
  refine (HC.out _).mono ?_
  rintro e w1 ⟨x, y, rfl, hx, hbel⟩
  have HX : Hid (CheckIs c x y) := hx
  have HB1 : Hid (Below (w.heap.size + 1) (w.alloc (.cells #[.slice p0 c.nC cap0, .slice p1 c.nT cap1, .slice p2 c.nCh cap2, .slice p3 c.nD cap3] 39)) w1) := hbel.mono (by simp)
  clear hx hbel
  by_cases h0 : x = 0
  · have hne : (x != 0) = false := by simpa using h0
    have H0 : Hid (x = 0) := h0
    have HOK : Hid (NCok c ∧ NTok c ∧ AllOk (CellOk c) c.nC) := (HX.out.place h0).sizes
    have q6 : c.nC ≤ 6 := HOK.out.1.2
    have q8 : c.nT ≤ 8 := HOK.out.2.1.2
    obtain ⟨M1, hM1, hm1⟩ := make_run (P := Try.prog) 26 55 _ 1 24 c.nC Try.underlying26 info_ev (by omega) (by omega)
    obtain ⟨x0, x1, x2, x3⟩ := box4 HB1.out
    have hs1 : w.heap.size < w1.heap.size := by have := HB1.out.size; simp at this; omega
    have HBw1 : Hid (Below w.heap.size w w1) := box_below HB1.out
    clear h0 hM1
    have q7 : c.nCh ≤ 8 := (HX.out.place H0.out).chans
    go_wp2_with fail
    have HBm : Hid (Below (w.heap.size + 1) (w.alloc (.cells #[.slice p0 c.nC cap0, .slice p1 c.nT cap1, .slice p2 c.nCh cap2, .slice p3 c.nD cap3] 39)) (w1.alloc (.cells M1 55))) := HB1.out.alloc (by have := HB1.out.size; simp at this; omega) _
    go_region_held3 (fun W => W.cell? ⟨w.heap.size, 2, none⟩ = some (.slice p2 c.nCh cap2) ∧ W.cell? ⟨w.heap.size, 0, none⟩ = some (.slice p0 c.nC cap0)) (go_keep)
      (first
        | (go_at_call 42
           refine (chansNew_any p2 c.nCh cap2 c.ch _ (S2.out.below (box_below HBm.out.drew)) q7).mono ?_
           rintro e wl ⟨nb, rfl, -, -, -, -, h3, -⟩
           have HBl : Hid (Below (w.heap.size + 1) (w.alloc (.cells #[.slice p0 c.nC cap0, .slice p1 c.nT cap1, .slice p2 c.nCh cap2, .slice p3 c.nD cap3] 39)) wl) := HBm.out.drew.trans (h3.mono (by have := HBm.out.size; simp at this; show _ ≤ (w1.alloc (.cells M1 55)).heap.size; simp; omega))
           clear h3
           obtain ⟨xl0, xl1, xl2, xl3⟩ := box4 HBl.out)
        | (go_at_call 42
           refine (chansNew_any p2 c.nCh cap2 c.ch _ (S2.out.below (box_below HB1.out.drew)) q7).mono ?_
           rintro e wl ⟨nb, rfl, -, -, -, -, h3, -⟩
           have HBl : Hid (Below (w.heap.size + 1) (w.alloc (.cells #[.slice p0 c.nC cap0, .slice p1 c.nT cap1, .slice p2 c.nCh cap2, .slice p3 c.nD cap3] 39)) wl) := HB1.out.drew.trans (h3.mono (by have := HB1.out.size; simp at this; show _ ≤ w1.heap.size; omega))
           clear h3
           obtain ⟨xl0, xl1, xl2, xl3⟩ := box4 HBl.out))
    have HF : Hid _ := new_fin (K := wl.heap.size + 1) (t := 114) (a := .slice none 0 0) (b := .int .i64 0) (c := .slice none 0 0) (d := .pointer (some ⟨nb, 0, none⟩)) (e := .slice (some ⟨wl.heap.size, 0, none⟩) c.nC c.nC) (HBl.out.alloc (by have := HBl.out.size; simp at this; omega) (.cells M1 55)) (by simp) rfl
    have W0 : Hid (RowsMade w (wl.heap.size + 1) (some ⟨nb, 0, none⟩) (.slice (some ⟨wl.heap.size, 0, none⟩) c.nC c.nC) 0 ((wl.alloc (.cells M1 55)).alloc (.cells #[.slice none 0 0, .int .i64 0, .slice none 0 0, .pointer (some ⟨nb, 0, none⟩), .slice (some ⟨wl.heap.size, 0, none⟩) c.nC c.nC] 114))) := ⟨_, _, HF.out.1, HF.out.2.1, World.ownsRow_nil _ _ _ _⟩
    have X0 : Hid (RowF ((wl.alloc (.cells M1 55)).alloc (.cells #[.slice none 0 0, .int .i64 0, .slice none 0 0, .pointer (some ⟨nb, 0, none⟩), .slice (some ⟨wl.heap.size, 0, none⟩) c.nC c.nC] 114)) w.heap.size 4 39 (cells4 (.slice p0 c.nC cap0) (.slice p1 c.nT cap1) (.slice p2 c.nCh cap2) (.slice p3 c.nD cap3))) := (row4 w _ _ _ _ _).below HF.out.2.2.2.2 (by omega)
    have hK : wl.heap.size + 1 < ((wl.alloc (.cells M1 55)).alloc (.cells #[.slice none 0 0, .int .i64 0, .slice none 0 0, .pointer (some ⟨nb, 0, none⟩), .slice (some ⟨wl.heap.size, 0, none⟩) c.nC c.nC] 114)).heap.size := HF.out.2.2.1
    have hKw : w.heap.size < wl.heap.size + 1 := HF.out.2.2.2.1
    clear HF
    generalize ((wl.alloc (.cells M1 55)).alloc (.cells #[.slice none 0 0, .int .i64 0, .slice none 0 0, .pointer (some ⟨nb, 0, none⟩), .slice (some ⟨wl.heap.size, 0, none⟩) c.nC c.nC] 114)) = w0 at *
    generalize hKe : wl.heap.size + 1 = K at *
    generalize (Value.slice (some ⟨wl.heap.size, 0, none⟩) c.nC c.nC) = tr at *
    clear hKe
    rotate_left
    have HF : Hid _ := new_fin (K := wl.heap.size) (t := 114) (a := .slice none 0 0) (b := .int .i64 0) (c := .slice none 0 0) (d := .pointer (some ⟨nb, 0, none⟩)) (e := .slice (some ⟨w1.heap.size, 0, none⟩) c.nC c.nC) HBl.out (by simp) rfl
    have W0 : Hid (RowsMade w (wl.heap.size) (some ⟨nb, 0, none⟩) (.slice (some ⟨w1.heap.size, 0, none⟩) c.nC c.nC) 0 (wl.alloc (.cells #[.slice none 0 0, .int .i64 0, .slice none 0 0, .pointer (some ⟨nb, 0, none⟩), .slice (some ⟨w1.heap.size, 0, none⟩) c.nC c.nC] 114))) := ⟨_, _, HF.out.1, HF.out.2.1, World.ownsRow_nil _ _ _ _⟩
    have X0 : Hid (RowF (wl.alloc (.cells #[.slice none 0 0, .int .i64 0, .slice none 0 0, .pointer (some ⟨nb, 0, none⟩), .slice (some ⟨w1.heap.size, 0, none⟩) c.nC c.nC] 114)) w.heap.size 4 39 (cells4 (.slice p0 c.nC cap0) (.slice p1 c.nT cap1) (.slice p2 c.nCh cap2) (.slice p3 c.nD cap3))) := (row4 w _ _ _ _ _).below HF.out.2.2.2.2 (by omega)
    have hK : wl.heap.size < (wl.alloc (.cells #[.slice none 0 0, .int .i64 0, .slice none 0 0, .pointer (some ⟨nb, 0, none⟩), .slice (some ⟨w1.heap.size, 0, none⟩) c.nC c.nC] 114)).heap.size := HF.out.2.2.1
    have hKw : w.heap.size < wl.heap.size := HF.out.2.2.2.1
    clear HF
    generalize (wl.alloc (.cells #[.slice none 0 0, .int .i64 0, .slice none 0 0, .pointer (some ⟨nb, 0, none⟩), .slice (some ⟨w1.heap.size, 0, none⟩) c.nC c.nC] 114)) = w0 at *
    generalize hKe : wl.heap.size = K at *
    generalize (Value.slice (some ⟨w1.heap.size, 0, none⟩) c.nC c.nC) = tr at *
    clear hKe
    rotate_left
    all_goals
      clear hs1 HBw1 HB1 HBm HBl x0 x1 x2 x3 xl0 xl1 xl2 xl3 hm1 q7
      obtain ⟨x0, x1, x2, x3⟩ := X0.out.at4
      go_wp2_with fail
      clear x0 x1 x2 x3
      go_loopw [33] (fun i wr => ∃ k : Nat, k ≤ c.nT ∧ i = .int .i64 k ∧ K < wr.heap.size ∧ Hid (RowsMade w K (some ⟨nb, 0, none⟩) tr k wr) ∧ Hid (RowF wr w.heap.size 4 39 (cells4 (.slice p0 c.nC cap0) (.slice p1 c.nT cap1) (.slice p2 c.nCh cap2) (.slice p3 c.nD cap3)))) (fun i _ => c.nT - (intOf i).toNat)
      case atStart => exact ⟨0, Nat.zero_le _, rfl, hK, W0, X0⟩
      case round =>
        obtain ⟨k, hk, rfl, hKr, HR, HX4⟩ := hrel
        obtain ⟨v, xs, hbr, hrow, hown⟩ := HR.out
        obtain ⟨z0, z1, z2, z3, z4⟩ := hrow.at5k
        obtain ⟨x0, x1, x2, x3⟩ := HX4.out.at4
        have hxr : w.heap.size < wr.heap.size := HX4.out.lt
        have HBr : Hid (Below w.heap.size w wr) := hbr
        have HRo : Hid (RowF wr K 5 114 (kernF v (.int .i64 0) (.slice none 0 0) (.pointer (some ⟨nb, 0, none⟩)) tr)) := hrow
        have HO : Hid (wr.ownsRow (K + 1) 63 1 v k xs) := hown
        clear hbr hrow hown HR
        by_cases hlt : k < c.nT
        · obtain ⟨b, off, rfl, hc⟩ := (S1.out.below HBr.out).at (by omega)
          have c0 := hc k hlt
          clear hc
          obtain ⟨pr, capr, hF, -, -, zr, br, sr⟩ := K1.out k hlt
          rw [hF] at c0
          have SR : Hid (Sl w pr (c.nRow k * 2) (fun j => .int .i64 (c.row k j))) := sr
          have BR : Hid (16 * c.nRow k ≤ 140737488355328) := br
          have ZR : Hid (pr = none → c.nRow k = 0 ∧ capr = 0) := zr
          clear hF sr br zr
          go_wp2_with fail
          go_region_law
            (first
              | (refine step_call_go1 rfl 43 _ _ rfl _ rfl Try.f43 Try.func43 nameCloneWin bodyCloneWin (fun r w' => ∃ q cc, r = .slice q (c.nRow k) cc ∧ Below wr.heap.size wr w') ?_ ?_
                 · exact (cloneWin_any pr (c.nRow k) capr (c.row k) wr.drew (SR.out.below HBr.out.drew) ZR.out BR.out).mono (fun e w' ⟨q, cc, h1, h2, _⟩ => ⟨_, h1, q, cc, rfl, ⟨h2.os, h2.tape, h2.output, h2.size, h2.block⟩⟩)
                 rintro r wl ⟨q, cc, rfl, hbl⟩
                 have HBl : Hid (Below wr.heap.size wr wl) := hbl
                 have hsl : wr.heap.size ≤ wl.heap.size := hbl.size
                 have q0 := (HBl.out.cell (p := ⟨K, 0, none⟩) hKr).trans z0
                 have q0a : (wl.alloc (.cells #[.slice q (c.nRow k) cc] 63)).cell? ⟨K, 0, none⟩ = some v := ((HBl.out.alloc hsl _).cell (p := ⟨K, 0, none⟩) hKr).trans z0
                 clear hbl)
              | (refine step_append_info rfl _ _ 35 rfl (K + 1) 63 _ 1 24 Try.underlying35 info_row rfl (by omega) v k xs rfl (own_below HO.out (HBl.out.alloc hsl _)) wl.heap.size [.slice q (c.nRow k) cc] 63 rfl rfl (by exact alloc_at rfl) (by simp [Value.oneCell']) (by simp only [maxLen]; omega) (by omega) (by simp; omega) ?_
                 intro g cap wg hown1 hgrow1 hat hlt1
                 have HOL : Hid (∀ j, j < wr.heap.size → v.ownBlock ≠ some j → wg.heap[j]? = wr.heap[j]?) := (fun j hj hne => (hgrow1.block j (by simp; omega) (fun e => hne e.symm)).trans ((heap_alloc_old _ _ (by omega)).trans (HBl.out.block j hj)))
                 have HOg : Hid (wg.ownsRow (K + 1) 63 1 (.slice (some ⟨g, 0, none⟩) (k + 1 : Nat) cap) (k + 1) (xs ++ [.slice q (c.nRow k) cc])) := hown1
                 have HSg : Hid (wr.heap.size ≤ wg.heap.size) := Nat.le_trans (Nat.le_trans hsl (by simp)) hgrow1.size
                 have HFg : Hid (wg.os = wr.os ∧ wg.tape = wr.tape ∧ wg.output = wr.output) := ⟨hgrow1.os.trans HBl.out.os, hgrow1.tape.trans HBl.out.tape, hgrow1.output.trans HBl.out.output⟩
                 have HRg : Hid (RowF wg K 5 114 (kernF v (.int .i64 0) (.slice none 0 0) (.pointer (some ⟨nb, 0, none⟩)) tr)) := HRo.out.of_heap (HOL.out K hKr (fun e => by have := (HO.out.lt K e).1; omega))
                 clear q0 q0a
                 have q0 := HRg.out.at5k.1
                 have q0f := HRg.out.frozen 0
                 clear hown1 hgrow1 hat hlt1))
          all_goals
            have HN : Hid (RowsMade w K (some ⟨nb, 0, none⟩) tr (k + 1) (wg.setCell ⟨K, 0, none⟩ (.slice (some ⟨g, 0, none⟩) (k + 1 : Nat) cap))) :=
              ⟨_, _, made_below HBr.out HSg.out HFg.out HOL.out (fun j hj => (HO.out.lt j hj).1) hKw, (HRg.out.set5k _).1, ownsRow_setCell_below HOg.out (by simp) _⟩
            have HX5 : Hid (RowF (wg.setCell ⟨K, 0, none⟩ (.slice (some ⟨g, 0, none⟩) (k + 1 : Nat) cap)) w.heap.size 4 39 (cells4 (.slice p0 c.nC cap0) (.slice (some ⟨b, off, none⟩) c.nT cap1) (.slice p2 c.nCh cap2) (.slice p3 c.nD cap3))) :=
              (HX4.out.of_heap (HOL.out _ hxr (fun e => by have := (HO.out.lt _ e).1; omega))).other _ _ (by simp; omega)
            have hK5 : K < (wg.setCell ⟨K, 0, none⟩ (.slice (some ⟨g, 0, none⟩) (k + 1 : Nat) cap)).heap.size := by rw [size_setCell]; exact HRg.out.lt
            clear q0 q0f
            go_wp2_with fail
            exact ⟨⟨k + 1, by omega, by go_num, hK5, HN, HX5⟩, by simp [intOf]; omega⟩
        · obtain rfl : k = c.nT := by omega
          clear hlt hk z0 z1 z2 z3 z4
          go_wp2_with fail
          have HOv : Hid (∃ pv mv cv, v = .slice pv mv cv) := own_slice HO.out
          have V0 : Hid (CellsMade w K (some ⟨nb, 0, none⟩) v tr 0 wr) := ⟨_, _, HBr.out, HRo.out, World.ownsRow_nil _ _ _ _⟩
          clear HO HRo HBr x0 x1 x2 x3 W0 X0 hK
          revert V0 HX4 hKr hxr
          revert wr
          intro wr0 hKr HX4 hxr V0
          go_loopw [52] (fun i wr => ∃ k : Nat, k ≤ c.nC ∧ i = .int .i64 k ∧ K < wr.heap.size ∧ Hid (CellsMade w K (some ⟨nb, 0, none⟩) v tr k wr) ∧ Hid (RowF wr w.heap.size 4 39 (cells4 (.slice p0 c.nC cap0) (.slice p1 c.nT cap1) (.slice p2 c.nCh cap2) (.slice p3 c.nD cap3)))) (fun i _ => c.nC - (intOf i).toNat)
          case atStart => exact ⟨0, Nat.zero_le _, rfl, hKr, V0, HX4⟩
          case round =>
            clear HX4 hKr hxr V0
            obtain ⟨k, hk, rfl, hKr, HR, HX4⟩ := hrel
            obtain ⟨u, xs, hbr, hrow, hown⟩ := HR.out
            obtain ⟨z0, z1, z2, z3, z4⟩ := hrow.at5k
            obtain ⟨x0, x1, x2, x3⟩ := HX4.out.at4
            have hxr : w.heap.size < wr.heap.size := HX4.out.lt
            have HBr : Hid (Below w.heap.size w wr) := hbr
            have HRo : Hid (RowF wr K 5 114 (kernF v (.int .i64 0) u (.pointer (some ⟨nb, 0, none⟩)) tr)) := hrow
            have HO : Hid (wr.ownsRow (K + 1) 124 1 u k xs) := hown
            clear hbr hrow hown HR
            by_cases hlt : k < c.nC
            · obtain ⟨b, off, rfl, hc⟩ := (S0.out.below HBr.out).at (by omega)
              have c0 := hc (k * 3) (by omega)
              have c1 := hc (k * 3 + 1) (by omega)
              have c2 := hc (k * 3 + 2) (by omega)
              rw [← Nat.add_assoc] at c1 c2
              clear hc
              obtain ⟨sc, si, hl⟩ := K0.out k hlt
              obtain ⟨pc, capc, hF, -⟩ := id sc
              obtain ⟨pi, capi, hG, -⟩ := id si
              rw [hF] at sc c0
              rw [hG] at si c1
              rw [hl] at c2
              have SC : Hid (SlZ w (.slice pc (c.nCode k) capc) (c.codeN k) (c.nCode k) 4 (c.code k) 32) := sc
              have SI : Hid (SlZ w (.slice pi (c.nImg k) capi) (c.imgN k) (c.nImg k) 1 (c.img k) 8) := si
              have H16 : Hid (c.nImg k ≤ 16) := (HOK.out.2.2 k hlt).2.1
              clear hF hG hl sc si
              go_wp2_with fail
              have HBp : Hid (Below wr.heap.size wr (wr.alloc (.cells #[.slice pc (c.nCode k) capc, .slice pi (c.nImg k) capi, .int .i64 (c.lim k)] 70))) := (Below.refl _ _).alloc (Nat.le_refl _) _
              have hsp : wr.heap.size < (wr.alloc (.cells #[.slice pc (c.nCode k) capc, .slice pi (c.nImg k) capi, .int .i64 (c.lim k)] 70)).heap.size := by simp
              obtain ⟨e0, e1, e2⟩ := (row3 wr (.slice pc (c.nCode k) capc) (.slice pi (c.nImg k) capi) (.int .i64 (c.lim k)) 70).at3
              have eK := (HBp.out.cell (p := ⟨K, 2, none⟩) hKr).trans z2
              have eN := (HBp.out.cell (p := ⟨K, 3, none⟩) hKr).trans z3
              generalize (wr.alloc (.cells #[.slice pc (c.nCode k) capc, .slice pi (c.nImg k) capi, .int .i64 (c.lim k)] 70)) = wp at *
              have hKp : K < wp.heap.size := by omega
              go_region_law
                (first
                  | (refine step_call_go3 rfl 44 _ _ _ _ _ _ rfl _ _ _ rfl rfl rfl Try.f44 Try.func44 nameCellsNew bodyCellsNew (fun r w' => ∃ kb, r = .pointer (some ⟨kb, 0, none⟩) ∧ Below wp.heap.size wp w') ?_ ?_
                     · exact (cellsNew_any _ _ _ _ _ _ _ _ _ _ (c.lim k) wp.drew (SC.out.keep (below_keep (HBr.out.trans (HBp.out.mono (by omega))).drew)) (SI.out.keep (below_keep (HBr.out.trans (HBp.out.mono (by omega))).drew)) H16.out).mono (fun e w' ⟨kb, h1, h2, _⟩ => ⟨_, h1, kb, rfl, ⟨h2.os, h2.tape, h2.output, h2.size, h2.block⟩⟩)
                     rintro r wl ⟨kb, rfl, hbl⟩
                     have HBl : Hid (Below wp.heap.size wp wl) := hbl
                     have hsl : wp.heap.size ≤ wl.heap.size := hbl.size
                     have q0 := (HBl.out.cell (p := ⟨K, 2, none⟩) hKp).trans eK
                     have q0a : (wl.alloc (.cells #[.pointer (some ⟨kb, 0, none⟩)] 124)).cell? ⟨K, 2, none⟩ = some u := ((HBl.out.alloc hsl _).cell (p := ⟨K, 2, none⟩) hKp).trans eK
                     clear hbl)
                  | (refine step_append_info rfl _ _ 111 rfl (K + 1) 124 _ 1 8 Try.underlying111 info_cp rfl (by omega) u k xs rfl (own_below (own_below HO.out HBp.out) (HBl.out.alloc hsl _)) wl.heap.size [.pointer (some ⟨kb, 0, none⟩)] 124 rfl rfl (by exact alloc_at rfl) (by simp [Value.oneCell']) (by simp only [maxLen]; omega) (by omega) (by simp; omega) ?_
                     intro g cap wg hown1 hgrow1 hat hlt1
                     have HOL : Hid (∀ j, j < wr.heap.size → u.ownBlock ≠ some j → wg.heap[j]? = wr.heap[j]?) := (fun j hj hne => (hgrow1.block j (by simp; omega) (fun e => hne e.symm)).trans ((heap_alloc_old _ _ (by omega)).trans ((HBl.out.block j (by omega)).trans (HBp.out.block j hj))))
                     have HOg : Hid (wg.ownsRow (K + 1) 124 1 (.slice (some ⟨g, 0, none⟩) (k + 1 : Nat) cap) (k + 1) (xs ++ [.pointer (some ⟨kb, 0, none⟩)])) := hown1
                     have HSg : Hid (wr.heap.size ≤ wg.heap.size) := Nat.le_trans (Nat.le_trans (by omega : wr.heap.size ≤ wl.heap.size) (by simp)) hgrow1.size
                     have HFg : Hid (wg.os = wr.os ∧ wg.tape = wr.tape ∧ wg.output = wr.output) := ⟨(hgrow1.os.trans HBl.out.os).trans HBp.out.os, (hgrow1.tape.trans HBl.out.tape).trans HBp.out.tape, (hgrow1.output.trans HBl.out.output).trans HBp.out.output⟩
                     have HRg : Hid (RowF wg K 5 114 (kernF v (.int .i64 0) u (.pointer (some ⟨nb, 0, none⟩)) tr)) := HRo.out.of_heap (HOL.out K hKr (fun e => by have := (HO.out.lt K e).1; omega))
                     clear q0 q0a
                     have q0 := HRg.out.at5k.2.2.1
                     have q0f := HRg.out.frozen 2
                     clear hown1 hgrow1 hat hlt1))
              all_goals
                have HN : Hid (CellsMade w K (some ⟨nb, 0, none⟩) v tr (k + 1) (wg.setCell ⟨K, 2, none⟩ (.slice (some ⟨g, 0, none⟩) (k + 1 : Nat) cap))) :=
                  ⟨_, _, made_below HBr.out HSg.out HFg.out HOL.out (fun j hj => (HO.out.lt j hj).1) hKw, (HRg.out.set5k _).2.2, ownsRow_setCell_below HOg.out (by simp) _⟩
                have HX5 : Hid (RowF (wg.setCell ⟨K, 2, none⟩ (.slice (some ⟨g, 0, none⟩) (k + 1 : Nat) cap)) w.heap.size 4 39 (cells4 (.slice (some ⟨b, off, none⟩) c.nC cap0) (.slice p1 c.nT cap1) (.slice p2 c.nCh cap2) (.slice p3 c.nD cap3))) :=
                  (HX4.out.of_heap (HOL.out _ hxr (fun e => by have := (HO.out.lt _ e).1; omega))).other _ _ (by simp; omega)
                have hK5 : K < (wg.setCell ⟨K, 2, none⟩ (.slice (some ⟨g, 0, none⟩) (k + 1 : Nat) cap)).heap.size := by rw [size_setCell]; exact HRg.out.lt
                clear q0 q0f
                go_wp2_with fail
                exact ⟨⟨k + 1, by omega, by go_num, hK5, HN, HX5⟩, by simp [intOf]; omega⟩
            · obtain rfl : k = c.nC := by omega
              clear hlt hk
              go_wp2_with fail
              go_ret3
              exact ⟨_, _, _, rfl, HX.out.place H0.out, HBr.out, .inr ⟨rfl, _, rfl⟩⟩
  · have hne : (x != 0) = true := by simpa using h0
    have H0 : Hid (x ≠ 0) := h0
    have HB : Hid (Below w.heap.size w w1) := box_below HB1.out
    clear h0
    go_wp2_with fail
    go_ret3
    exact ⟨_, x, y, rfl, HX.out, HB.out, .inl ⟨H0.out, rfl⟩⟩

end Go.Proofs.Ytdoghgnifkgfdaa
