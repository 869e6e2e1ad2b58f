import Derived.Test.YtboebikimimclaaRules5
import Derived.Test.YtboebikimimclaaCellsNew
namespace Go.Proofs.Ytboebikimimclaa
open Go.RowKit Go.Maps

set_option maxHeartbeats 1000000 in
theorem rulesCheck_any (c : Cfg) (v0 v1 v2 v3 : Value) (w : World) (h : CfgR w v0 v1 v2 v3 c) (hw : CfgW c) :
    Calls Try.prog 26 #[.agg #[v0, v1, v2, v3]] w (Chk c w) := by
  obtain ⟨p0, cap0, F0, p1, cap1, F1, p2, cap2, p3, cap3, rfl, rfl, rfl, rfl, s0, k0, s1, k1, s2, s3, b0, b1, b2, b3⟩ := h.parts
  have hb2 : c.nCh ≤ 8796093022208 := by omega
  have hb3 : c.nD ≤ 17592186044416 := by omega
  have HR : Hid (CfgR w (.slice p0 c.nC cap0) (.slice p1 c.nT cap1) (.slice p2 c.nCh cap2) (.slice p3 c.nD cap3) c) := h
  have S1 : Hid (Sl w p1 c.nT F1) := s1
  have K1 : Hid (∀ i, i < c.nT → SlZ w (F1 i) (c.rowN i) (c.nRow i) 2 (c.row i) 16) := k1
  have S2 : Hid (Sl w p2 (c.nCh * 3) (fun j => .int .i64 (c.ch j))) := s2
  have S3 : Hid (Sl w p3 c.nD (fun j => .int .i64 (c.dv j))) := s3
  have HW0 : Hid (CfgW c) := hw
  clear h s0 k0 s1 k1 s2 s3 b2 b3 hw
  have HA : Hid (∀ o, Below w.heap.size w (w.alloc o)) := fun o => (Below.refl _ _).alloc (Nat.le_refl _) _
  by_cases n1 : NCok c
  case neg =>
    have q : c.nC < 1 ∨ 6 < c.nC := by unfold NCok at n1; omega
    have C1 : Hid (CheckIs c 1 0) := CheckIs.c1 n1
    clear n1
    rcases q with q | q
    all_goals
      go_enter Try.func26, Try.ntmps26
      go_wp2_with fail
      go_ret2
      exact Chk.mk C1.out (HA.out _)
  have q1 : 1 ≤ c.nC := n1.1
  have q1' : c.nC ≤ 6 := n1.2
  have N1 : Hid (NCok c) := n1
  clear n1
  go_enter Try.func26, Try.ntmps26
  go_wp2_with fail
  refine (faultyRow_any c p1 cap1 F1 _ (S1.out.below (HA.out _)) (fun i hi => (K1.out i hi).keep (below_keep (HA.out _))) b1).mono ?_
  rintro e w1 ⟨x, rfl, hx, hbel⟩
  have HB1 : Hid (Below (w.heap.size + 1) (w.alloc (.cells #[.slice p0 c.nC cap0, .slice p1 c.nT cap1, .slice p2 c.nCh cap2, .slice p3 c.nD cap3] 39)) w1) := hbel.mono (by simp)
  clear hbel
  rcases hx with ⟨hx1, rfl⟩ | ⟨hx1, rfl, hx2⟩ | ⟨i, hx1, rfl, hx2⟩
  · have C2 : Hid (CheckIs c 2 0) := CheckIs.c2 N1.out hx1
    clear hx1
    go_wp2_with fail
    go_ret2
    exact Chk.mk C2.out (box_below HB1.out)
  · have N2 : Hid (NTok c) := hx1
    have N3 : Hid (AllOk (RowAt c) c.nT) := hx2
    clear hx1 hx2
    obtain ⟨x0, x1, x2, x3⟩ := box4 HB1.out
    go_wp2_with fail
    refine (faultyChan_any c p2 cap2 _ (S2.out.below (box_below HB1.out)) hb2).mono ?_
    rintro e w2 ⟨x, rfl, hx, hbel⟩
    have HB2 : Hid (Below (w.heap.size + 1) (w.alloc (.cells #[.slice p0 c.nC cap0, .slice p1 c.nT cap1, .slice p2 c.nCh cap2, .slice p3 c.nD cap3] 39)) w2) := box_step HB1.out hbel
    clear hbel x0 x1 x2 x3
    rcases hx with ⟨hx1, rfl⟩ | ⟨hx1, rfl, hx2⟩ | ⟨i, hx1, rfl, hx2⟩
    · have C4 : Hid (CheckIs c 3 0) := CheckIs.c4 N1.out N2.out N3.out hx1
      clear hx1
      go_wp2_with fail
      go_ret2
      exact Chk.mk C4.out (box_below HB2.out)
    · have N5 : Hid (AllOk (ChOk c) c.nCh) := hx2
      have n4 := hx1
      clear hx1 hx2
      obtain ⟨x0, x1, x2, x3⟩ := box4 HB2.out
      go_wp2_with fail
      refine (faultyDev_any c p3 cap3 _ (S3.out.below (box_below HB2.out)) hb3).mono ?_
      rintro e w3 ⟨x, rfl, hx, hbel⟩
      have HB3 : Hid (Below (w.heap.size + 1) (w.alloc (.cells #[.slice p0 c.nC cap0, .slice p1 c.nT cap1, .slice p2 c.nCh cap2, .slice p3 c.nD cap3] 39)) w3) := box_step HB2.out hbel
      clear hbel x0 x1 x2 x3
      rcases hx with ⟨hx1, rfl⟩ | ⟨hx1, rfl, hx2⟩ | ⟨i, hx1, rfl, hx2⟩
      · have C6 : Hid (CheckIs c 4 0) := CheckIs.c6 N1.out N2.out N3.out n4 N5.out hx1
        clear hx1
        go_wp2_with fail
        go_ret2
        exact Chk.mk C6.out (box_below HB3.out)
      · have N7 : Hid (AllOk (DvOk c) c.nD) := hx2
        have n6 := hx1
        clear hx1 hx2
        obtain ⟨x0, x1, x2, x3⟩ := box4 HB3.out
        go_wp2_with fail
        refine (faultyCell_any c _ _ _ _ _ (HR.out.below (box_below HB3.out)) HW0.out q1' n4 N5.out n6).mono ?_
        rintro e w4 ⟨x, rfl, hx, hbel⟩
        have HB4 : Hid (Below (w.heap.size + 1) (w.alloc (.cells #[.slice p0 c.nC cap0, .slice p1 c.nT cap1, .slice p2 c.nCh cap2, .slice p3 c.nD cap3] 39)) w4) := box_step HB3.out hbel
        clear hbel x0 x1 x2 x3
        rcases hx with ⟨rfl, hx2⟩ | ⟨i, rfl, hx2⟩
        · have C9 : Hid (CheckIs c 0 0) := CheckIs.c9 N1.out N2.out N3.out n4 N5.out n6 N7.out hx2
          clear hx2
          go_wp2_with fail
          go_ret2
          exact Chk.mk C9.out (box_below HB4.out)
        · have C8 : Hid (CheckIs c 5 i) := CheckIs.c8 N1.out N2.out N3.out n4 N5.out n6 N7.out hx2
          have hne : ((i : Int) != -1) = true := by simp
          clear hx2
          go_wp2_with fail
          go_ret2
          exact Chk.mk C8.out (box_below HB4.out)
      · have C7 : Hid (CheckIs c 4 i) := CheckIs.c7 N1.out N2.out N3.out n4 N5.out hx1 hx2
        have hne : ((i : Int) != -1) = true := by simp
        clear hx1 hx2
        go_wp2_with fail
        go_ret2
        exact Chk.mk C7.out (box_below HB3.out)
    · have C5 : Hid (CheckIs c 3 i) := CheckIs.c5 N1.out N2.out N3.out hx1 hx2
      have hne : ((i : Int) != -1) = true := by simp
      clear hx1 hx2
      go_wp2_with fail
      go_ret2
      exact Chk.mk C5.out (box_below HB2.out)
  · have C3 : Hid (CheckIs c 2 i) := CheckIs.c3 N1.out hx1 hx2
    have hne : ((i : Int) != -1) = true := by simp
    clear hx1 hx2
    go_wp2_with fail
    go_ret2
    exact Chk.mk C3.out (box_below HB1.out)

theorem CheckIs.place {c : Cfg} {x y : Int} (h : CheckIs c x y) (h0 : x = 0) : CheckIs c 0 0 := by
  subst h0
  unfold CheckIs at h
  rcases h with h | h | ⟨_, _, i, _, h, _⟩ | h | ⟨_, _, _, _, i, _, h, _⟩ | h | ⟨_, _, _, _, _, _, i, _, h, _⟩ | ⟨_, _, _, _, _, _, _, i, _, h, _⟩ | h
  · exact absurd h.2.1 (by omega)
  · exact absurd h.2.2.1 (by omega)
  · exact absurd h (by omega)
  · exact absurd h.2.2.2.2.1 (by omega)
  · exact absurd h (by omega)
  · exact absurd h.2.2.2.2.2.2.1 (by omega)
  · exact absurd h (by omega)
  · exact absurd h (by omega)
  · exact CheckIs.c9 h.1 h.2.1 h.2.2.1 h.2.2.2.1 h.2.2.2.2.1 h.2.2.2.2.2.1 h.2.2.2.2.2.2.1 h.2.2.2.2.2.2.2.1

/-- What New answers: the number of what is wrong and its place; a kernel just where nothing is. -/
def NewSays (c : Cfg) (w : World) (e : Ending) (w' : World) : Prop :=
  ∃ k : Value, ∃ x y : Int, e = .returned (.tuple #[k, .int .i64 x, .int .i64 y]) ∧ CheckIs c x y ∧ Below w.heap.size w w' ∧ ((x ≠ 0 ∧ k = .pointer none) ∨ (x = 0 ∧ ∃ b, k = .pointer (some ⟨b, 0, none⟩)))

theorem info_ev : (Try.prog.info? 104).map (fun i => (i.zero, i.size, i.bytes)) = some (some (.slice none 0 0), 1, 24) := by kernel_rfl
theorem info_cp : (Try.prog.info? 85).map (fun i => (i.zero, i.size, i.bytes)) = some (some (.pointer none), 1, 8) := by kernel_rfl
theorem nameCloneWin : (Try.f27.name == "runtime.NumGoroutine") = false := by kernel_rfl
theorem bodyCloneWin : Try.f27.body.isNone = false := by kernel_rfl
theorem nameCellsNew : (Try.f28.name == "runtime.NumGoroutine") = false := by kernel_rfl
theorem bodyCellsNew : Try.f28.body.isNone = false := by kernel_rfl

theorem CheckIs.sizes {c : Cfg} (h : CheckIs c 0 0) : NCok c ∧ NTok c ∧ AllOk (CellOk c) c.nC := by
  unfold CheckIs at h
  rcases h with h | h | ⟨_, _, i, _, h, _⟩ | h | ⟨_, _, _, _, i, _, h, _⟩ | h | ⟨_, _, _, _, _, _, i, _, h, _⟩ | ⟨_, _, _, _, _, _, _, i, _, h, _⟩ | h
  · exact absurd h.2.1 (by omega)
  · exact absurd h.2.2.1 (by omega)
  · exact absurd h (by omega)
  · exact absurd h.2.2.2.2.1 (by omega)
  · exact absurd h (by omega)
  · exact absurd h.2.2.2.2.2.2.1 (by omega)
  · exact absurd h (by omega)
  · exact absurd h (by omega)
  · exact ⟨h.1, h.2.1, h.2.2.2.2.2.2.2.1⟩

/-- The kernel under way: k rows, then k cells. -/
def RowsMade (w : World) (K : Nat) (tr : Value) (k : Nat) (wr : World) : Prop :=
  ∃ v xs, Below w.heap.size w wr ∧ RowF wr K 4 84 (cells4 v (.int .i64 0) (.slice none 0 0) tr) ∧ wr.ownsRow (K + 1) 70 1 v k xs
def CellsMade (w : World) (K : Nat) (v tr : Value) (k : Nat) (wr : World) : Prop :=
  ∃ u xs, Below w.heap.size w wr ∧ RowF wr K 4 84 (cells4 v (.int .i64 0) u tr) ∧ wr.ownsRow (K + 1) 85 1 u k xs

/-- What an append and a store into the kernel leave as it was. -/
theorem made_below {w wr wg : World} {K i : Nat} {v x : Value} (hb : Below w.heap.size w wr) (hs : wr.heap.size ≤ wg.heap.size) (hf : wg.os = wr.os ∧ wg.tape = wr.tape ∧ wg.output = wr.output)
    (hol : ∀ j, j < wr.heap.size → v.ownBlock ≠ some j → wg.heap[j]? = wr.heap[j]?) (hlo : ∀ j, v.ownBlock = some j → K + 1 ≤ j) (hK : w.heap.size < K) : Below w.heap.size w (wg.setCell ⟨K, i, none⟩ x) := by
  refine Below.setCell ⟨hf.1.trans hb.os, hf.2.1.trans hb.tape, hf.2.2.trans hb.output, Nat.le_trans hb.size hs, fun j hj => ?_⟩ (by show w.heap.size ≤ K; omega) _
  exact (hol j (Nat.lt_of_lt_of_le hj hb.size) (fun e => by have := hlo j e; omega)).trans (hb.block j hj)

set_option maxRecDepth 100000 in
set_option maxHeartbeats 4000000 in
theorem new_any (c : Cfg) (v0 v1 v2 v3 : Value) (w : World) (h : CfgR w v0 v1 v2 v3 c) (hw : CfgW c) :
    Calls Try.prog 11 #[.agg #[v0, v1, v2, v3]] w (NewSays c w) := by
  have HA : Hid (∀ o, Below w.heap.size w (w.alloc o)) := fun o => (Below.refl _ _).alloc (Nat.le_refl _) _
  have HC : Hid (∀ o, Calls Try.prog 26 #[.agg #[v0, v1, v2, v3]] (w.alloc o) (Chk c (w.alloc o))) := fun o => rulesCheck_any c v0 v1 v2 v3 _ (h.below (HA.out _)) hw
  obtain ⟨p0, cap0, F0, p1, cap1, F1, p2, cap2, p3, cap3, rfl, rfl, rfl, rfl, s0, k0, s1, k1, -, -, b0, b1, b2, b3⟩ := h.parts
  have S0 : Hid (Sl w p0 (c.nC * 3) F0) := s0
  have K0 : Hid (∀ i, i < c.nC → _) := k0
  have S1 : Hid (Sl w p1 c.nT F1) := s1
  have K1 : Hid (∀ i, i < c.nT → SlZ w (F1 i) (c.rowN i) (c.nRow i) 2 (c.row i) 16) := k1
  clear h hw s0 k0 s1 k1 b0 b1 b2 b3
  go_enter Try.func11, Try.ntmps11
  go_wp2_with fail
  refine (HC.out _).mono ?_
  rintro e w1 ⟨x, y, rfl, hx, hbel⟩
  have HX : Hid (CheckIs c x y) := hx
  have HB1 : Hid (Below (w.heap.size + 1) (w.alloc (.cells #[.slice p0 c.nC cap0, .slice p1 c.nT cap1, .slice p2 c.nCh cap2, .slice p3 c.nD cap3] 39)) w1) := hbel.mono (by simp)
  clear hx hbel
  by_cases h0 : x = 0
  · have hne : (x != 0) = false := by simpa using h0
    have H0 : Hid (x = 0) := h0
    have HOK : Hid (NCok c ∧ NTok c ∧ AllOk (CellOk c) c.nC) := (HX.out.place h0).sizes
    have q6 : c.nC ≤ 6 := HOK.out.1.2
    have q8 : c.nT ≤ 8 := HOK.out.2.1.2
    obtain ⟨M1, hM1, hm1⟩ := make_run (P := Try.prog) 26 104 _ 1 24 c.nC Try.underlying26 info_ev (by omega) (by omega)
    obtain ⟨x0, x1, x2, x3⟩ := box4 HB1.out
    have hs1 : w.heap.size < w1.heap.size := by have := HB1.out.size; simp at this; omega
    have HBw1 : Hid (Below w.heap.size w w1) := box_below HB1.out
    clear h0 hM1
    go_wp2_with fail
    have W0 : Hid (RowsMade w (w1.heap.size + 1) (.slice (some ⟨w1.heap.size, 0, none⟩) c.nC c.nC) 0 ((w1.alloc (.cells M1 104)).alloc (.cells #[.slice none 0 0, .int .i64 0, .slice none 0 0, .slice (some ⟨w1.heap.size, 0, none⟩) c.nC c.nC] 84))) :=
      ⟨_, _, (HBw1.out.alloc (by omega) _).alloc (by simp; omega) _, by simpa using row4 (w1.alloc (.cells M1 104)) _ _ _ _ _, World.ownsRow_nil _ _ _ _⟩
    have X0 : Hid (RowF ((w1.alloc (.cells M1 104)).alloc (.cells #[.slice none 0 0, .int .i64 0, .slice none 0 0, .slice (some ⟨w1.heap.size, 0, none⟩) c.nC c.nC] 84)) w.heap.size 4 39 (cells4 (.slice p0 c.nC cap0) (.slice p1 c.nT cap1) (.slice p2 c.nCh cap2) (.slice p3 c.nD cap3))) :=
      (((row4 w _ _ _ _ _).below HB1.out (by omega)).alloc _).alloc _
    have hK : w1.heap.size + 1 < ((w1.alloc (.cells M1 104)).alloc (.cells #[.slice none 0 0, .int .i64 0, .slice none 0 0, .slice (some ⟨w1.heap.size, 0, none⟩) c.nC c.nC] 84)).heap.size := by simp
    clear x0 x1 x2 x3 hm1
    generalize ((w1.alloc (.cells M1 104)).alloc (.cells #[.slice none 0 0, .int .i64 0, .slice none 0 0, .slice (some ⟨w1.heap.size, 0, none⟩) c.nC c.nC] 84)) = w0 at *
    have hKw : w.heap.size < w1.heap.size + 1 := by omega
    generalize w1.heap.size + 1 = K at *
    generalize (Value.slice (some ⟨w1.heap.size, 0, none⟩) c.nC c.nC) = tr at *
    clear hs1 HBw1 HB1
    go_loopw [30] (fun i wr => ∃ k : Nat, k ≤ c.nT ∧ i = .int .i64 k ∧ K < wr.heap.size ∧ Hid (RowsMade w K tr k wr) ∧ Hid (RowF wr w.heap.size 4 39 (cells4 (.slice p0 c.nC cap0) (.slice p1 c.nT cap1) (.slice p2 c.nCh cap2) (.slice p3 c.nD cap3)))) (fun i _ => c.nT - (intOf i).toNat)
    case atStart => exact ⟨0, Nat.zero_le _, rfl, hK, W0, X0⟩
    case round =>
      obtain ⟨k, hk, rfl, hKr, HR, HX4⟩ := hrel
      obtain ⟨v, xs, hbr, hrow, hown⟩ := HR.out
      obtain ⟨z0, z1, z2, z3⟩ := hrow.at4
      obtain ⟨x0, x1, x2, x3⟩ := HX4.out.at4
      have hxr : w.heap.size < wr.heap.size := HX4.out.lt
      have HBr : Hid (Below w.heap.size w wr) := hbr
      have HRo : Hid (RowF wr K 4 84 (cells4 v (.int .i64 0) (.slice none 0 0) tr)) := hrow
      have HO : Hid (wr.ownsRow (K + 1) 70 1 v k xs) := hown
      clear hbr hrow hown HR
      by_cases hlt : k < c.nT
      · obtain ⟨b, off, rfl, hc⟩ := (S1.out.below HBr.out).at (by omega)
        have c0 := hc k hlt
        clear hc
        obtain ⟨pr, capr, hF, -, -, zr, br, sr⟩ := K1.out k hlt
        rw [hF] at c0
        have SR : Hid (Sl w pr (c.nRow k * 2) (fun j => .int .i64 (c.row k j))) := sr
        have BR : Hid (16 * c.nRow k ≤ 140737488355328) := br
        have ZR : Hid (pr = none → c.nRow k = 0 ∧ capr = 0) := zr
        clear hF sr br zr
        go_wp2_with fail
        go_region_law
          (first
            | (refine step_call_go1 rfl 27 _ _ rfl _ rfl Try.f27 Try.func27 nameCloneWin bodyCloneWin (fun r w' => ∃ q cc, r = .slice q (c.nRow k) cc ∧ Below wr.heap.size wr w') ?_ ?_
               · exact (cloneWin_any pr (c.nRow k) capr (c.row k) wr.drew (SR.out.below HBr.out.drew) ZR.out BR.out).mono (fun e w' ⟨q, cc, h1, h2, _⟩ => ⟨_, h1, q, cc, rfl, ⟨h2.os, h2.tape, h2.output, h2.size, h2.block⟩⟩)
               rintro r wl ⟨q, cc, rfl, hbl⟩
               have HBl : Hid (Below wr.heap.size wr wl) := hbl
               have hsl : wr.heap.size ≤ wl.heap.size := hbl.size
               have q0 := (HBl.out.cell (p := ⟨K, 0, none⟩) hKr).trans z0
               have q0a : (wl.alloc (.cells #[.slice q (c.nRow k) cc] 70)).cell? ⟨K, 0, none⟩ = some v := ((HBl.out.alloc hsl _).cell (p := ⟨K, 0, none⟩) hKr).trans z0
               clear hbl)
            | (refine step_append_info rfl _ _ 35 rfl (K + 1) 70 _ 1 24 Try.underlying35 info_row rfl (by omega) v k xs rfl (own_below HO.out (HBl.out.alloc hsl _)) wl.heap.size [.slice q (c.nRow k) cc] 70 rfl rfl (by exact alloc_at rfl) (by simp [Value.oneCell']) (by simp only [maxLen]; omega) (by omega) (by simp; omega) ?_
               intro g cap wg hown1 hgrow1 hat hlt1
               have HOL : Hid (∀ j, j < wr.heap.size → v.ownBlock ≠ some j → wg.heap[j]? = wr.heap[j]?) := (fun j hj hne => (hgrow1.block j (by simp; omega) (fun e => hne e.symm)).trans ((heap_alloc_old _ _ (by omega)).trans (HBl.out.block j hj)))
               have HOg : Hid (wg.ownsRow (K + 1) 70 1 (.slice (some ⟨g, 0, none⟩) (k + 1 : Nat) cap) (k + 1) (xs ++ [.slice q (c.nRow k) cc])) := hown1
               have HSg : Hid (wr.heap.size ≤ wg.heap.size) := Nat.le_trans (Nat.le_trans hsl (by simp)) hgrow1.size
               have HFg : Hid (wg.os = wr.os ∧ wg.tape = wr.tape ∧ wg.output = wr.output) := ⟨hgrow1.os.trans HBl.out.os, hgrow1.tape.trans HBl.out.tape, hgrow1.output.trans HBl.out.output⟩
               have HRg : Hid (RowF wg K 4 84 (cells4 v (.int .i64 0) (.slice none 0 0) tr)) := HRo.out.of_heap (HOL.out K hKr (fun e => by have := (HO.out.lt K e).1; omega))
               clear q0 q0a
               have q0 := HRg.out.at4.1
               have q0f := HRg.out.frozen 0
               clear hown1 hgrow1 hat hlt1))
        all_goals
          have HN : Hid (RowsMade w K tr (k + 1) (wg.setCell ⟨K, 0, none⟩ (.slice (some ⟨g, 0, none⟩) (k + 1 : Nat) cap))) :=
            ⟨_, _, made_below HBr.out HSg.out HFg.out HOL.out (fun j hj => (HO.out.lt j hj).1) hKw, (HRg.out.set4 _).1, ownsRow_setCell_below HOg.out (by simp) _⟩
          have HX5 : Hid (RowF (wg.setCell ⟨K, 0, none⟩ (.slice (some ⟨g, 0, none⟩) (k + 1 : Nat) cap)) w.heap.size 4 39 (cells4 (.slice p0 c.nC cap0) (.slice (some ⟨b, off, none⟩) c.nT cap1) (.slice p2 c.nCh cap2) (.slice p3 c.nD cap3))) :=
            (HX4.out.of_heap (HOL.out _ hxr (fun e => by have := (HO.out.lt _ e).1; omega))).other _ _ (by simp; omega)
          have hK5 : K < (wg.setCell ⟨K, 0, none⟩ (.slice (some ⟨g, 0, none⟩) (k + 1 : Nat) cap)).heap.size := by rw [size_setCell]; exact HRg.out.lt
          clear q0 q0f
          go_wp2_with fail
          exact ⟨⟨k + 1, by omega, by go_num, hK5, HN, HX5⟩, by simp [intOf]; omega⟩
      · obtain rfl : k = c.nT := by omega
        clear hlt hk z0 z1 z2 z3
        go_wp2_with fail
        have HOv : Hid (∃ pv mv cv, v = .slice pv mv cv) := own_slice HO.out
        have V0 : Hid (CellsMade w K v tr 0 wr) := ⟨_, _, HBr.out, HRo.out, World.ownsRow_nil _ _ _ _⟩
        clear HO HRo HBr x0 x1 x2 x3 W0 X0 hK
        revert V0 HX4 hKr hxr
        revert wr
        intro wr0 hKr HX4 hxr V0
        go_loopw [49] (fun i wr => ∃ k : Nat, k ≤ c.nC ∧ i = .int .i64 k ∧ K < wr.heap.size ∧ Hid (CellsMade w K v tr k wr) ∧ Hid (RowF wr w.heap.size 4 39 (cells4 (.slice p0 c.nC cap0) (.slice p1 c.nT cap1) (.slice p2 c.nCh cap2) (.slice p3 c.nD cap3)))) (fun i _ => c.nC - (intOf i).toNat)
        case atStart => exact ⟨0, Nat.zero_le _, rfl, hKr, V0, HX4⟩
        case round =>
          clear HX4 hKr hxr V0
          obtain ⟨k, hk, rfl, hKr, HR, HX4⟩ := hrel
          obtain ⟨u, xs, hbr, hrow, hown⟩ := HR.out
          obtain ⟨z0, z1, z2, z3⟩ := hrow.at4
          obtain ⟨x0, x1, x2, x3⟩ := HX4.out.at4
          have hxr : w.heap.size < wr.heap.size := HX4.out.lt
          have HBr : Hid (Below w.heap.size w wr) := hbr
          have HRo : Hid (RowF wr K 4 84 (cells4 v (.int .i64 0) u tr)) := hrow
          have HO : Hid (wr.ownsRow (K + 1) 85 1 u k xs) := hown
          clear hbr hrow hown HR
          by_cases hlt : k < c.nC
          · obtain ⟨b, off, rfl, hc⟩ := (S0.out.below HBr.out).at (by omega)
            have c0 := hc (k * 3) (by omega)
            have c1 := hc (k * 3 + 1) (by omega)
            have c2 := hc (k * 3 + 2) (by omega)
            rw [← Nat.add_assoc] at c1 c2
            clear hc
            obtain ⟨sc, si, hl⟩ := K0.out k hlt
            obtain ⟨pc, capc, hF, -⟩ := id sc
            obtain ⟨pi, capi, hG, -⟩ := id si
            rw [hF] at sc c0
            rw [hG] at si c1
            rw [hl] at c2
            have SC : Hid (SlZ w (.slice pc (c.nCode k) capc) (c.codeN k) (c.nCode k) 4 (c.code k) 32) := sc
            have SI : Hid (SlZ w (.slice pi (c.nImg k) capi) (c.imgN k) (c.nImg k) 1 (c.img k) 8) := si
            have H16 : Hid (c.nImg k ≤ 16) := (HOK.out.2.2 k hlt).2.1
            clear hF hG hl sc si
            go_wp2_with fail
            have HBp : Hid (Below wr.heap.size wr (wr.alloc (.cells #[.slice pc (c.nCode k) capc, .slice pi (c.nImg k) capi, .int .i64 (c.lim k)] 67))) := (Below.refl _ _).alloc (Nat.le_refl _) _
            have hsp : wr.heap.size < (wr.alloc (.cells #[.slice pc (c.nCode k) capc, .slice pi (c.nImg k) capi, .int .i64 (c.lim k)] 67)).heap.size := by simp
            obtain ⟨e0, e1, e2⟩ := (row3 wr (.slice pc (c.nCode k) capc) (.slice pi (c.nImg k) capi) (.int .i64 (c.lim k)) 67).at3
            have eK := (HBp.out.cell (p := ⟨K, 2, none⟩) hKr).trans z2
            generalize (wr.alloc (.cells #[.slice pc (c.nCode k) capc, .slice pi (c.nImg k) capi, .int .i64 (c.lim k)] 67)) = wp at *
            have hKp : K < wp.heap.size := by omega
            go_region_law
              (first
                | (refine step_call_go1 rfl 28 _ _ rfl _ rfl Try.f28 Try.func28 nameCellsNew bodyCellsNew (fun r w' => ∃ kb, r = .pointer (some ⟨kb, 0, none⟩) ∧ Below wp.heap.size wp w') ?_ ?_
                   · exact (cellsNew_any _ _ _ _ _ _ _ _ (c.lim k) wp.drew (SC.out.keep (below_keep (HBr.out.trans (HBp.out.mono (by omega))).drew)) (SI.out.keep (below_keep (HBr.out.trans (HBp.out.mono (by omega))).drew)) H16.out).mono (fun e w' ⟨kb, h1, h2⟩ => ⟨_, h1, kb, rfl, ⟨h2.os, h2.tape, h2.output, h2.size, h2.block⟩⟩)
                   rintro r wl ⟨kb, rfl, hbl⟩
                   have HBl : Hid (Below wp.heap.size wp wl) := hbl
                   have hsl : wp.heap.size ≤ wl.heap.size := hbl.size
                   have q0 := (HBl.out.cell (p := ⟨K, 2, none⟩) hKp).trans eK
                   have q0a : (wl.alloc (.cells #[.pointer (some ⟨kb, 0, none⟩)] 85)).cell? ⟨K, 2, none⟩ = some u := ((HBl.out.alloc hsl _).cell (p := ⟨K, 2, none⟩) hKp).trans eK
                   clear hbl)
                | (refine step_append_info rfl _ _ 82 rfl (K + 1) 85 _ 1 8 Try.underlying82 info_cp rfl (by omega) u k xs rfl (own_below (own_below HO.out HBp.out) (HBl.out.alloc hsl _)) wl.heap.size [.pointer (some ⟨kb, 0, none⟩)] 85 rfl rfl (by exact alloc_at rfl) (by simp [Value.oneCell']) (by simp only [maxLen]; omega) (by omega) (by simp; omega) ?_
                   intro g cap wg hown1 hgrow1 hat hlt1
                   have HOL : Hid (∀ j, j < wr.heap.size → u.ownBlock ≠ some j → wg.heap[j]? = wr.heap[j]?) := (fun j hj hne => (hgrow1.block j (by simp; omega) (fun e => hne e.symm)).trans ((heap_alloc_old _ _ (by omega)).trans ((HBl.out.block j (by omega)).trans (HBp.out.block j hj))))
                   have HOg : Hid (wg.ownsRow (K + 1) 85 1 (.slice (some ⟨g, 0, none⟩) (k + 1 : Nat) cap) (k + 1) (xs ++ [.pointer (some ⟨kb, 0, none⟩)])) := hown1
                   have HSg : Hid (wr.heap.size ≤ wg.heap.size) := Nat.le_trans (Nat.le_trans (by omega : wr.heap.size ≤ wl.heap.size) (by simp)) hgrow1.size
                   have HFg : Hid (wg.os = wr.os ∧ wg.tape = wr.tape ∧ wg.output = wr.output) := ⟨(hgrow1.os.trans HBl.out.os).trans HBp.out.os, (hgrow1.tape.trans HBl.out.tape).trans HBp.out.tape, (hgrow1.output.trans HBl.out.output).trans HBp.out.output⟩
                   have HRg : Hid (RowF wg K 4 84 (cells4 v (.int .i64 0) u tr)) := HRo.out.of_heap (HOL.out K hKr (fun e => by have := (HO.out.lt K e).1; omega))
                   clear q0 q0a
                   have q0 := HRg.out.at4.2.2.1
                   have q0f := HRg.out.frozen 2
                   clear hown1 hgrow1 hat hlt1))
            all_goals
              have HN : Hid (CellsMade w K v tr (k + 1) (wg.setCell ⟨K, 2, none⟩ (.slice (some ⟨g, 0, none⟩) (k + 1 : Nat) cap))) :=
                ⟨_, _, made_below HBr.out HSg.out HFg.out HOL.out (fun j hj => (HO.out.lt j hj).1) hKw, (HRg.out.set4 _).2.2.1, ownsRow_setCell_below HOg.out (by simp) _⟩
              have HX5 : Hid (RowF (wg.setCell ⟨K, 2, none⟩ (.slice (some ⟨g, 0, none⟩) (k + 1 : Nat) cap)) w.heap.size 4 39 (cells4 (.slice (some ⟨b, off, none⟩) c.nC cap0) (.slice p1 c.nT cap1) (.slice p2 c.nCh cap2) (.slice p3 c.nD cap3))) :=
                (HX4.out.of_heap (HOL.out _ hxr (fun e => by have := (HO.out.lt _ e).1; omega))).other _ _ (by simp; omega)
              have hK5 : K < (wg.setCell ⟨K, 2, none⟩ (.slice (some ⟨g, 0, none⟩) (k + 1 : Nat) cap)).heap.size := by rw [size_setCell]; exact HRg.out.lt
              clear q0 q0f
              go_wp2_with fail
              exact ⟨⟨k + 1, by omega, by go_num, hK5, HN, HX5⟩, by simp [intOf]; omega⟩
          · obtain rfl : k = c.nC := by omega
            clear hlt hk
            go_wp2_with fail
            go_ret3
            exact ⟨_, _, _, rfl, HX.out.place H0.out, HBr.out, .inr ⟨rfl, _, rfl⟩⟩
  · have hne : (x != 0) = true := by simpa using h0
    have H0 : Hid (x ≠ 0) := h0
    have HB : Hid (Below w.heap.size w w1) := box_below HB1.out
    clear h0
    go_wp2_with fail
    go_ret3
    exact ⟨_, x, y, rfl, HX.out, HB.out, .inl ⟨H0.out, rfl⟩⟩

end Go.Proofs.Ytboebikimimclaa
