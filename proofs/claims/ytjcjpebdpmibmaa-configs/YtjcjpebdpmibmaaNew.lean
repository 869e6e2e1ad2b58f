import Derived.Test.YtjcjpebdpmibmaaRules5
namespace Go.Proofs.Ytjcjpebdpmibmaa
open Go.RowKit Go.Maps

set_option maxHeartbeats 1000000 in
theorem rulesCheck_any (c : Cfg) (v0 v1 v2 v3 : Value) (w : World) (h : CfgR w v0 v1 v2 v3 c) (hw : CfgW c) :
    Calls Try.prog 19 #[.agg #[v0, v1, v2, v3]] w (Chk c w) := by
  obtain ⟨p0, cap0, F0, p1, cap1, F1, p2, cap2, p3, cap3, rfl, rfl, rfl, rfl, s0, k0, s1, k1, s2, s3, b0, b1, b2, b3⟩ := h.parts
  have hb2 : c.nCh ≤ 8796093022208 := by omega
  have hb3 : c.nD ≤ 17592186044416 := by omega
  have HR : Hid (CfgR w (.slice p0 c.nC cap0) (.slice p1 c.nT cap1) (.slice p2 c.nCh cap2) (.slice p3 c.nD cap3) c) := h
  have S1 : Hid (Sl w p1 c.nT F1) := s1
  have K1 : Hid (∀ i, i < c.nT → SlZ w (F1 i) (c.rowN i) (c.nRow i) 2 (c.row i) 16) := k1
  have S2 : Hid (Sl w p2 (c.nCh * 3) (fun j => .int .i64 (c.ch j))) := s2
  have S3 : Hid (Sl w p3 c.nD (fun j => .int .i64 (c.dv j))) := s3
  have HW0 : Hid (CfgW c) := hw
  clear h s0 k0 s1 k1 s2 s3 b2 b3 hw
  have HA : Hid (∀ o, Below w.heap.size w (w.alloc o)) := fun o => (Below.refl _ _).alloc (Nat.le_refl _) _
  by_cases n1 : NCok c
  case neg =>
    have q : c.nC < 1 ∨ 6 < c.nC := by unfold NCok at n1; omega
    have C1 : Hid (CheckIs c 1 0) := CheckIs.c1 n1
    clear n1
    rcases q with q | q
    all_goals
      go_enter Try.func19, Try.ntmps19
      go_wp2_with fail
      go_ret2
      exact Chk.mk C1.out (HA.out _)
  have q1 : 1 ≤ c.nC := n1.1
  have q1' : c.nC ≤ 6 := n1.2
  have N1 : Hid (NCok c) := n1
  clear n1
  go_enter Try.func19, Try.ntmps19
  go_wp2_with fail
  refine (faultyRow_any c p1 cap1 F1 _ (S1.out.below (HA.out _)) (fun i hi => (K1.out i hi).keep (below_keep (HA.out _))) b1).mono ?_
  rintro e w1 ⟨x, rfl, hx, hbel⟩
  have HB1 : Hid (Below (w.heap.size + 1) (w.alloc (.cells #[.slice p0 c.nC cap0, .slice p1 c.nT cap1, .slice p2 c.nCh cap2, .slice p3 c.nD cap3] 39)) w1) := hbel.mono (by simp)
  clear hbel
  rcases hx with ⟨hx1, rfl⟩ | ⟨hx1, rfl, hx2⟩ | ⟨i, hx1, rfl, hx2⟩
  · have C2 : Hid (CheckIs c 2 0) := CheckIs.c2 N1.out hx1
    clear hx1
    go_wp2_with fail
    go_ret2
    exact Chk.mk C2.out (box_below HB1.out)
  · have N2 : Hid (NTok c) := hx1
    have N3 : Hid (AllOk (RowAt c) c.nT) := hx2
    clear hx1 hx2
    obtain ⟨x0, x1, x2, x3⟩ := box4 HB1.out
    go_wp2_with fail
    refine (faultyChan_any c p2 cap2 _ (S2.out.below (box_below HB1.out)) hb2).mono ?_
    rintro e w2 ⟨x, rfl, hx, hbel⟩
    have HB2 : Hid (Below (w.heap.size + 1) (w.alloc (.cells #[.slice p0 c.nC cap0, .slice p1 c.nT cap1, .slice p2 c.nCh cap2, .slice p3 c.nD cap3] 39)) w2) := box_step HB1.out hbel
    clear hbel x0 x1 x2 x3
    rcases hx with ⟨hx1, rfl⟩ | ⟨hx1, rfl, hx2⟩ | ⟨i, hx1, rfl, hx2⟩
    · have C4 : Hid (CheckIs c 3 0) := CheckIs.c4 N1.out N2.out N3.out hx1
      clear hx1
      go_wp2_with fail
      go_ret2
      exact Chk.mk C4.out (box_below HB2.out)
    · have N5 : Hid (AllOk (ChOk c) c.nCh) := hx2
      have n4 := hx1
      clear hx1 hx2
      obtain ⟨x0, x1, x2, x3⟩ := box4 HB2.out
      go_wp2_with fail
      refine (faultyDev_any c p3 cap3 _ (S3.out.below (box_below HB2.out)) hb3).mono ?_
      rintro e w3 ⟨x, rfl, hx, hbel⟩
      have HB3 : Hid (Below (w.heap.size + 1) (w.alloc (.cells #[.slice p0 c.nC cap0, .slice p1 c.nT cap1, .slice p2 c.nCh cap2, .slice p3 c.nD cap3] 39)) w3) := box_step HB2.out hbel
      clear hbel x0 x1 x2 x3
      rcases hx with ⟨hx1, rfl⟩ | ⟨hx1, rfl, hx2⟩ | ⟨i, hx1, rfl, hx2⟩
      · have C6 : Hid (CheckIs c 4 0) := CheckIs.c6 N1.out N2.out N3.out n4 N5.out hx1
        clear hx1
        go_wp2_with fail
        go_ret2
        exact Chk.mk C6.out (box_below HB3.out)
      · have N7 : Hid (AllOk (DvOk c) c.nD) := hx2
        have n6 := hx1
        clear hx1 hx2
        obtain ⟨x0, x1, x2, x3⟩ := box4 HB3.out
        go_wp2_with fail
        refine (faultyCell_any c _ _ _ _ _ (HR.out.below (box_below HB3.out)) HW0.out q1' n4 N5.out n6).mono ?_
        rintro e w4 ⟨x, rfl, hx, hbel⟩
        have HB4 : Hid (Below (w.heap.size + 1) (w.alloc (.cells #[.slice p0 c.nC cap0, .slice p1 c.nT cap1, .slice p2 c.nCh cap2, .slice p3 c.nD cap3] 39)) w4) := box_step HB3.out hbel
        clear hbel x0 x1 x2 x3
        rcases hx with ⟨rfl, hx2⟩ | ⟨i, rfl, hx2⟩
        · have C9 : Hid (CheckIs c 0 0) := CheckIs.c9 N1.out N2.out N3.out n4 N5.out n6 N7.out hx2
          clear hx2
          go_wp2_with fail
          go_ret2
          exact Chk.mk C9.out (box_below HB4.out)
        · have C8 : Hid (CheckIs c 5 i) := CheckIs.c8 N1.out N2.out N3.out n4 N5.out n6 N7.out hx2
          have hne : ((i : Int) != -1) = true := by simp
          clear hx2
          go_wp2_with fail
          go_ret2
          exact Chk.mk C8.out (box_below HB4.out)
      · have C7 : Hid (CheckIs c 4 i) := CheckIs.c7 N1.out N2.out N3.out n4 N5.out hx1 hx2
        have hne : ((i : Int) != -1) = true := by simp
        clear hx1 hx2
        go_wp2_with fail
        go_ret2
        exact Chk.mk C7.out (box_below HB3.out)
    · have C5 : Hid (CheckIs c 3 i) := CheckIs.c5 N1.out N2.out N3.out hx1 hx2
      have hne : ((i : Int) != -1) = true := by simp
      clear hx1 hx2
      go_wp2_with fail
      go_ret2
      exact Chk.mk C5.out (box_below HB2.out)
  · have C3 : Hid (CheckIs c 2 i) := CheckIs.c3 N1.out hx1 hx2
    have hne : ((i : Int) != -1) = true := by simp
    clear hx1 hx2
    go_wp2_with fail
    go_ret2
    exact Chk.mk C3.out (box_below HB1.out)

theorem CheckIs.place {c : Cfg} {x y : Int} (h : CheckIs c x y) (h0 : x = 0) : CheckIs c 0 0 := by
  subst h0
  unfold CheckIs at h
  rcases h with h | h | ⟨_, _, i, _, h, _⟩ | h | ⟨_, _, _, _, i, _, h, _⟩ | h | ⟨_, _, _, _, _, _, i, _, h, _⟩ | ⟨_, _, _, _, _, _, _, i, _, h, _⟩ | h
  · exact absurd h.2.1 (by omega)
  · exact absurd h.2.2.1 (by omega)
  · exact absurd h (by omega)
  · exact absurd h.2.2.2.2.1 (by omega)
  · exact absurd h (by omega)
  · exact absurd h.2.2.2.2.2.2.1 (by omega)
  · exact absurd h (by omega)
  · exact absurd h (by omega)
  · exact CheckIs.c9 h.1 h.2.1 h.2.2.1 h.2.2.2.1 h.2.2.2.2.1 h.2.2.2.2.2.1 h.2.2.2.2.2.2.1 h.2.2.2.2.2.2.2.1

/-- What New answers: the number of what is wrong and its place; a kernel just where nothing is. -/
def NewSays (c : Cfg) (w : World) (e : Ending) (w' : World) : Prop :=
  ∃ k : Value, ∃ x y : Int, e = .returned (.tuple #[k, .int .i64 x, .int .i64 y]) ∧ CheckIs c x y ∧ Below w.heap.size w w' ∧ ((x ≠ 0 ∧ k = .pointer none) ∨ (x = 0 ∧ ∃ b, k = .pointer (some ⟨b, 0, none⟩)))

set_option maxHeartbeats 400000 in
theorem new_any (c : Cfg) (v0 v1 v2 v3 : Value) (w : World) (h : CfgR w v0 v1 v2 v3 c) (hw : CfgW c) :
    Calls Try.prog 8 #[.agg #[v0, v1, v2, v3]] w (NewSays c w) := by
  have HA : Hid (∀ o, Below w.heap.size w (w.alloc o)) := fun o => (Below.refl _ _).alloc (Nat.le_refl _) _
  have HC : Hid (∀ o, Calls Try.prog 19 #[.agg #[v0, v1, v2, v3]] (w.alloc o) (Chk c (w.alloc o))) := fun o => rulesCheck_any c v0 v1 v2 v3 _ (h.below (HA.out _)) hw
  clear h hw
  go_enter Try.func8, Try.ntmps8
  go_wp2_with fail
  refine (HC.out _).mono ?_
  rintro e w1 ⟨x, y, rfl, hx, hbel⟩
  have HX : Hid (CheckIs c x y) := hx
  have HB : Hid (Below w.heap.size w w1) := below1 hbel
  clear hx hbel
  by_cases h0 : x = 0
  · have hne : (x != 0) = false := by simpa using h0
    have H0 : Hid (x = 0) := h0
    clear h0
    go_wp2_with fail
    go_ret3
    exact ⟨_, _, _, rfl, HX.out.place H0.out, HB.out.alloc HB.out.size _, .inr ⟨rfl, _, rfl⟩⟩
  · have hne : (x != 0) = true := by simpa using h0
    have H0 : Hid (x ≠ 0) := h0
    clear h0
    go_wp2_with fail
    go_ret3
    exact ⟨_, x, y, rfl, HX.out, HB.out, .inl ⟨H0.out, rfl⟩⟩

end Go.Proofs.Ytjcjpebdpmibmaa
