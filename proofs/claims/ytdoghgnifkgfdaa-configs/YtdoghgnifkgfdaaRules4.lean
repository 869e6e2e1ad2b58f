import Derived.Test.YtdoghgnifkgfdaaCellMayBe
namespace Go.Proofs.Ytdoghgnifkgfdaa
open Go.RowKit Go.Maps

/-- The numbers of the instructions are numbers of 64 bits. -/
def CfgW (c : Cfg) : Prop := ∀ i, i < c.nC → ∀ j, j < c.nCode i * 4 → -9223372036854775808 ≤ c.code i j ∧ c.code i j ≤ 9223372036854775807

set_option maxHeartbeats 400000 in
theorem cellMayBe_any (c : Cfg) (cell b cap capc capi : Nat) (p pc pi : Option Addr) (w : World) (hu : UsersR w b c) (hs : Sl w p c.nD (fun j => .int .i64 (c.dv j))) (hb : c.nD ≤ 4)
    (hcode : Sl w pc (c.nCode cell * 4) (fun j => .int .i64 (c.code cell j))) (hcb : c.nCode cell ≤ 8796093022208) (hib : c.nImg cell ≤ 17592186044416) (hw : ∀ j, j < c.nCode cell * 4 → -9223372036854775808 ≤ c.code cell j ∧ c.code cell j ≤ 9223372036854775807) :
    Calls Try.prog 80 #[.agg #[.int .i64 cell, .int .i64 (c.nCode cell), .slice p c.nD cap, .map (some b)], .agg #[.slice pc (c.nCode cell) capc, .slice pi (c.nImg cell) capi, .int .i64 (c.lim cell)]] w (Ans (CellOk c cell) (Below w.heap.size w)) := by
  have HA : Hid (∀ o, Below w.heap.size w (w.alloc o)) := fun o => (Below.refl _ _).alloc (Nat.le_refl _) _
  have HB : Hid (∀ o o', Below w.heap.size w ((w.alloc o).alloc o')) := fun o o' => ((Below.refl _ _).alloc (Nat.le_refl _) _).alloc (by simp) _
  have HQ : Hid (∀ o' : Obj, Calls Try.prog 84 #[.slice pc (c.nCode cell) capc, .func (.func 85) #[] #[.pointer (some ⟨w.heap.size, 0, none⟩)]] ((w.alloc (.cells #[.int .i64 cell, .int .i64 (c.nCode cell), .slice p c.nD cap, .map (some b)] 184)).alloc o')
      (Ans (¬ AllOk (InsAt c cell) (c.nCode cell)) (Below ((w.alloc (.cells #[.int .i64 cell, .int .i64 (c.nCode cell), .slice p c.nD cap, .map (some b)] 184)).alloc o').heap.size ((w.alloc (.cells #[.int .i64 cell, .int .i64 (c.nCode cell), .slice p c.nD cap, .map (some b)] 184)).alloc o')))) := by
    intro o'
    refine contains_any pc (c.nCode cell) capc (c.code cell) w.heap.size (InsAt c cell) _ (hcode.below (HB.out _ _)) (by omega) (fun i hi wr hbel => ?_)
    have hb1 : Below (w.heap.size + 1) (w.alloc (.cells #[.int .i64 cell, .int .i64 (c.nCode cell), .slice p c.nD cap, .map (some b)] 184)) wr := ((Below.refl _ _).alloc (by simp) o').trans (hbel.mono (by simp))
    obtain ⟨x0, x1, x2, x3⟩ := box4 hb1
    exact insClosure_any c cell b cap w.heap.size p _ _ _ _ wr x0 x1 x2 x3 (usersR_below hu (box_below hb1)) (hs.below (box_below hb1)) hb (wfi (hw _ (by omega)).1 (hw _ (by omega)).2)
  clear hu hs hcode hw
  by_cases h1 : (0 ≤ c.lim cell ∧ c.lim cell ≤ 5) ∧ c.nImg cell ≤ 16
  case neg =>
    have HN : Hid (¬ CellOk c cell) := fun h => h1 ⟨h.1, h.2.1⟩
    go_enter Try.func80, Try.ntmps80
    go_wp2_with fail
    all_goals
      go_ret
      exact Ans.no HN.out (HB.out _ _)
  obtain ⟨⟨g1, g2⟩, g3⟩ := h1
  by_cases h2 : 1 ≤ c.nCode cell ∧ c.nCode cell ≤ 48
  case neg =>
    have HN : Hid (¬ CellOk c cell) := fun h => h2 h.2.2.1
    go_enter Try.func80, Try.ntmps80
    go_wp2_with fail
    all_goals
      go_ret
      exact Ans.no HN.out (HB.out _ _)
  obtain ⟨g4, g5⟩ := h2
  by_cases hok : AllOk (InsAt c cell) (c.nCode cell)
  · have HO : Hid (AllOk (InsAt c cell) (c.nCode cell)) := hok
    have HC : Hid (CellOk c cell) := ⟨⟨g1, g2⟩, g3, ⟨g4, g5⟩, hok⟩
    clear hok
    go_enter Try.func80, Try.ntmps80
    go_wp2_with (go_at_call 84; refine (Ans.denies (HQ.out _) (fun h => h HO.out)).mono ?_; rintro e w' ⟨rfl, hbel⟩)
    go_ret
    exact Ans.yes HC.out (below2 hbel)
  · have HO : Hid (¬ AllOk (InsAt c cell) (c.nCode cell)) := hok
    have HC : Hid (¬ CellOk c cell) := fun h => hok h.2.2.2
    clear hok
    go_enter Try.func80, Try.ntmps80
    go_wp2_with (go_at_call 84; refine (Ans.says (HQ.out _) HO.out).mono ?_; rintro e w' ⟨rfl, hbel⟩)
    go_ret
    exact Ans.no HC.out (below2 hbel)

end Go.Proofs.Ytdoghgnifkgfdaa
