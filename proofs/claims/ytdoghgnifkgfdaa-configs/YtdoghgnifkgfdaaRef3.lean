import Derived.Test.YtdoghgnifkgfdaaRef2
import Derived.WalkSmall
namespace Go.Proofs.Ytdoghgnifkgfdaa
open Go.RowKit

set_option maxHeartbeats 400000 in
theorem ins_8 (v1 v2 v3 : Value) (b0 off0 nC cap0 cell nc capc : Nat) (pc : Option Addr) (r a n : Int) (w : World) (h2 : 0 ≤ r) (h3 : r < 4) (h4 : 0 ≤ a) (h5 : a < 4) (hlt : cell < nC)
    (hc : w.cell? ⟨b0, off0 + cell * 3, none⟩ = some (.slice pc nc capc)) :
    Calls Try.prog 46 #[.agg #[.slice (some ⟨b0, off0, none⟩) nC cap0, v1, v2, v3], .int .i64 cell, .agg #[.int .i64 8, .int .i64 r, .int .i64 a, .int .i64 n]] w (Ans (0 ≤ n ∧ n < nc) (Below w.heap.size w)) := by
  have HB : Hid (∀ o o', Below w.heap.size w ((w.alloc o).alloc o')) := fun o o' => ((Below.refl _ _).alloc (Nat.le_refl _) _).alloc (by simp) _
  have hb0 : b0 < w.heap.size := block_lt_of_cell hc
  by_cases h0 : 0 ≤ n
  · have hd : decide (0 ≤ n) = true := by simpa using h0
    go_enter Try.func46, Try.ntmps46
    go_wp2
    go_quiet (fail)
    go_wp2
    go_ret
    exact Ans.of (b := decide (n < (nc : Int))) (by simp only [decide_eq_true_eq]; omega) (below_drewN (HB.out _ _) _)
  · have hd : decide (0 ≤ n) = false := by simpa using h0
    go_enter Try.func46, Try.ntmps46
    go_wp2
    go_quiet (fail)
    go_wp2
    go_ret
    exact Ans.no (by omega) (below_drewN (HB.out _ _) _)

set_option maxHeartbeats 400000 in
theorem ins_9 (v1 v2 v3 : Value) (b0 off0 nC cap0 cell nc capc : Nat) (pc : Option Addr) (r a n : Int) (w : World) (h2 : 0 ≤ r) (h3 : r < 4) (h4 : 0 ≤ a) (h5 : a < 4) (hlt : cell < nC)
    (hc : w.cell? ⟨b0, off0 + cell * 3, none⟩ = some (.slice pc nc capc)) :
    Calls Try.prog 46 #[.agg #[.slice (some ⟨b0, off0, none⟩) nC cap0, v1, v2, v3], .int .i64 cell, .agg #[.int .i64 9, .int .i64 r, .int .i64 a, .int .i64 n]] w (Ans (0 ≤ n ∧ n < nc) (Below w.heap.size w)) := by
  have HB : Hid (∀ o o', Below w.heap.size w ((w.alloc o).alloc o')) := fun o o' => ((Below.refl _ _).alloc (Nat.le_refl _) _).alloc (by simp) _
  have hb0 : b0 < w.heap.size := block_lt_of_cell hc
  by_cases h0 : 0 ≤ n
  · have hd : decide (0 ≤ n) = true := by simpa using h0
    go_enter Try.func46, Try.ntmps46
    go_wp2
    go_quiet (fail)
    go_wp2
    go_ret
    exact Ans.of (b := decide (n < (nc : Int))) (by simp only [decide_eq_true_eq]; omega) (below_drewN (HB.out _ _) _)
  · have hd : decide (0 ≤ n) = false := by simpa using h0
    go_enter Try.func46, Try.ntmps46
    go_wp2
    go_quiet (fail)
    go_wp2
    go_ret
    exact Ans.no (by omega) (below_drewN (HB.out _ _) _)

set_option maxHeartbeats 400000 in
theorem ins_14 (c : Cfg) (v0 v1 v2 : Value) (p : Option Addr) (cap : Nat) (cell r a n : Int) (w : World) (h2 : 0 ≤ r) (h3 : r < 4) (h4 : 0 ≤ a) (h5 : a < 4) (hs : Sl w p c.nD (fun j => .int .i64 (c.dv j))) (hb : 8 * c.nD ≤ 140737488355328) :
    Calls Try.prog 46 #[.agg #[v0, v1, v2, .slice p c.nD cap], .int .i64 cell, .agg #[.int .i64 14, .int .i64 r, .int .i64 a, .int .i64 n]] w (Ans (0 ≤ n ∧ n < c.nD ∧ c.dv n.toNat = cell) (Below w.heap.size w)) := by
  have hB : c.nD ≤ 17592186044416 := by omega
  have HB : Hid (∀ o o', Below w.heap.size w ((w.alloc o).alloc o')) := fun o o' => ((Below.refl _ _).alloc (Nat.le_refl _) _).alloc (by simp) _
  have HS : Hid (Sl w p c.nD (fun j => .int .i64 (c.dv j))) := hs
  clear hs hb
  by_cases h0 : n < 0
  · go_enter Try.func46, Try.ntmps46
    go_wp2
    go_ret
    exact Ans.no (by omega) (HB.out _ _)
  · by_cases h1 : (c.nD : Int) ≤ n
    · go_enter Try.func46, Try.ntmps46
      go_wp2
      go_ret
      exact Ans.no (by omega) (HB.out _ _)
    · obtain ⟨m, rfl⟩ := Int.eq_ofNat_of_zero_le (a := n) (by omega)
      obtain ⟨b, off, rfl, hc⟩ := HS.out.at (by omega)
      have c0 := hc m (by omega)
      have hlt : b < w.heap.size := block_lt_of_cell c0
      clear hc
      have hm : (m : Int) < c.nD := by omega
      rw [Int.toNat_natCast]
      generalize c.dv m = x at *
      go_enter Try.func46, Try.ntmps46
      go_wp2
      go_ret
      exact Ans.of (b := (x == cell)) (by simp only [beq_iff_eq]) (HB.out _ _)

theorem Ans.iff {P P' : Prop} {W : World → Prop} {e : Ending} {w' : World} (h : Ans P W e w') (hp : P ↔ P') : Ans P' W e w' := by
  obtain ⟨b, h1, h2, h3⟩ := h
  exact ⟨b, h1, h2.trans hp, h3⟩

theorem instruction_any (c : Cfg) (v1 : Value) (b0 off0 cap0 cell capc cap2 cap3 : Nat) (pc p2 p3 : Option Addr) (op r a n : Int) (w : World) (hlt : cell < c.nC)
    (hc : w.cell? ⟨b0, off0 + cell * 3, none⟩ = some (.slice pc (c.nCode cell) capc)) (hs2 : Sl w p2 (c.nCh * 3) (fun j => .int .i64 (c.ch j))) (hb2 : 24 * c.nCh ≤ 140737488355328)
    (hs3 : Sl w p3 c.nD (fun j => .int .i64 (c.dv j))) (hb3 : 8 * c.nD ≤ 140737488355328) :
    Calls Try.prog 46 #[.agg #[.slice (some ⟨b0, off0, none⟩) c.nC cap0, v1, .slice p2 c.nCh cap2, .slice p3 c.nD cap3], .int .i64 cell, .agg #[.int .i64 op, .int .i64 r, .int .i64 a, .int .i64 n]] w (Ans (InsOk c cell (c.nCode cell) op r a n) (Below w.heap.size w)) := by
  by_cases hr : op < 0 ∨ 16 < op ∨ r < 0 ∨ 4 ≤ r ∨ a < 0 ∨ 4 ≤ a
  · refine (ins_range _ _ _ _ _ _ _ _ _ _ hr).mono ?_
    rintro e w' ⟨rfl, hb⟩
    exact Ans.no (fun h => by unfold InsOk at h; omega) hb
  · have h0 : 0 ≤ op := by omega
    have h1 : op ≤ 16 := by omega
    have h2 : 0 ≤ r := by omega
    have h3 : r < 4 := by omega
    have h4 : 0 ≤ a := by omega
    have h5 : a < 4 := by omega
    by_cases e8 : op = 8
    · subst e8
      refine (ins_8 _ _ _ b0 off0 c.nC cap0 cell (c.nCode cell) capc pc r a n w h2 h3 h4 h5 hlt hc).mono fun e w' h => h.iff ?_
      unfold InsOk
      constructor
      · intro h; exact ⟨by omega, by omega, by omega, fun _ => h, by omega, by omega, by omega, by omega, by omega⟩
      · intro h; exact h.2.2.2.1 (Or.inl rfl)
    by_cases e9 : op = 9
    · subst e9
      refine (ins_9 _ _ _ b0 off0 c.nC cap0 cell (c.nCode cell) capc pc r a n w h2 h3 h4 h5 hlt hc).mono fun e w' h => h.iff ?_
      unfold InsOk
      constructor
      · intro h; exact ⟨by omega, by omega, by omega, fun _ => h, by omega, by omega, by omega, by omega, by omega⟩
      · intro h; exact h.2.2.2.1 (Or.inr rfl)
    by_cases e10 : op = 10
    · subst e10
      refine (ins_10 c _ _ _ p2 cap2 cell r a n w h2 h3 h4 h5 hs2 hb2).mono fun e w' h => h.iff ?_
      unfold InsOk
      constructor
      · intro h; exact ⟨by omega, by omega, by omega, by omega, fun _ => h, by omega, by omega, by omega, by omega⟩
      · intro h; exact h.2.2.2.2.1 rfl
    by_cases e11 : op = 11
    · subst e11
      refine (ins_11 c _ _ _ p2 cap2 cell r a n w h2 h3 h4 h5 hs2 hb2).mono fun e w' h => h.iff ?_
      unfold InsOk
      constructor
      · intro h; exact ⟨by omega, by omega, by omega, by omega, by omega, fun _ => h, by omega, by omega, by omega⟩
      · intro h; exact h.2.2.2.2.2.1 rfl
    by_cases e12 : op = 12
    · subst e12
      refine (ins_12 c _ _ _ p2 cap2 cell r a n w h2 h3 h4 h5 hs2 hb2).mono fun e w' h => h.iff ?_
      unfold InsOk
      constructor
      · intro h; exact ⟨by omega, by omega, by omega, by omega, by omega, by omega, fun _ => h, by omega, by omega⟩
      · intro h; exact h.2.2.2.2.2.2.1 (Or.inl rfl)
    by_cases e16 : op = 16
    · subst e16
      refine (ins_16 c _ _ _ p2 cap2 cell r a n w h2 h3 h4 h5 hs2 hb2).mono fun e w' h => h.iff ?_
      unfold InsOk
      constructor
      · intro h; exact ⟨by omega, by omega, by omega, by omega, by omega, by omega, fun _ => h, by omega, by omega⟩
      · intro h; exact h.2.2.2.2.2.2.1 (Or.inr rfl)
    by_cases e13 : op = 13
    · subst e13
      refine (ins_13 c _ _ _ p2 cap2 cell r a n w h2 h3 h4 h5 hs2 hb2).mono fun e w' h => h.iff ?_
      unfold InsOk
      constructor
      · intro h; exact ⟨by omega, by omega, by omega, by omega, by omega, by omega, by omega, fun _ => h, by omega⟩
      · intro h; exact h.2.2.2.2.2.2.2.1 rfl
    by_cases e14 : op = 14
    · subst e14
      refine (ins_14 c _ _ _ p3 cap3 cell r a n w h2 h3 h4 h5 hs3 hb3).mono fun e w' h => h.iff ?_
      unfold InsOk
      constructor
      · intro h; exact ⟨by omega, by omega, by omega, by omega, by omega, by omega, by omega, by omega, fun _ => h⟩
      · intro h; exact h.2.2.2.2.2.2.2.2 rfl
    refine (ins_plain _ _ _ _ _ _ _ _ _ _ h0 h1 h2 h3 h4 h5 (by simpa using e8) (by simpa using e9) (by simpa using e10) (by simpa using e11) (by simpa using e12) (by simpa using e16) (by simpa using e13) (by simpa using e14)).mono ?_
    rintro e w' ⟨rfl, hb⟩
    exact Ans.yes ⟨by omega, by omega, by omega, by omega, by omega, by omega, by omega, by omega, by omega⟩ hb

end Go.Proofs.Ytdoghgnifkgfdaa
