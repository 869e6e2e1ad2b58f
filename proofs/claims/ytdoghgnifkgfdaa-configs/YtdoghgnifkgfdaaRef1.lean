import Derived.Test.YtdoghgnifkgfdaaProg
import Derived.Test.YtdoghgnifkgfdaaData
import Derived.BigQuiet
import Derived.Deep.QuietTactic
namespace Go.Proofs.Ytdoghgnifkgfdaa
open Go.RowKit

set_option maxHeartbeats 400000 in
theorem num_any (a : Int) (w : World) :
    Calls Try.prog 25 #[.int .i64 a] w fun e w' => e = .returned (.int .i64 a) ∧ w' = w := by
  go_enter Try.func25, Try.ntmps25
  go_wp2
  go_ret
  exact ⟨rfl, rfl⟩

theorem refrow_bad {n m : Nat} {z : Nat → Int} {k : Nat} (hk : k < m)
    (h : z (k * 2) < 0 ∨ (n : Int) ≤ z (k * 2) ∨ z (k * 2 + 1) < 1 ∨ 200 < z (k * 2 + 1)) : ¬ RowOk n m z := by
  intro ⟨_, h2, h3⟩
  have hw := h2 k hk
  unfold WinOk at hw
  have := (sumTo_ge z m (fun i hi => (h2 i hi).2.2)).2 k hk
  omega

set_option maxHeartbeats 400000 in
theorem refrow_any (p : Option Addr) (m cap n : Nat) (z : Nat → Int) (w : World) (hs : Sl w p (m * 2) (fun j => .int .i64 (z j))) (hb : 16 * m ≤ 140737488355328) :
    Calls Try.prog 45 #[.slice p m cap, .int .i64 n] w (Ans (RowOk n m z) (· = w)) := by
  have hB : m ≤ 8796093022208 := by omega
  have HS : Hid (Sl w p (m * 2) (fun j => .int .i64 (z j))) := hs
  clear hs hb
  go_enter Try.func45, Try.ntmps45
  go_wp2
  go_loop [5, 6] (fun s i => ∃ k : Nat, k ≤ m ∧ i = .int .i64 k ∧ s = .int .i64 (sumTo z k) ∧ Hid (∀ i, i < k → WinOk n z i ∧ z (i * 2 + 1) ≤ 200))
    (fun _ i => m - (intOf i).toNat)
  case atStart => exact ⟨0, Nat.zero_le _, rfl, rfl, fun i hi => absurd hi (by omega)⟩
  case round =>
    obtain ⟨k, hk, rfl, rfl, HI⟩ := hrel
    have hsum := sumTo_bound z k (fun i hi => ⟨(HI.out i hi).1.2.2, (HI.out i hi).2⟩)
    by_cases hlt : k < m
    · obtain ⟨b, off, rfl, hc⟩ := HS.out.at (by omega)
      have c0 := hc (k * 2) (by omega)
      have c1 := hc (k * 2 + 1) (by omega)
      rw [← Nat.add_assoc] at c1
      clear hc
      generalize hz0 : z (k * 2) = x at *
      generalize hz1 : z (k * 2 + 1) = y at *
      have HZ0 : Hid (z (k * 2) = x) := hz0
      have HZ1 : Hid (z (k * 2 + 1) = y) := hz1
      clear hz0 hz1
      go_wp2
      case roundEnd =>
        refine ⟨⟨k + 1, by omega, by go_num, by simp only [sumTo]; rw [HZ1.out], fun i hi => ?_⟩, by simp [intOf]; omega⟩
        rcases Nat.lt_or_ge i k with hl | hl
        · exact HI.out i hl
        · obtain rfl : i = k := by omega
          unfold WinOk
          rw [HZ0.out, HZ1.out]
          omega
      all_goals
        go_ret
        exact Ans.no (refrow_bad hlt (by rw [HZ0.out, HZ1.out]; omega)) rfl
    · obtain rfl : k = m := by omega
      go_wp2
      · go_ret
        refine Ans.of ?_ rfl
        simp only [decide_eq_true_eq]
        exact ⟨fun h => ⟨by omega, fun i hi => (HI.out i hi).1, h⟩, fun h => h.2.2⟩
      · go_ret
        exact Ans.no (fun h => by have := h.1; omega) rfl

theorem ans_use {c : Cfg} {cell kind x y : Int} {m ende : Nat} (hm : (m : Int) < c.nCh) (hx : c.ch (m * 3) = x) (hy : c.ch (m * 3 + ende) = y) (b : Bool) (hb : b = (decide (x = kind) && decide (y = cell))) : b = true ↔ UseOk c cell m kind ende := by
  subst hb
  simp only [Bool.and_eq_true, decide_eq_true_eq, UseOk, Int.toNat_natCast, hx, hy]
  exact ⟨fun h => ⟨by omega, hm, h.1, h.2⟩, fun h => ⟨h.2.2.1, h.2.2.2⟩⟩

set_option maxHeartbeats 400000 in
theorem channel_from (c : Cfg) (v0 v1 v3 : Value) (p : Option Addr) (cap : Nat) (cell n kind : Int) (w : World) (hs : Sl w p (c.nCh * 3) (fun j => .int .i64 (c.ch j))) (hb : 24 * c.nCh ≤ 140737488355328) :
    Calls Try.prog 64 #[.agg #[v0, v1, .slice p c.nCh cap, v3], .int .i64 cell, .int .i64 n, .int .i64 kind, .bool true] w (Ans (UseOk c cell n kind 1) (Below w.heap.size w)) := by
  have hB : c.nCh ≤ 8796093022208 := by omega
  have HS : Hid (Sl w p (c.nCh * 3) (fun j => .int .i64 (c.ch j))) := hs
  clear hs hb
  have HB : Hid (∀ o, Below w.heap.size w (w.alloc o)) := fun o => (Below.refl _ _).alloc (Nat.le_refl _) _
  by_cases h0 : n < 0
  · go_enter Try.func64, Try.ntmps64
    go_wp2
    go_ret
    exact Ans.no (fun h => by have := h.1; omega) (HB.out _)
  · by_cases h1 : (c.nCh : Int) ≤ n
    · go_enter Try.func64, Try.ntmps64
      go_wp2
      go_ret
      exact Ans.no (fun h => by have := h.2.1; omega) (HB.out _)
    · obtain ⟨m, rfl⟩ := Int.eq_ofNat_of_zero_le (a := n) (by omega)
      obtain ⟨b, off, rfl, hc⟩ := HS.out.at (by omega)
      have c0 := hc (m * 3) (by omega)
      have c1 := hc (m * 3 + 1) (by omega)
      have hlt : b < w.heap.size := block_lt_of_cell c0
      rw [← Nat.add_assoc] at c1
      clear hc
      have hm : (m : Int) < c.nCh := by omega
      have HU1 := fun b h => @ans_use c cell kind _ _ m 1 hm rfl rfl b h
      generalize c.ch (m * 3) = x at *
      generalize c.ch (m * 3 + 1) = y1 at *
      have HU : Hid (∀ b, b = (decide (x = kind) && decide (y1 = cell)) → (b = true ↔ UseOk c cell m kind 1)) := HU1
      clear HU1
      go_enter Try.func64, Try.ntmps64
      go_wp2
      · have hx : (x != kind) = true := by assumption
        go_ret
        exact Ans.of (b := false) (HU.out _ (by simp only [bne_iff_ne, ne_eq] at hx; simp [hx])) (HB.out _)
      · have hx : (x != kind) = false := by assumption
        go_ret
        exact Ans.of (b := (y1 == cell)) (HU.out _ (by simp only [bne_eq_false_iff_eq] at hx; subst hx; simp; rfl)) (HB.out _)

set_option maxHeartbeats 400000 in
theorem channel_to (c : Cfg) (v0 v1 v3 : Value) (p : Option Addr) (cap : Nat) (cell n kind : Int) (w : World) (hs : Sl w p (c.nCh * 3) (fun j => .int .i64 (c.ch j))) (hb : 24 * c.nCh ≤ 140737488355328) :
    Calls Try.prog 64 #[.agg #[v0, v1, .slice p c.nCh cap, v3], .int .i64 cell, .int .i64 n, .int .i64 kind, .bool false] w (Ans (UseOk c cell n kind 2) (Below w.heap.size w)) := by
  have hB : c.nCh ≤ 8796093022208 := by omega
  have HS : Hid (Sl w p (c.nCh * 3) (fun j => .int .i64 (c.ch j))) := hs
  clear hs hb
  have HB : Hid (∀ o, Below w.heap.size w (w.alloc o)) := fun o => (Below.refl _ _).alloc (Nat.le_refl _) _
  by_cases h0 : n < 0
  · go_enter Try.func64, Try.ntmps64
    go_wp2
    go_ret
    exact Ans.no (fun h => by have := h.1; omega) (HB.out _)
  · by_cases h1 : (c.nCh : Int) ≤ n
    · go_enter Try.func64, Try.ntmps64
      go_wp2
      go_ret
      exact Ans.no (fun h => by have := h.2.1; omega) (HB.out _)
    · obtain ⟨m, rfl⟩ := Int.eq_ofNat_of_zero_le (a := n) (by omega)
      obtain ⟨b, off, rfl, hc⟩ := HS.out.at (by omega)
      have c0 := hc (m * 3) (by omega)
      have c1 := hc (m * 3 + 2) (by omega)
      have hlt : b < w.heap.size := block_lt_of_cell c0
      rw [← Nat.add_assoc] at c1
      clear hc
      have hm : (m : Int) < c.nCh := by omega
      have HU1 := fun b h => @ans_use c cell kind _ _ m 2 hm rfl rfl b h
      generalize c.ch (m * 3) = x at *
      generalize c.ch (m * 3 + 2) = y1 at *
      have HU : Hid (∀ b, b = (decide (x = kind) && decide (y1 = cell)) → (b = true ↔ UseOk c cell m kind 2)) := HU1
      clear HU1
      go_enter Try.func64, Try.ntmps64
      go_wp2
      · have hx : (x != kind) = true := by assumption
        go_ret
        exact Ans.of (b := false) (HU.out _ (by simp only [bne_iff_ne, ne_eq] at hx; simp [hx])) (HB.out _)
      · have hx : (x != kind) = false := by assumption
        go_ret
        exact Ans.of (b := (y1 == cell)) (HU.out _ (by simp only [bne_eq_false_iff_eq] at hx; subst hx; simp; rfl)) (HB.out _)

end Go.Proofs.Ytdoghgnifkgfdaa
