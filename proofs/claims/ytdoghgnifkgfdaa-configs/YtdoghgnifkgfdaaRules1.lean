import Derived.Test.YtdoghgnifkgfdaaProg
import Derived.Test.YtdoghgnifkgfdaaData
import Derived.WalkSmall
namespace Go.Proofs.Ytdoghgnifkgfdaa
open Go.RowKit

set_option maxHeartbeats 400000 in
theorem numbers_int (a b : Int) (w : World) :
    Calls Try.prog 78 #[.int .i64 a, .int .i64 b] w (Ans (0 ≤ a ∧ a < b) (· = w)) := by
  go_enter Try.func78, Try.ntmps78
  go_wp2
  · go_ret
    exact Ans.of (b := decide (a < b)) (by simp only [decide_eq_true_eq]; omega) rfl
  · go_ret
    exact Ans.no (by omega) rfl

set_option maxHeartbeats 400000 in
theorem numbers_int64 (a b : Int) (w : World) :
    Calls Try.prog 93 #[.int .i64 a, .int .i64 b] w (Ans (0 ≤ a ∧ a < b) (· = w)) := by
  go_enter Try.func93, Try.ntmps93
  go_wp2
  · go_ret
    exact Ans.of (b := decide (a < b)) (by simp only [decide_eq_true_eq]; omega) rfl
  · go_ret
    exact Ans.no (by omega) rfl

/-- The first k windows are well, and what is left of the budget. -/
def RowTo (n k : Nat) (z : Nat → Int) : Prop := (∀ i, i < k → WinOk n z i) ∧ sumTo z k ≤ 200

theorem RowTo.step {n k : Nat} {z : Nat → Int} (h : RowTo n k z) (h1 : 0 ≤ z (k * 2) ∧ z (k * 2) < n) (h2 : 1 ≤ z (k * 2 + 1)) (h3 : z (k * 2 + 1) ≤ 200 - sumTo z k) : RowTo n (k + 1) z := by
  refine ⟨fun i hi => ?_, by simp only [sumTo]; omega⟩
  rcases Nat.lt_or_ge i k with hl | hl
  · exact h.1 i hl
  · obtain rfl : i = k := by omega
    exact ⟨h1.1, h1.2, h2⟩

theorem sumTo_mono (z : Nat → Int) (k m : Nat) (hkm : k ≤ m) (h : ∀ i, i < m → 1 ≤ z (i * 2 + 1)) : sumTo z k ≤ sumTo z m := by
  induction m with
  | zero => obtain rfl : k = 0 := by omega
            exact Int.le_refl _
  | succ m ih =>
    rcases Nat.lt_or_ge k (m + 1) with hl | hl
    · have h1 := ih (by omega) (fun i hi => h i (by omega))
      have h2 := h m (by omega)
      simp only [sumTo]
      omega
    · obtain rfl : k = m + 1 := by omega
      exact Int.le_refl _

theorem row_bad {n m k : Nat} {z : Nat → Int} (hk : k < m) (h : ¬ (0 ≤ z (k * 2) ∧ z (k * 2) < n) ∨ z (k * 2 + 1) < 1 ∨ 200 - sumTo z k < z (k * 2 + 1)) : ¬ RowOk n m z := by
  intro ⟨_, h2, h3⟩
  have hw := h2 k hk
  unfold WinOk at hw
  have := sumTo_mono z (k + 1) m hk (fun i hi => (h2 i hi).2.2)
  simp only [sumTo] at this
  omega

set_option maxHeartbeats 400000 in
theorem rowMayBe_any (p : Option Addr) (m cap n : Nat) (z : Nat → Int) (w : World) (hs : Sl w p (m * 2) (fun j => .int .i64 (z j))) (hb : 16 * m ≤ 140737488355328) :
    Calls Try.prog 72 #[.slice p m cap, .int .i64 n] w (Ans (RowOk n m z) (Below w.heap.size w)) := by
  have hB : m ≤ 8796093022208 := by omega
  have HS : Hid (Sl w p (m * 2) (fun j => .int .i64 (z j))) := hs
  clear hs hb
  by_cases h6 : m ≤ 6
  · go_enter Try.func72, Try.ntmps72
    go_wp2_with fail
    go_loopw [5, 13] (fun l i wr => ∃ k : Nat, k ≤ m ∧ i = .int .i64 k ∧ l = .int .i64 (200 - sumTo z k) ∧ Hid (RowTo n k z) ∧ Hid (Below w.heap.size w wr)) (fun _ i _ => m - (intOf i).toNat)
    case atStart => exact ⟨0, Nat.zero_le _, rfl, rfl, ⟨fun i hi => absurd hi (by omega), by simp [sumTo]⟩, Below.refl _ _⟩
    case round =>
      obtain ⟨k, hk, rfl, rfl, HI, HW⟩ := hrel
      have hs1 : sumTo z k ≤ 200 := HI.out.2
      have hs0 : 0 ≤ sumTo z k := by have := (sumTo_ge z k (fun i hi => (HI.out.1 i hi).2.2)).1; omega
      have hsz : w.heap.size ≤ wr.heap.size := HW.out.size
      by_cases hlt : k < m
      · obtain ⟨b, off, rfl, hc⟩ := (HS.out.below HW.out).at (by omega)
        have c0 := hc (k * 2) (by omega)
        have c1 := hc (k * 2 + 1) (by omega)
        have hbl : b < wr.heap.size := block_lt_of_cell c0
        rw [← Nat.add_assoc] at c1
        clear hc
        have HT : Hid (∀ _, _) := fun h => @row_bad n m k z hlt h
        have HU : Hid (∀ _ _ _, _) := fun h1 h2 h3 => HI.out.step (k := k) h1 h2 h3
        have HS1 : Hid (sumTo z (k + 1) = sumTo z k + z (k * 2 + 1)) := rfl
        by_cases hx : 0 ≤ z (k * 2) ∧ z (k * 2) < (n : Int)
        · have HX : Hid (0 ≤ z (k * 2) ∧ z (k * 2) < (n : Int)) := hx
          clear hx
          generalize hz : z (k * 2) = x at *
          generalize hy : z (k * 2 + 1) = y at *
          have HZ : Hid (z (k * 2) = x) := hz
          have HY : Hid (z (k * 2 + 1) = y) := hy
          clear hz hy
          go_wp2_with (go_at_call 78; refine (Ans.says (numbers_int _ _ _) HX.out).mono ?_; rintro e w' ⟨rfl, rfl⟩)
          case roundEnd =>
            refine ⟨⟨k + 1, by omega, by go_num, by rw [HS1.out]; go_num, ?_, ?_⟩, by simp [intOf]; omega⟩
            · refine HU.out HX.out ?_ ?_ <;> omega
            · exact HW.out.alloc (by omega) _
          all_goals
            go_ret
            exact Ans.no (HT.out (by omega)) (HW.out.alloc (by omega) _)
        · have HX : Hid (¬ (0 ≤ z (k * 2) ∧ z (k * 2) < (n : Int))) := hx
          clear hx
          generalize hz : z (k * 2) = x at *
          generalize hy : z (k * 2 + 1) = y at *
          go_wp2_with (go_at_call 78; refine (Ans.denies (numbers_int _ _ _) HX.out).mono ?_; rintro e w' ⟨rfl, rfl⟩)
          go_ret
          exact Ans.no (HT.out (Or.inl HX.out)) (HW.out.alloc (by omega) _)
      · obtain rfl : k = m := by omega
        go_wp2_with fail
        go_ret
        exact Ans.yes ⟨h6, HI.out.1, HI.out.2⟩ HW.out
  · go_enter Try.func72, Try.ntmps72
    go_wp2_with fail
    go_ret
    exact Ans.no (fun h => h6 h.1) (Below.refl _ _)

end Go.Proofs.Ytdoghgnifkgfdaa
