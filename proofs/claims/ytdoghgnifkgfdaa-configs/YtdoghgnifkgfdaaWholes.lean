/-
  What the three functions do that look whether a list that was lent reads as ever, and then write over it.
-/
import Derived.Test.YtdoghgnifkgfdaaCopies
import Derived.BigQuiet
import Derived.Deep.QuietTactic
import Derived.WalkSmall
namespace Go.Proofs.Ytdoghgnifkgfdaa
open Go.RowKit

theorem grownBy_drewN {w w' : World} {row : Option Nat} (h : w.grownBy w' row) (n : Nat) : w.grownBy (w'.drewN n) row := ⟨h.os, h.tape, h.output, h.size, h.block⟩
theorem RowF.drewN {w : World} {g m t : Nat} {f : Nat → Value} (h : RowF w g m t f) (n : Nat) : RowF (w.drewN n) g m t f := h
theorem size_drewN (w : World) (n : Nat) : (w.drewN n).heap.size = w.heap.size := rfl
theorem below_grown {w w' : World} (h : Below w.heap.size w w') (row : Option Nat) : w.grownBy w' row := ⟨h.os, h.tape, h.output, h.size, fun k hk _ => h.block k hk⟩

/-- A loop that writes over a row: what stands there behind k elements. -/
def overF (K k : Nat) (f : Nat → Value) (j : Nat) : Value := if j < k * K then .int .i64 (if j % K = 0 then -99 else 0) else f j

theorem overstep1 (k j : Nat) (f : Nat → Value) : (if j = k then Value.int .i64 (-99) else overF 1 k f j) = overF 1 (k + 1) f j := by
  unfold overF
  repeat' split
  all_goals first
    | rfl
    | (exfalso; omega)

theorem overstep2 (k j : Nat) (f : Nat → Value) : (if j = k * 2 + 1 then Value.int .i64 0 else if j = k * 2 then Value.int .i64 (-99) else overF 2 k f j) = overF 2 (k + 1) f j := by
  unfold overF
  repeat' split
  all_goals first
    | rfl
    | (exfalso; omega)

theorem overstep3 (k j : Nat) (f : Nat → Value) : (if j = k * 3 + 2 then Value.int .i64 0 else if j = k * 3 + 1 then Value.int .i64 0 else if j = k * 3 then Value.int .i64 (-99) else overF 3 k f j) = overF 3 (k + 1) f j := by
  unfold overF
  repeat' split
  all_goals first
    | rfl
    | (exfalso; omega)

theorem overstep4 (k j : Nat) (f : Nat → Value) : (if j = k * 4 + 3 then Value.int .i64 0 else if j = k * 4 + 2 then Value.int .i64 0 else if j = k * 4 + 1 then Value.int .i64 0 else if j = k * 4 then Value.int .i64 (-99) else overF 4 k f j) = overF 4 (k + 1) f j := by
  unfold overF
  repeat' split
  all_goals first
    | rfl
    | (exfalso; omega)

set_option maxHeartbeats 400000 in
theorem wholeCode_nil (w : World) : Calls Try.prog 47 #[.slice none 0 0, .slice none 0 0] w fun e w' => e = .returned (.bool true) ∧ w' = w := by
  have heq := fun W a n c => Go.Lib.run_eql_slice_nil (P := Try.prog) W 68 73 a n c 0 0 Try.underlying68
  go_enter Try.func47, Try.ntmps47
  go_wp2_with fail
  go_ret
  exact ⟨rfl, rfl⟩

set_option maxHeartbeats 400000 in
theorem wholeCode_any (g n cap b off ty : Nat) (sp : Option Nat) (z : Nat → Int) (w : World) (hr : RowF w g ((n + 2) * 4) ty (fun j => .int .i64 (padZ 4 n z j))) (hs : Sl w (some ⟨b, off, sp⟩) (n * 4) (fun j => .int .i64 (z j))) (hb : 32 * n ≤ 140737488355328) :
    Calls Try.prog 47 #[.slice (some ⟨g, 0, none⟩) n (n + 2 : Nat), .slice (some ⟨b, off, sp⟩) n cap] w fun e w' => e = .returned (.bool true) ∧ w.grownBy w' (some g) := by
  have hB : n ≤ 17592186044416 := by omega
  have hg : g < w.heap.size := hr.lt
  have HR0 : Hid (RowF w g ((n + 2) * 4) ty (fun j => .int .i64 (padZ 4 n z j))) := hr
  have HS : Hid (Sl w (some ⟨b, off, sp⟩) (n * 4) (fun j => .int .i64 (z j))) := hs
  have HN : Hid (32 * n ≤ 140737488355328) := hb
  clear hr hs hb
  have heq := fun W a n c => Go.Lib.run_eql_slice_nil (P := Try.prog) W 68 73 a n c 0 0 Try.underlying68
  go_enter Try.func47, Try.ntmps47
  go_wp2_with (go_at_call 36; refine (codes_any (some ⟨b, off, sp⟩) n cap z _ HS.out (by simp) HN.out).mono ?_; rintro e w1 ⟨rfl, hsz1, hbel1, hrow1⟩; have HZ1 : Hid (w1.heap.size = w.heap.size + 1) := hsz1; have HB1 : Hid (Below w.heap.size w w1) := hbel1; have HV1 : Hid (RowF w1 w.heap.size ((n + 2) * 4) 73 (fun j => .int .i64 (padZ 4 n z j))) := hrow1; clear hsz1 hbel1 hrow1)
  go_loopw [7, 8] (fun o i wr => ∃ k : Nat, k ≤ n + 2 ∧ i = .int .i64 k ∧ o = .bool true ∧ Hid (w.grownBy wr (some g)) ∧ Hid (RowF wr g ((n + 2) * 4) ty (overF 4 k (fun j => .int .i64 (padZ 4 n z j)))) ∧ Hid (RowF wr w.heap.size ((n + 2) * 4) 73 (fun j => .int .i64 (padZ 4 n z j)))) (fun _ i _ => n + 2 - (intOf i).toNat)
  case atStart => exact ⟨0, Nat.zero_le _, rfl, by simp, below_grown HB1.out _, (HR0.out.below HB1.out hg).congr (fun j _ => by simp [overF]), HV1⟩
  case round =>
    obtain ⟨k, hk, rfl, rfl, HG, HR, HV⟩ := hrel
    by_cases hlt : k < n + 2
    · have HP : Hid (∀ j, _) := fun j => overstep4 k j (fun j => .int .i64 (padZ 4 n z j))
      have c0 := HR.out.cell (j := k * 4) (by omega)
      have d0 := HV.out.cell (j := k * 4) (by omega)
      have f0 := HR.out.frozen (k * 4)
      have c1 := HR.out.cell (j := k * 4 + 1) (by omega)
      have d1 := HV.out.cell (j := k * 4 + 1) (by omega)
      have f1 := HR.out.frozen (k * 4 + 1)
      have c2 := HR.out.cell (j := k * 4 + 2) (by omega)
      have d2 := HV.out.cell (j := k * 4 + 2) (by omega)
      have f2 := HR.out.frozen (k * 4 + 2)
      have c3 := HR.out.cell (j := k * 4 + 3) (by omega)
      have d3 := HV.out.cell (j := k * 4 + 3) (by omega)
      have f3 := HR.out.frozen (k * 4 + 3)
      have o0 : overF 4 k (fun j => .int .i64 (padZ 4 n z j)) (k * 4) = .int .i64 (padZ 4 n z (k * 4)) := by unfold overF; rw [if_neg (by omega)]
      rw [o0] at c0
      have o1 : overF 4 k (fun j => .int .i64 (padZ 4 n z j)) (k * 4 + 1) = .int .i64 (padZ 4 n z (k * 4 + 1)) := by unfold overF; rw [if_neg (by omega)]
      rw [o1] at c1
      have o2 : overF 4 k (fun j => .int .i64 (padZ 4 n z j)) (k * 4 + 2) = .int .i64 (padZ 4 n z (k * 4 + 2)) := by unfold overF; rw [if_neg (by omega)]
      rw [o2] at c2
      have o3 : overF 4 k (fun j => .int .i64 (padZ 4 n z j)) (k * 4 + 3) = .int .i64 (padZ 4 n z (k * 4 + 3)) := by unfold overF; rw [if_neg (by omega)]
      rw [o3] at c3
      generalize padZ 4 n z (k * 4) = x0 at c0 d0
      generalize padZ 4 n z (k * 4 + 1) = x1 at c1 d1
      generalize padZ 4 n z (k * 4 + 2) = x2 at c2 d2
      generalize padZ 4 n z (k * 4 + 3) = x3 at c3 d3
      clear o0 o1 o2 o3
      go_wp2_with fail
      go_quiet (fail)
      go_wp2_with fail
      exact ⟨⟨k + 1, by omega, by go_num, rfl, (grownBy_setCell (grownBy_setCell (grownBy_setCell (grownBy_setCell (grownBy_drewN HG.out nq) (k * 4) _) (k * 4 + 1) _) (k * 4 + 2) _) (k * 4 + 3) _), (((((HR.out.drewN nq).set (k * 4) _).set (k * 4 + 1) _).set (k * 4 + 2) _).set (k * 4 + 3) _).congr (fun j _ => HP.out j), (((((HV.out.drewN nq).other _ _ (by simp; omega)).other _ _ (by simp; omega)).other _ _ (by simp; omega)).other _ _ (by simp; omega))⟩, by simp [intOf]; omega⟩
    · obtain rfl : k = n + 2 := by omega
      go_wp2_with fail
      go_ret
      exact ⟨rfl, HG.out⟩

set_option maxHeartbeats 400000 in
theorem wholeImage_nil (w : World) : Calls Try.prog 48 #[.slice none 0 0, .slice none 0 0] w fun e w' => e = .returned (.bool true) ∧ w' = w := by
  have heq := fun W a n c => Go.Lib.run_eql_slice_nil (P := Try.prog) W 56 2 a n c 0 0 Try.underlying56
  go_enter Try.func48, Try.ntmps48
  go_wp2_with fail
  go_ret
  exact ⟨rfl, rfl⟩

set_option maxHeartbeats 400000 in
theorem wholeImage_any (g n cap b off ty : Nat) (sp : Option Nat) (z : Nat → Int) (w : World) (hr : RowF w g ((n + 2) * 1) ty (fun j => .int .i64 (padZ 1 n z j))) (hs : Sl w (some ⟨b, off, sp⟩) (n) (fun j => .int .i64 (z j))) (hb : 8 * n ≤ 140737488355328) :
    Calls Try.prog 48 #[.slice (some ⟨g, 0, none⟩) n (n + 2 : Nat), .slice (some ⟨b, off, sp⟩) n cap] w fun e w' => e = .returned (.bool true) ∧ w.grownBy w' (some g) := by
  have hB : n ≤ 17592186044416 := by omega
  have hg : g < w.heap.size := hr.lt
  have HR0 : Hid (RowF w g ((n + 2) * 1) ty (fun j => .int .i64 (padZ 1 n z j))) := hr
  have HS : Hid (Sl w (some ⟨b, off, sp⟩) (n) (fun j => .int .i64 (z j))) := hs
  have HN : Hid (8 * n ≤ 140737488355328) := hb
  clear hr hs hb
  have heq := fun W a n c => Go.Lib.run_eql_slice_nil (P := Try.prog) W 56 2 a n c 0 0 Try.underlying56
  go_enter Try.func48, Try.ntmps48
  go_wp2_with (go_at_call 37; refine (numbers_any (some ⟨b, off, sp⟩) n cap z _ HS.out (by simp) HN.out).mono ?_; rintro e w1 ⟨rfl, hsz1, hbel1, hrow1⟩; have HZ1 : Hid (w1.heap.size = w.heap.size + 1) := hsz1; have HB1 : Hid (Below w.heap.size w w1) := hbel1; have HV1 : Hid (RowF w1 w.heap.size ((n + 2) * 1) 2 (fun j => .int .i64 (padZ 1 n z j))) := hrow1; clear hsz1 hbel1 hrow1)
  go_loopw [7, 8] (fun o i wr => ∃ k : Nat, k ≤ n + 2 ∧ i = .int .i64 k ∧ o = .bool true ∧ Hid (w.grownBy wr (some g)) ∧ Hid (RowF wr g ((n + 2) * 1) ty (overF 1 k (fun j => .int .i64 (padZ 1 n z j)))) ∧ Hid (RowF wr w.heap.size ((n + 2) * 1) 2 (fun j => .int .i64 (padZ 1 n z j)))) (fun _ i _ => n + 2 - (intOf i).toNat)
  case atStart => exact ⟨0, Nat.zero_le _, rfl, by simp, below_grown HB1.out _, (HR0.out.below HB1.out hg).congr (fun j _ => by simp [overF]), HV1⟩
  case round =>
    obtain ⟨k, hk, rfl, rfl, HG, HR, HV⟩ := hrel
    by_cases hlt : k < n + 2
    · have HP : Hid (∀ j, _) := fun j => overstep1 k j (fun j => .int .i64 (padZ 1 n z j))
      have c0 := HR.out.cell (j := k) (by omega)
      have d0 := HV.out.cell (j := k) (by omega)
      have f0 := HR.out.frozen (k)
      have o0 : overF 1 k (fun j => .int .i64 (padZ 1 n z j)) (k) = .int .i64 (padZ 1 n z (k)) := by unfold overF; rw [if_neg (by omega)]
      rw [o0] at c0
      generalize padZ 1 n z (k) = x0 at c0 d0
      clear o0
      go_wp2_with fail
      go_quiet (fail)
      go_wp2_with fail
      exact ⟨⟨k + 1, by omega, by go_num, rfl, (grownBy_setCell (grownBy_drewN HG.out nq) (k) _), ((HR.out.drewN nq).set (k) _).congr (fun j _ => HP.out j), ((HV.out.drewN nq).other _ _ (by simp; omega))⟩, by simp [intOf]; omega⟩
    · obtain rfl : k = n + 2 := by omega
      go_wp2_with fail
      go_ret
      exact ⟨rfl, HG.out⟩

set_option maxHeartbeats 400000 in
theorem wholeRow_any (g n cap ty : Nat) (p : Option Addr) (hp : p = none → n = 0) (z : Nat → Int) (w : World) (hr : RowF w g ((n + 2) * 2) ty (fun j => .int .i64 (padZ 2 n z j))) (hs : Sl w p (n * 2) (fun j => .int .i64 (z j))) (hb : 16 * n ≤ 140737488355328) :
    Calls Try.prog 49 #[.slice (some ⟨g, 0, none⟩) n (n + 2 : Nat), .slice p n cap] w fun e w' => e = .returned (.bool true) ∧ w.grownBy w' (some g) := by
  have hB : n ≤ 17592186044416 := by omega
  have hg : g < w.heap.size := hr.lt
  have HR0 : Hid (RowF w g ((n + 2) * 2) ty (fun j => .int .i64 (padZ 2 n z j))) := hr
  have HS : Hid (Sl w p (n * 2) (fun j => .int .i64 (z j))) := hs
  have HN : Hid (16 * n ≤ 140737488355328) := hb
  clear hr hs hb
  go_enter Try.func49, Try.ntmps49
  go_wp2_with (go_at_call 38; refine (windows_any p n cap z _ HS.out hp HN.out).mono ?_; rintro e w1 ⟨rfl, hsz1, hbel1, hrow1⟩; have HZ1 : Hid (w1.heap.size = w.heap.size + 1) := hsz1; have HB1 : Hid (Below w.heap.size w w1) := hbel1; have HV1 : Hid (RowF w1 w.heap.size ((n + 2) * 2) 65 (fun j => .int .i64 (padZ 2 n z j))) := hrow1; clear hsz1 hbel1 hrow1)
  go_loopw [7, 8] (fun o i wr => ∃ k : Nat, k ≤ n + 2 ∧ i = .int .i64 k ∧ o = .bool true ∧ Hid (w.grownBy wr (some g)) ∧ Hid (RowF wr g ((n + 2) * 2) ty (overF 2 k (fun j => .int .i64 (padZ 2 n z j)))) ∧ Hid (RowF wr w.heap.size ((n + 2) * 2) 65 (fun j => .int .i64 (padZ 2 n z j)))) (fun _ i _ => n + 2 - (intOf i).toNat)
  case atStart => exact ⟨0, Nat.zero_le _, rfl, by simp, below_grown HB1.out _, (HR0.out.below HB1.out hg).congr (fun j _ => by simp [overF]), HV1⟩
  case round =>
    obtain ⟨k, hk, rfl, rfl, HG, HR, HV⟩ := hrel
    by_cases hlt : k < n + 2
    · have HP : Hid (∀ j, _) := fun j => overstep2 k j (fun j => .int .i64 (padZ 2 n z j))
      have c0 := HR.out.cell (j := k * 2) (by omega)
      have d0 := HV.out.cell (j := k * 2) (by omega)
      have f0 := HR.out.frozen (k * 2)
      have c1 := HR.out.cell (j := k * 2 + 1) (by omega)
      have d1 := HV.out.cell (j := k * 2 + 1) (by omega)
      have f1 := HR.out.frozen (k * 2 + 1)
      have o0 : overF 2 k (fun j => .int .i64 (padZ 2 n z j)) (k * 2) = .int .i64 (padZ 2 n z (k * 2)) := by unfold overF; rw [if_neg (by omega)]
      rw [o0] at c0
      have o1 : overF 2 k (fun j => .int .i64 (padZ 2 n z j)) (k * 2 + 1) = .int .i64 (padZ 2 n z (k * 2 + 1)) := by unfold overF; rw [if_neg (by omega)]
      rw [o1] at c1
      generalize padZ 2 n z (k * 2) = x0 at c0 d0
      generalize padZ 2 n z (k * 2 + 1) = x1 at c1 d1
      clear o0 o1
      go_wp2_with fail
      go_quiet (fail)
      go_wp2_with fail
      exact ⟨⟨k + 1, by omega, by go_num, rfl, (grownBy_setCell (grownBy_setCell (grownBy_drewN HG.out nq) (k * 2) _) (k * 2 + 1) _), (((HR.out.drewN nq).set (k * 2) _).set (k * 2 + 1) _).congr (fun j _ => HP.out j), (((HV.out.drewN nq).other _ _ (by simp; omega)).other _ _ (by simp; omega))⟩, by simp [intOf]; omega⟩
    · obtain rfl : k = n + 2 := by omega
      go_wp2_with fail
      go_ret
      exact ⟨rfl, HG.out⟩

end Go.Proofs.Ytdoghgnifkgfdaa
