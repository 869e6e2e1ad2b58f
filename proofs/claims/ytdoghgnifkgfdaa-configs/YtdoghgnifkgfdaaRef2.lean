import Derived.Test.YtdoghgnifkgfdaaRef1
namespace Go.Proofs.Ytdoghgnifkgfdaa
open Go.RowKit

set_option maxHeartbeats 400000 in
theorem ins_range (v0 v1 v2 v3 : Value) (cell op r a n : Int) (w : World) (hbad : op < 0 ∨ 16 < op ∨ r < 0 ∨ 4 ≤ r ∨ a < 0 ∨ 4 ≤ a) :
    Calls Try.prog 46 #[.agg #[v0, v1, v2, v3], .int .i64 cell, .agg #[.int .i64 op, .int .i64 r, .int .i64 a, .int .i64 n]] w fun e w' => e = .returned (.bool false) ∧ Below w.heap.size w w' := by
  have HB : Hid (∀ o o', Below w.heap.size w ((w.alloc o).alloc o')) := fun o o' => ((Below.refl _ _).alloc (Nat.le_refl _) _).alloc (by simp) _
  go_enter Try.func46, Try.ntmps46
  go_wp2_with fail
  all_goals
    go_ret
    exact ⟨rfl, HB.out _ _⟩

set_option maxHeartbeats 400000 in
theorem ins_plain (v0 v1 v2 v3 : Value) (cell op r a n : Int) (w : World) (h0 : 0 ≤ op) (h1 : op ≤ 16) (h2 : 0 ≤ r) (h3 : r < 4) (h4 : 0 ≤ a) (h5 : a < 4) (q8 : (op == 8) = false) (q9 : (op == 9) = false) (q10 : (op == 10) = false) (q11 : (op == 11) = false) (q12 : (op == 12) = false) (q16 : (op == 16) = false) (q13 : (op == 13) = false) (q14 : (op == 14) = false) :
    Calls Try.prog 46 #[.agg #[v0, v1, v2, v3], .int .i64 cell, .agg #[.int .i64 op, .int .i64 r, .int .i64 a, .int .i64 n]] w fun e w' => e = .returned (.bool true) ∧ Below w.heap.size w w' := by
  have HB : Hid (∀ o o', Below w.heap.size w ((w.alloc o).alloc o')) := fun o o' => ((Below.refl _ _).alloc (Nat.le_refl _) _).alloc (by simp) _
  go_enter Try.func46, Try.ntmps46
  go_wp2_with fail
  all_goals
    go_ret
    exact ⟨rfl, HB.out _ _⟩

set_option maxHeartbeats 400000 in
theorem ins_10 (c : Cfg) (v0 v1 v3 : Value) (p : Option Addr) (cap : Nat) (cell r a n : Int) (w : World) (h2 : 0 ≤ r) (h3 : r < 4) (h4 : 0 ≤ a) (h5 : a < 4) (hs : Sl w p (c.nCh * 3) (fun j => .int .i64 (c.ch j))) (hb : 24 * c.nCh ≤ 140737488355328) :
    Calls Try.prog 46 #[.agg #[v0, v1, .slice p c.nCh cap, v3], .int .i64 cell, .agg #[.int .i64 10, .int .i64 r, .int .i64 a, .int .i64 n]] w (Ans (UseOk c cell n 1 1) (Below w.heap.size w)) := by
  have HB : Hid (∀ o o', Below w.heap.size w ((w.alloc o).alloc o')) := fun o o' => ((Below.refl _ _).alloc (Nat.le_refl _) _).alloc (by simp) _
  have HS : Hid (Sl w p (c.nCh * 3) (fun j => .int .i64 (c.ch j))) := hs
  have HN : Hid (24 * c.nCh ≤ 140737488355328) := hb
  clear hs hb
  go_enter Try.func46, Try.ntmps46
  go_wp2_with (go_at_call 64; refine (channel_from c _ _ _ p cap _ _ _ _ (by exact HS.out.below (HB.out _ _)) HN.out).mono ?_; rintro e w' ⟨b, rfl, hiff, hbel⟩)
  go_ret
  exact Ans.of hiff ((HB.out _ _).trans (hbel.mono (by simp; omega)))

set_option maxHeartbeats 400000 in
theorem ins_11 (c : Cfg) (v0 v1 v3 : Value) (p : Option Addr) (cap : Nat) (cell r a n : Int) (w : World) (h2 : 0 ≤ r) (h3 : r < 4) (h4 : 0 ≤ a) (h5 : a < 4) (hs : Sl w p (c.nCh * 3) (fun j => .int .i64 (c.ch j))) (hb : 24 * c.nCh ≤ 140737488355328) :
    Calls Try.prog 46 #[.agg #[v0, v1, .slice p c.nCh cap, v3], .int .i64 cell, .agg #[.int .i64 11, .int .i64 r, .int .i64 a, .int .i64 n]] w (Ans (UseOk c cell n 2 1) (Below w.heap.size w)) := by
  have HB : Hid (∀ o o', Below w.heap.size w ((w.alloc o).alloc o')) := fun o o' => ((Below.refl _ _).alloc (Nat.le_refl _) _).alloc (by simp) _
  have HS : Hid (Sl w p (c.nCh * 3) (fun j => .int .i64 (c.ch j))) := hs
  have HN : Hid (24 * c.nCh ≤ 140737488355328) := hb
  clear hs hb
  go_enter Try.func46, Try.ntmps46
  go_wp2_with (go_at_call 64; refine (channel_from c _ _ _ p cap _ _ _ _ (by exact HS.out.below (HB.out _ _)) HN.out).mono ?_; rintro e w' ⟨b, rfl, hiff, hbel⟩)
  go_ret
  exact Ans.of hiff ((HB.out _ _).trans (hbel.mono (by simp; omega)))

set_option maxHeartbeats 400000 in
theorem ins_12 (c : Cfg) (v0 v1 v3 : Value) (p : Option Addr) (cap : Nat) (cell r a n : Int) (w : World) (h2 : 0 ≤ r) (h3 : r < 4) (h4 : 0 ≤ a) (h5 : a < 4) (hs : Sl w p (c.nCh * 3) (fun j => .int .i64 (c.ch j))) (hb : 24 * c.nCh ≤ 140737488355328) :
    Calls Try.prog 46 #[.agg #[v0, v1, .slice p c.nCh cap, v3], .int .i64 cell, .agg #[.int .i64 12, .int .i64 r, .int .i64 a, .int .i64 n]] w (Ans (UseOk c cell n 1 2) (Below w.heap.size w)) := by
  have HB : Hid (∀ o o', Below w.heap.size w ((w.alloc o).alloc o')) := fun o o' => ((Below.refl _ _).alloc (Nat.le_refl _) _).alloc (by simp) _
  have HS : Hid (Sl w p (c.nCh * 3) (fun j => .int .i64 (c.ch j))) := hs
  have HN : Hid (24 * c.nCh ≤ 140737488355328) := hb
  clear hs hb
  go_enter Try.func46, Try.ntmps46
  go_wp2_with (go_at_call 64; refine (channel_to c _ _ _ p cap _ _ _ _ (by exact HS.out.below (HB.out _ _)) HN.out).mono ?_; rintro e w' ⟨b, rfl, hiff, hbel⟩)
  go_ret
  exact Ans.of hiff ((HB.out _ _).trans (hbel.mono (by simp; omega)))

set_option maxHeartbeats 400000 in
theorem ins_16 (c : Cfg) (v0 v1 v3 : Value) (p : Option Addr) (cap : Nat) (cell r a n : Int) (w : World) (h2 : 0 ≤ r) (h3 : r < 4) (h4 : 0 ≤ a) (h5 : a < 4) (hs : Sl w p (c.nCh * 3) (fun j => .int .i64 (c.ch j))) (hb : 24 * c.nCh ≤ 140737488355328) :
    Calls Try.prog 46 #[.agg #[v0, v1, .slice p c.nCh cap, v3], .int .i64 cell, .agg #[.int .i64 16, .int .i64 r, .int .i64 a, .int .i64 n]] w (Ans (UseOk c cell n 1 2) (Below w.heap.size w)) := by
  have HB : Hid (∀ o o', Below w.heap.size w ((w.alloc o).alloc o')) := fun o o' => ((Below.refl _ _).alloc (Nat.le_refl _) _).alloc (by simp) _
  have HS : Hid (Sl w p (c.nCh * 3) (fun j => .int .i64 (c.ch j))) := hs
  have HN : Hid (24 * c.nCh ≤ 140737488355328) := hb
  clear hs hb
  go_enter Try.func46, Try.ntmps46
  go_wp2_with (go_at_call 64; refine (channel_to c _ _ _ p cap _ _ _ _ (by exact HS.out.below (HB.out _ _)) HN.out).mono ?_; rintro e w' ⟨b, rfl, hiff, hbel⟩)
  go_ret
  exact Ans.of hiff ((HB.out _ _).trans (hbel.mono (by simp; omega)))

set_option maxHeartbeats 400000 in
theorem ins_13 (c : Cfg) (v0 v1 v3 : Value) (p : Option Addr) (cap : Nat) (cell r a n : Int) (w : World) (h2 : 0 ≤ r) (h3 : r < 4) (h4 : 0 ≤ a) (h5 : a < 4) (hs : Sl w p (c.nCh * 3) (fun j => .int .i64 (c.ch j))) (hb : 24 * c.nCh ≤ 140737488355328) :
    Calls Try.prog 46 #[.agg #[v0, v1, .slice p c.nCh cap, v3], .int .i64 cell, .agg #[.int .i64 13, .int .i64 r, .int .i64 a, .int .i64 n]] w (Ans (UseOk c cell n 2 2) (Below w.heap.size w)) := by
  have HB : Hid (∀ o o', Below w.heap.size w ((w.alloc o).alloc o')) := fun o o' => ((Below.refl _ _).alloc (Nat.le_refl _) _).alloc (by simp) _
  have HS : Hid (Sl w p (c.nCh * 3) (fun j => .int .i64 (c.ch j))) := hs
  have HN : Hid (24 * c.nCh ≤ 140737488355328) := hb
  clear hs hb
  go_enter Try.func46, Try.ntmps46
  go_wp2_with (go_at_call 64; refine (channel_to c _ _ _ p cap _ _ _ _ (by exact HS.out.below (HB.out _ _)) HN.out).mono ?_; rintro e w' ⟨b, rfl, hiff, hbel⟩)
  go_ret
  exact Ans.of hiff ((HB.out _ _).trans (hbel.mono (by simp; omega)))

end Go.Proofs.Ytdoghgnifkgfdaa
