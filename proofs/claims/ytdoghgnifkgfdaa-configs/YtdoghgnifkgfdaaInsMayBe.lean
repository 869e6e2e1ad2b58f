import Derived.Test.YtdoghgnifkgfdaaMayUse
import Derived.Deep.RegionWith
import Derived.WalkSmall
namespace Go.Proofs.Ytdoghgnifkgfdaa
open Go.RowKit Go.Maps

theorem usersR_alloc {w : World} {b : Nat} {c : Cfg} (h : UsersR w b c) (o : Obj) : UsersR (w.alloc o) b c := by
  obtain ⟨n, D, h1, h2⟩ := h
  exact ⟨n, D, h1.alloc o, h2⟩
theorem usersR_below {w w' : World} {b : Nat} {c : Cfg} (h : UsersR w b c) (hb : Below w.heap.size w w') : UsersR w' b c := by
  obtain ⟨n, D, h1, h2⟩ := h
  exact ⟨n, D, h1.kept (row := none) ⟨hb.os, hb.tape, hb.output, hb.size, fun k hk _ => hb.block k hk⟩ (by simp), h2⟩

set_option maxHeartbeats 400000 in
theorem im_badR (cell code op r a n : Int) (dv mp : Value) (w : World) (hr : ¬ (0 ≤ r ∧ r < 4)) :
    Calls Try.prog 86 #[.agg #[.int .i64 cell, .int .i64 code, dv, mp], .agg #[.int .i64 op, .int .i64 r, .int .i64 a, .int .i64 n]] w fun e w' => e = .returned (.bool false) ∧ Below w.heap.size w w' := by
  have HB : Hid (∀ o o', Below w.heap.size w ((w.alloc o).alloc o')) := fun o o' => ((Below.refl _ _).alloc (Nat.le_refl _) _).alloc (by simp) _
  have HR : Hid (¬ (0 ≤ r ∧ r < 4)) := hr
  clear hr
  go_enter Try.func86, Try.ntmps86
  go_wp2_with (go_at_call 78; refine (Ans.denies (numbers_int r _ _) HR.out).mono ?_; rintro e w' ⟨rfl, rfl⟩)
  go_ret
  exact ⟨rfl, HB.out _ _⟩

set_option maxHeartbeats 400000 in
theorem im_badA (cell code op r a n : Int) (dv mp : Value) (w : World) (hr : 0 ≤ r ∧ r < 4) (ha : ¬ (0 ≤ a ∧ a < 4)) :
    Calls Try.prog 86 #[.agg #[.int .i64 cell, .int .i64 code, dv, mp], .agg #[.int .i64 op, .int .i64 r, .int .i64 a, .int .i64 n]] w fun e w' => e = .returned (.bool false) ∧ Below w.heap.size w w' := by
  have HB : Hid (∀ o o', Below w.heap.size w ((w.alloc o).alloc o')) := fun o o' => ((Below.refl _ _).alloc (Nat.le_refl _) _).alloc (by simp) _
  have HR : Hid (0 ≤ r ∧ r < 4) := hr
  have HA : Hid (¬ (0 ≤ a ∧ a < 4)) := ha
  clear hr ha
  go_enter Try.func86, Try.ntmps86
  go_wp2_with (first | (go_at_call_of 78 (r); refine (Ans.says (numbers_int r _ _) HR.out).mono ?_; rintro e w' ⟨rfl, rfl⟩) | (go_at_call_of 78 (a); refine (Ans.denies (numbers_int a _ _) HA.out).mono ?_; rintro e w' ⟨rfl, rfl⟩))
  go_ret
  exact ⟨rfl, HB.out _ _⟩

set_option maxHeartbeats 400000 in
theorem im_0 (cell code : Int) (r a n : Int) (dv mp : Value) (w : World) (hr : 0 ≤ r ∧ r < 4) (ha : 0 ≤ a ∧ a < 4) :
    Calls Try.prog 86 #[.agg #[.int .i64 cell, .int .i64 code, dv, mp], .agg #[.int .i64 0, .int .i64 r, .int .i64 a, .int .i64 n]] w fun e w' => e = .returned (.bool true) ∧ Below w.heap.size w w' := by
  have HB : Hid (∀ o o', Below w.heap.size w ((w.alloc o).alloc o')) := fun o o' => ((Below.refl _ _).alloc (Nat.le_refl _) _).alloc (by simp) _
  have HR : Hid (0 ≤ r ∧ r < 4) := hr
  have HA : Hid (0 ≤ a ∧ a < 4) := ha
  clear hr ha
  go_enter Try.func86, Try.ntmps86
  go_wp2_with (first | (go_at_call_of 78 (r); refine (Ans.says (numbers_int r _ _) HR.out).mono ?_; rintro e w' ⟨rfl, rfl⟩) | (go_at_call_of 78 (a); refine (Ans.says (numbers_int a _ _) HA.out).mono ?_; rintro e w' ⟨rfl, rfl⟩))
  go_ret
  exact ⟨rfl, HB.out _ _⟩

set_option maxHeartbeats 400000 in
theorem im_1 (cell code : Int) (r a n : Int) (dv mp : Value) (w : World) (hr : 0 ≤ r ∧ r < 4) (ha : 0 ≤ a ∧ a < 4) :
    Calls Try.prog 86 #[.agg #[.int .i64 cell, .int .i64 code, dv, mp], .agg #[.int .i64 1, .int .i64 r, .int .i64 a, .int .i64 n]] w fun e w' => e = .returned (.bool true) ∧ Below w.heap.size w w' := by
  have HB : Hid (∀ o o', Below w.heap.size w ((w.alloc o).alloc o')) := fun o o' => ((Below.refl _ _).alloc (Nat.le_refl _) _).alloc (by simp) _
  have HR : Hid (0 ≤ r ∧ r < 4) := hr
  have HA : Hid (0 ≤ a ∧ a < 4) := ha
  clear hr ha
  go_enter Try.func86, Try.ntmps86
  go_wp2_with (first | (go_at_call_of 78 (r); refine (Ans.says (numbers_int r _ _) HR.out).mono ?_; rintro e w' ⟨rfl, rfl⟩) | (go_at_call_of 78 (a); refine (Ans.says (numbers_int a _ _) HA.out).mono ?_; rintro e w' ⟨rfl, rfl⟩))
  go_ret
  exact ⟨rfl, HB.out _ _⟩

set_option maxHeartbeats 400000 in
theorem im_2 (cell code : Int) (r a n : Int) (dv mp : Value) (w : World) (hr : 0 ≤ r ∧ r < 4) (ha : 0 ≤ a ∧ a < 4) :
    Calls Try.prog 86 #[.agg #[.int .i64 cell, .int .i64 code, dv, mp], .agg #[.int .i64 2, .int .i64 r, .int .i64 a, .int .i64 n]] w fun e w' => e = .returned (.bool true) ∧ Below w.heap.size w w' := by
  have HB : Hid (∀ o o', Below w.heap.size w ((w.alloc o).alloc o')) := fun o o' => ((Below.refl _ _).alloc (Nat.le_refl _) _).alloc (by simp) _
  have HR : Hid (0 ≤ r ∧ r < 4) := hr
  have HA : Hid (0 ≤ a ∧ a < 4) := ha
  clear hr ha
  go_enter Try.func86, Try.ntmps86
  go_wp2_with (first | (go_at_call_of 78 (r); refine (Ans.says (numbers_int r _ _) HR.out).mono ?_; rintro e w' ⟨rfl, rfl⟩) | (go_at_call_of 78 (a); refine (Ans.says (numbers_int a _ _) HA.out).mono ?_; rintro e w' ⟨rfl, rfl⟩))
  go_ret
  exact ⟨rfl, HB.out _ _⟩

set_option maxHeartbeats 400000 in
theorem im_3 (cell code : Int) (r a n : Int) (dv mp : Value) (w : World) (hr : 0 ≤ r ∧ r < 4) (ha : 0 ≤ a ∧ a < 4) :
    Calls Try.prog 86 #[.agg #[.int .i64 cell, .int .i64 code, dv, mp], .agg #[.int .i64 3, .int .i64 r, .int .i64 a, .int .i64 n]] w fun e w' => e = .returned (.bool true) ∧ Below w.heap.size w w' := by
  have HB : Hid (∀ o o', Below w.heap.size w ((w.alloc o).alloc o')) := fun o o' => ((Below.refl _ _).alloc (Nat.le_refl _) _).alloc (by simp) _
  have HR : Hid (0 ≤ r ∧ r < 4) := hr
  have HA : Hid (0 ≤ a ∧ a < 4) := ha
  clear hr ha
  go_enter Try.func86, Try.ntmps86
  go_wp2_with (first | (go_at_call_of 78 (r); refine (Ans.says (numbers_int r _ _) HR.out).mono ?_; rintro e w' ⟨rfl, rfl⟩) | (go_at_call_of 78 (a); refine (Ans.says (numbers_int a _ _) HA.out).mono ?_; rintro e w' ⟨rfl, rfl⟩))
  go_ret
  exact ⟨rfl, HB.out _ _⟩

set_option maxHeartbeats 400000 in
theorem im_4 (cell code : Int) (r a n : Int) (dv mp : Value) (w : World) (hr : 0 ≤ r ∧ r < 4) (ha : 0 ≤ a ∧ a < 4) :
    Calls Try.prog 86 #[.agg #[.int .i64 cell, .int .i64 code, dv, mp], .agg #[.int .i64 4, .int .i64 r, .int .i64 a, .int .i64 n]] w fun e w' => e = .returned (.bool true) ∧ Below w.heap.size w w' := by
  have HB : Hid (∀ o o', Below w.heap.size w ((w.alloc o).alloc o')) := fun o o' => ((Below.refl _ _).alloc (Nat.le_refl _) _).alloc (by simp) _
  have HR : Hid (0 ≤ r ∧ r < 4) := hr
  have HA : Hid (0 ≤ a ∧ a < 4) := ha
  clear hr ha
  go_enter Try.func86, Try.ntmps86
  go_wp2_with (first | (go_at_call_of 78 (r); refine (Ans.says (numbers_int r _ _) HR.out).mono ?_; rintro e w' ⟨rfl, rfl⟩) | (go_at_call_of 78 (a); refine (Ans.says (numbers_int a _ _) HA.out).mono ?_; rintro e w' ⟨rfl, rfl⟩))
  go_ret
  exact ⟨rfl, HB.out _ _⟩

set_option maxHeartbeats 400000 in
theorem im_5 (cell code : Int) (r a n : Int) (dv mp : Value) (w : World) (hr : 0 ≤ r ∧ r < 4) (ha : 0 ≤ a ∧ a < 4) :
    Calls Try.prog 86 #[.agg #[.int .i64 cell, .int .i64 code, dv, mp], .agg #[.int .i64 5, .int .i64 r, .int .i64 a, .int .i64 n]] w fun e w' => e = .returned (.bool true) ∧ Below w.heap.size w w' := by
  have HB : Hid (∀ o o', Below w.heap.size w ((w.alloc o).alloc o')) := fun o o' => ((Below.refl _ _).alloc (Nat.le_refl _) _).alloc (by simp) _
  have HR : Hid (0 ≤ r ∧ r < 4) := hr
  have HA : Hid (0 ≤ a ∧ a < 4) := ha
  clear hr ha
  go_enter Try.func86, Try.ntmps86
  go_wp2_with (first | (go_at_call_of 78 (r); refine (Ans.says (numbers_int r _ _) HR.out).mono ?_; rintro e w' ⟨rfl, rfl⟩) | (go_at_call_of 78 (a); refine (Ans.says (numbers_int a _ _) HA.out).mono ?_; rintro e w' ⟨rfl, rfl⟩))
  go_ret
  exact ⟨rfl, HB.out _ _⟩

set_option maxHeartbeats 400000 in
theorem im_6 (cell code : Int) (r a n : Int) (dv mp : Value) (w : World) (hr : 0 ≤ r ∧ r < 4) (ha : 0 ≤ a ∧ a < 4) :
    Calls Try.prog 86 #[.agg #[.int .i64 cell, .int .i64 code, dv, mp], .agg #[.int .i64 6, .int .i64 r, .int .i64 a, .int .i64 n]] w fun e w' => e = .returned (.bool true) ∧ Below w.heap.size w w' := by
  have HB : Hid (∀ o o', Below w.heap.size w ((w.alloc o).alloc o')) := fun o o' => ((Below.refl _ _).alloc (Nat.le_refl _) _).alloc (by simp) _
  have HR : Hid (0 ≤ r ∧ r < 4) := hr
  have HA : Hid (0 ≤ a ∧ a < 4) := ha
  clear hr ha
  go_enter Try.func86, Try.ntmps86
  go_wp2_with (first | (go_at_call_of 78 (r); refine (Ans.says (numbers_int r _ _) HR.out).mono ?_; rintro e w' ⟨rfl, rfl⟩) | (go_at_call_of 78 (a); refine (Ans.says (numbers_int a _ _) HA.out).mono ?_; rintro e w' ⟨rfl, rfl⟩))
  go_ret
  exact ⟨rfl, HB.out _ _⟩

set_option maxHeartbeats 400000 in
theorem im_7 (cell code : Int) (r a n : Int) (dv mp : Value) (w : World) (hr : 0 ≤ r ∧ r < 4) (ha : 0 ≤ a ∧ a < 4) :
    Calls Try.prog 86 #[.agg #[.int .i64 cell, .int .i64 code, dv, mp], .agg #[.int .i64 7, .int .i64 r, .int .i64 a, .int .i64 n]] w fun e w' => e = .returned (.bool true) ∧ Below w.heap.size w w' := by
  have HB : Hid (∀ o o', Below w.heap.size w ((w.alloc o).alloc o')) := fun o o' => ((Below.refl _ _).alloc (Nat.le_refl _) _).alloc (by simp) _
  have HR : Hid (0 ≤ r ∧ r < 4) := hr
  have HA : Hid (0 ≤ a ∧ a < 4) := ha
  clear hr ha
  go_enter Try.func86, Try.ntmps86
  go_wp2_with (first | (go_at_call_of 78 (r); refine (Ans.says (numbers_int r _ _) HR.out).mono ?_; rintro e w' ⟨rfl, rfl⟩) | (go_at_call_of 78 (a); refine (Ans.says (numbers_int a _ _) HA.out).mono ?_; rintro e w' ⟨rfl, rfl⟩))
  go_ret
  exact ⟨rfl, HB.out _ _⟩

set_option maxHeartbeats 400000 in
theorem im_15 (cell code : Int) (r a n : Int) (dv mp : Value) (w : World) (hr : 0 ≤ r ∧ r < 4) (ha : 0 ≤ a ∧ a < 4) :
    Calls Try.prog 86 #[.agg #[.int .i64 cell, .int .i64 code, dv, mp], .agg #[.int .i64 15, .int .i64 r, .int .i64 a, .int .i64 n]] w fun e w' => e = .returned (.bool true) ∧ Below w.heap.size w w' := by
  have HB : Hid (∀ o o', Below w.heap.size w ((w.alloc o).alloc o')) := fun o o' => ((Below.refl _ _).alloc (Nat.le_refl _) _).alloc (by simp) _
  have HR : Hid (0 ≤ r ∧ r < 4) := hr
  have HA : Hid (0 ≤ a ∧ a < 4) := ha
  clear hr ha
  go_enter Try.func86, Try.ntmps86
  go_wp2_with (first | (go_at_call_of 78 (r); refine (Ans.says (numbers_int r _ _) HR.out).mono ?_; rintro e w' ⟨rfl, rfl⟩) | (go_at_call_of 78 (a); refine (Ans.says (numbers_int a _ _) HA.out).mono ?_; rintro e w' ⟨rfl, rfl⟩))
  go_ret
  exact ⟨rfl, HB.out _ _⟩

set_option maxHeartbeats 400000 in
theorem im_other (cell code op : Int) (r a n : Int) (dv mp : Value) (w : World) (hr : 0 ≤ r ∧ r < 4) (ha : 0 ≤ a ∧ a < 4) (q0 : (op == 0) = false) (q1 : (op == 1) = false) (q2 : (op == 2) = false) (q3 : (op == 3) = false) (q4 : (op == 4) = false) (q5 : (op == 5) = false) (q6 : (op == 6) = false) (q7 : (op == 7) = false) (q8 : (op == 8) = false) (q9 : (op == 9) = false) (q10 : (op == 10) = false) (q11 : (op == 11) = false) (q12 : (op == 12) = false) (q13 : (op == 13) = false) (q14 : (op == 14) = false) (q15 : (op == 15) = false) (q16 : (op == 16) = false) :
    Calls Try.prog 86 #[.agg #[.int .i64 cell, .int .i64 code, dv, mp], .agg #[.int .i64 op, .int .i64 r, .int .i64 a, .int .i64 n]] w fun e w' => e = .returned (.bool false) ∧ Below w.heap.size w w' := by
  have HB : Hid (∀ o o', Below w.heap.size w ((w.alloc o).alloc o')) := fun o o' => ((Below.refl _ _).alloc (Nat.le_refl _) _).alloc (by simp) _
  have HR : Hid (0 ≤ r ∧ r < 4) := hr
  have HA : Hid (0 ≤ a ∧ a < 4) := ha
  clear hr ha
  go_enter Try.func86, Try.ntmps86
  go_wp2_with (first | (go_at_call_of 78 (r); refine (Ans.says (numbers_int r _ _) HR.out).mono ?_; rintro e w' ⟨rfl, rfl⟩) | (go_at_call_of 78 (a); refine (Ans.says (numbers_int a _ _) HA.out).mono ?_; rintro e w' ⟨rfl, rfl⟩))
  go_ret
  exact ⟨rfl, HB.out _ _⟩

set_option maxHeartbeats 400000 in
theorem im_8 (cell code : Int) (r a n : Int) (dv mp : Value) (w : World) (hr : 0 ≤ r ∧ r < 4) (ha : 0 ≤ a ∧ a < 4) :
    Calls Try.prog 86 #[.agg #[.int .i64 cell, .int .i64 code, dv, mp], .agg #[.int .i64 8, .int .i64 r, .int .i64 a, .int .i64 n]] w (Ans (0 ≤ n ∧ n < code) (Below w.heap.size w)) := by
  have HB : Hid (∀ o o', Below w.heap.size w ((w.alloc o).alloc o')) := fun o o' => ((Below.refl _ _).alloc (Nat.le_refl _) _).alloc (by simp) _
  have HR : Hid (0 ≤ r ∧ r < 4) := hr
  have HA : Hid (0 ≤ a ∧ a < 4) := ha
  clear hr ha
  go_enter Try.func86, Try.ntmps86
  go_wp2_with (first | (go_at_call_of 78 (r); refine (Ans.says (numbers_int r _ _) HR.out).mono ?_; rintro e w' ⟨rfl, rfl⟩) | (go_at_call_of 78 (a); refine (Ans.says (numbers_int a _ _) HA.out).mono ?_; rintro e w' ⟨rfl, rfl⟩) | (go_at_call 93; refine (numbers_int64 n code _).mono ?_; rintro e w' ⟨b, rfl, hiff, rfl⟩))
  go_ret
  exact Ans.of hiff (HB.out _ _)

set_option maxHeartbeats 400000 in
theorem im_9 (cell code : Int) (r a n : Int) (dv mp : Value) (w : World) (hr : 0 ≤ r ∧ r < 4) (ha : 0 ≤ a ∧ a < 4) :
    Calls Try.prog 86 #[.agg #[.int .i64 cell, .int .i64 code, dv, mp], .agg #[.int .i64 9, .int .i64 r, .int .i64 a, .int .i64 n]] w (Ans (0 ≤ n ∧ n < code) (Below w.heap.size w)) := by
  have HB : Hid (∀ o o', Below w.heap.size w ((w.alloc o).alloc o')) := fun o o' => ((Below.refl _ _).alloc (Nat.le_refl _) _).alloc (by simp) _
  have HR : Hid (0 ≤ r ∧ r < 4) := hr
  have HA : Hid (0 ≤ a ∧ a < 4) := ha
  clear hr ha
  go_enter Try.func86, Try.ntmps86
  go_wp2_with (first | (go_at_call_of 78 (r); refine (Ans.says (numbers_int r _ _) HR.out).mono ?_; rintro e w' ⟨rfl, rfl⟩) | (go_at_call_of 78 (a); refine (Ans.says (numbers_int a _ _) HA.out).mono ?_; rintro e w' ⟨rfl, rfl⟩) | (go_at_call 93; refine (numbers_int64 n code _).mono ?_; rintro e w' ⟨b, rfl, hiff, rfl⟩))
  go_ret
  exact Ans.of hiff (HB.out _ _)

set_option maxHeartbeats 400000 in
theorem im_10 (c : Cfg) (cell code r a n : Int) (dv : Value) (b : Nat) (w : World) (hr : 0 ≤ r ∧ r < 4) (ha : 0 ≤ a ∧ a < 4) (hu : UsersR w b c) (wn : (Lit.int .i64 n).wf = true) :
    Calls Try.prog 86 #[.agg #[.int .i64 cell, .int .i64 code, dv, .map (some b)], .agg #[.int .i64 10, .int .i64 r, .int .i64 a, .int .i64 n]] w (Ans (UseOk c cell n 1 1) (Below w.heap.size w)) := by
  have HB : Hid (∀ o o', Below w.heap.size w ((w.alloc o).alloc o')) := fun o o' => ((Below.refl _ _).alloc (Nat.le_refl _) _).alloc (by simp) _
  have HR : Hid (0 ≤ r ∧ r < 4) := hr
  have HA : Hid (0 ≤ a ∧ a < 4) := ha
  clear hr ha
  have HU : Hid (UsersR w b c) := hu
  have HN : Hid ((Lit.int .i64 n).wf = true) := wn
  clear hu wn
  go_enter Try.func86, Try.ntmps86
  go_wp2_with (first | (go_at_call_of 78 (r); refine (Ans.says (numbers_int r _ _) HR.out).mono ?_; rintro e w' ⟨rfl, rfl⟩) | (go_at_call_of 78 (a); refine (Ans.says (numbers_int a _ _) HA.out).mono ?_; rintro e w' ⟨rfl, rfl⟩) | (go_at_call 94; refine (mayUse_1 c cell code 1 n dv b _ (by exact usersR_alloc (usersR_alloc HU.out _) _) (wfi (by omega) (by omega)) HN.out).mono ?_; rintro e w' ⟨b, rfl, hiff, hbel⟩))
  go_ret
  exact Ans.of hiff (below2 hbel)

set_option maxHeartbeats 400000 in
theorem im_11 (c : Cfg) (cell code r a n : Int) (dv : Value) (b : Nat) (w : World) (hr : 0 ≤ r ∧ r < 4) (ha : 0 ≤ a ∧ a < 4) (hu : UsersR w b c) (wn : (Lit.int .i64 n).wf = true) :
    Calls Try.prog 86 #[.agg #[.int .i64 cell, .int .i64 code, dv, .map (some b)], .agg #[.int .i64 11, .int .i64 r, .int .i64 a, .int .i64 n]] w (Ans (UseOk c cell n 2 1) (Below w.heap.size w)) := by
  have HB : Hid (∀ o o', Below w.heap.size w ((w.alloc o).alloc o')) := fun o o' => ((Below.refl _ _).alloc (Nat.le_refl _) _).alloc (by simp) _
  have HR : Hid (0 ≤ r ∧ r < 4) := hr
  have HA : Hid (0 ≤ a ∧ a < 4) := ha
  clear hr ha
  have HU : Hid (UsersR w b c) := hu
  have HN : Hid ((Lit.int .i64 n).wf = true) := wn
  clear hu wn
  go_enter Try.func86, Try.ntmps86
  go_wp2_with (first | (go_at_call_of 78 (r); refine (Ans.says (numbers_int r _ _) HR.out).mono ?_; rintro e w' ⟨rfl, rfl⟩) | (go_at_call_of 78 (a); refine (Ans.says (numbers_int a _ _) HA.out).mono ?_; rintro e w' ⟨rfl, rfl⟩) | (go_at_call 94; refine (mayUse_1 c cell code 2 n dv b _ (by exact usersR_alloc (usersR_alloc HU.out _) _) (wfi (by omega) (by omega)) HN.out).mono ?_; rintro e w' ⟨b, rfl, hiff, hbel⟩))
  go_ret
  exact Ans.of hiff (below2 hbel)

set_option maxHeartbeats 400000 in
theorem im_12 (c : Cfg) (cell code r a n : Int) (dv : Value) (b : Nat) (w : World) (hr : 0 ≤ r ∧ r < 4) (ha : 0 ≤ a ∧ a < 4) (hu : UsersR w b c) (wn : (Lit.int .i64 n).wf = true) :
    Calls Try.prog 86 #[.agg #[.int .i64 cell, .int .i64 code, dv, .map (some b)], .agg #[.int .i64 12, .int .i64 r, .int .i64 a, .int .i64 n]] w (Ans (UseOk c cell n 1 2) (Below w.heap.size w)) := by
  have HB : Hid (∀ o o', Below w.heap.size w ((w.alloc o).alloc o')) := fun o o' => ((Below.refl _ _).alloc (Nat.le_refl _) _).alloc (by simp) _
  have HR : Hid (0 ≤ r ∧ r < 4) := hr
  have HA : Hid (0 ≤ a ∧ a < 4) := ha
  clear hr ha
  have HU : Hid (UsersR w b c) := hu
  have HN : Hid ((Lit.int .i64 n).wf = true) := wn
  clear hu wn
  go_enter Try.func86, Try.ntmps86
  go_wp2_with (first | (go_at_call_of 78 (r); refine (Ans.says (numbers_int r _ _) HR.out).mono ?_; rintro e w' ⟨rfl, rfl⟩) | (go_at_call_of 78 (a); refine (Ans.says (numbers_int a _ _) HA.out).mono ?_; rintro e w' ⟨rfl, rfl⟩) | (go_at_call 94; refine (mayUse_2 c cell code 1 n dv b _ (by exact usersR_alloc (usersR_alloc HU.out _) _) (wfi (by omega) (by omega)) HN.out).mono ?_; rintro e w' ⟨b, rfl, hiff, hbel⟩))
  go_ret
  exact Ans.of hiff (below2 hbel)

set_option maxHeartbeats 400000 in
theorem im_16 (c : Cfg) (cell code r a n : Int) (dv : Value) (b : Nat) (w : World) (hr : 0 ≤ r ∧ r < 4) (ha : 0 ≤ a ∧ a < 4) (hu : UsersR w b c) (wn : (Lit.int .i64 n).wf = true) :
    Calls Try.prog 86 #[.agg #[.int .i64 cell, .int .i64 code, dv, .map (some b)], .agg #[.int .i64 16, .int .i64 r, .int .i64 a, .int .i64 n]] w (Ans (UseOk c cell n 1 2) (Below w.heap.size w)) := by
  have HB : Hid (∀ o o', Below w.heap.size w ((w.alloc o).alloc o')) := fun o o' => ((Below.refl _ _).alloc (Nat.le_refl _) _).alloc (by simp) _
  have HR : Hid (0 ≤ r ∧ r < 4) := hr
  have HA : Hid (0 ≤ a ∧ a < 4) := ha
  clear hr ha
  have HU : Hid (UsersR w b c) := hu
  have HN : Hid ((Lit.int .i64 n).wf = true) := wn
  clear hu wn
  go_enter Try.func86, Try.ntmps86
  go_wp2_with (first | (go_at_call_of 78 (r); refine (Ans.says (numbers_int r _ _) HR.out).mono ?_; rintro e w' ⟨rfl, rfl⟩) | (go_at_call_of 78 (a); refine (Ans.says (numbers_int a _ _) HA.out).mono ?_; rintro e w' ⟨rfl, rfl⟩) | (go_at_call 94; refine (mayUse_2 c cell code 1 n dv b _ (by exact usersR_alloc (usersR_alloc HU.out _) _) (wfi (by omega) (by omega)) HN.out).mono ?_; rintro e w' ⟨b, rfl, hiff, hbel⟩))
  go_ret
  exact Ans.of hiff (below2 hbel)

set_option maxHeartbeats 400000 in
theorem im_13 (c : Cfg) (cell code r a n : Int) (dv : Value) (b : Nat) (w : World) (hr : 0 ≤ r ∧ r < 4) (ha : 0 ≤ a ∧ a < 4) (hu : UsersR w b c) (wn : (Lit.int .i64 n).wf = true) :
    Calls Try.prog 86 #[.agg #[.int .i64 cell, .int .i64 code, dv, .map (some b)], .agg #[.int .i64 13, .int .i64 r, .int .i64 a, .int .i64 n]] w (Ans (UseOk c cell n 2 2) (Below w.heap.size w)) := by
  have HB : Hid (∀ o o', Below w.heap.size w ((w.alloc o).alloc o')) := fun o o' => ((Below.refl _ _).alloc (Nat.le_refl _) _).alloc (by simp) _
  have HR : Hid (0 ≤ r ∧ r < 4) := hr
  have HA : Hid (0 ≤ a ∧ a < 4) := ha
  clear hr ha
  have HU : Hid (UsersR w b c) := hu
  have HN : Hid ((Lit.int .i64 n).wf = true) := wn
  clear hu wn
  go_enter Try.func86, Try.ntmps86
  go_wp2_with (first | (go_at_call_of 78 (r); refine (Ans.says (numbers_int r _ _) HR.out).mono ?_; rintro e w' ⟨rfl, rfl⟩) | (go_at_call_of 78 (a); refine (Ans.says (numbers_int a _ _) HA.out).mono ?_; rintro e w' ⟨rfl, rfl⟩) | (go_at_call 94; refine (mayUse_2 c cell code 2 n dv b _ (by exact usersR_alloc (usersR_alloc HU.out _) _) (wfi (by omega) (by omega)) HN.out).mono ?_; rintro e w' ⟨b, rfl, hiff, hbel⟩))
  go_ret
  exact Ans.of hiff (below2 hbel)

set_option maxHeartbeats 400000 in
theorem im_14 (c : Cfg) (cell code r a n : Int) (p : Option Addr) (cap : Nat) (mp : Value) (w : World) (hr : 0 ≤ r ∧ r < 4) (ha : 0 ≤ a ∧ a < 4) (hs : Sl w p c.nD (fun j => .int .i64 (c.dv j))) (hb : c.nD ≤ 4) :
    Calls Try.prog 86 #[.agg #[.int .i64 cell, .int .i64 code, .slice p c.nD cap, mp], .agg #[.int .i64 14, .int .i64 r, .int .i64 a, .int .i64 n]] w (Ans (0 ≤ n ∧ n < c.nD ∧ c.dv n.toNat = cell) (Below w.heap.size w)) := by
  have HB : Hid (∀ o o', Below w.heap.size w ((w.alloc o).alloc o')) := fun o o' => ((Below.refl _ _).alloc (Nat.le_refl _) _).alloc (by simp) _
  have HR : Hid (0 ≤ r ∧ r < 4) := hr
  have HA : Hid (0 ≤ a ∧ a < 4) := ha
  clear hr ha
  have HS : Hid (Sl w p c.nD (fun j => .int .i64 (c.dv j))) := hs
  clear hs
  by_cases h0 : 0 ≤ n ∧ n < (c.nD : Int)
  · have HX : Hid (0 ≤ n ∧ n < (c.nD : Int)) := h0
    obtain ⟨m, rfl⟩ := Int.eq_ofNat_of_zero_le h0.1
    obtain ⟨bd, off, rfl, hc⟩ := HS.out.at (by omega)
    have c0 := hc m (by omega)
    have hlt : bd < w.heap.size := block_lt_of_cell c0
    clear hc
    rw [Int.toNat_natCast]
    generalize c.dv m = x at *
    have hm : m < c.nD := by omega
    clear h0
    have HQ : Hid (∀ W : World, Calls Try.prog 93 #[.int .i64 m, .int .i64 c.nD] W fun e w' => e = .returned (.bool true) ∧ w' = W) := fun W => Ans.says (numbers_int64 m c.nD W) HX.out
    go_enter Try.func86, Try.ntmps86
    go_wp2_with (first | (go_at_call_of 78 (r); refine (Ans.says (numbers_int r _ _) HR.out).mono ?_; rintro e w' ⟨rfl, rfl⟩) | (go_at_call_of 78 (a); refine (Ans.says (numbers_int a _ _) HA.out).mono ?_; rintro e w' ⟨rfl, rfl⟩))
    go_quiet ((go_at_call 93; exact Calls.quiet_of_same (HQ.out _)))
    go_wp2_with fail
    go_ret
    exact Ans.of (b := (x == cell)) (by simp only [beq_iff_eq]; omega) (below_drewN (HB.out _ _) _)
  · have HX : Hid (¬ (0 ≤ n ∧ n < (c.nD : Int))) := h0
    have HN : Hid (¬ (0 ≤ n ∧ n < (c.nD : Int) ∧ c.dv n.toNat = cell)) := fun h => h0 ⟨h.1, h.2.1⟩
    clear h0
    have HQ : Hid (∀ W : World, Calls Try.prog 93 #[.int .i64 n, .int .i64 c.nD] W fun e w' => e = .returned (.bool false) ∧ w' = W) := fun W => Ans.denies (numbers_int64 n c.nD W) HX.out
    go_enter Try.func86, Try.ntmps86
    go_wp2_with (first | (go_at_call_of 78 (r); refine (Ans.says (numbers_int r _ _) HR.out).mono ?_; rintro e w' ⟨rfl, rfl⟩) | (go_at_call_of 78 (a); refine (Ans.says (numbers_int a _ _) HA.out).mono ?_; rintro e w' ⟨rfl, rfl⟩))
    go_quiet ((go_at_call 93; exact Calls.quiet_of_same (HQ.out _)))
    go_wp2_with fail
    go_ret
    exact Ans.no HN.out (below_drewN (HB.out _ _) _)

end Go.Proofs.Ytdoghgnifkgfdaa
