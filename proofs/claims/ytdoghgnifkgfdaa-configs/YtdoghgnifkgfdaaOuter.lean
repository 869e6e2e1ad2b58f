/-
  outer: the outer lists of a config that was lent, once more.
-/
import Derived.Test.YtdoghgnifkgfdaaLent2
namespace Go.Proofs.Ytdoghgnifkgfdaa
open Go.RowKit

def zeroC (j : Nat) : Value := if j % 3 = 2 then .int .i64 0 else .slice none 0 0
theorem zero_cellsC (j : Nat) : (Value.agg #[.slice none 0 0, .slice none 0 0, .int .i64 0]).cells[j % (Value.agg #[.slice none 0 0, .slice none 0 0, .int .i64 0]).cells.size]! = zeroC j := by
  have h : (Value.agg #[.slice none 0 0, .slice none 0 0, .int .i64 0]).cells = #[.slice none 0 0, .slice none 0 0, .int .i64 0] := rfl
  rw [h]
  have : j % 3 = 0 ∨ j % 3 = 1 ∨ j % 3 = 2 := by omega
  unfold zeroC
  rcases this with e | e | e <;> simp [e]
theorem zero_cellsS (j : Nat) : (Value.slice none 0 0).cells[j % (Value.slice none 0 0).cells.size]! = Value.slice none 0 0 := by
  have h : (Value.slice none 0 0).cells = #[.slice none 0 0] := rfl
  rw [h]
  have : j % 1 = 0 := by omega
  simp [this]

/-- The list of cells that is handed in: its spare room holds others. -/
def outC (n : Nat) (F : Nat → Value) (j : Nat) : Value := if j < n * 3 then F j else if j % 3 = 2 then .int .i64 (-77) else .slice none 0 0
def outT (m : Nat) (G : Nat → Value) (j : Nat) : Value := if j < m then G j else .slice none 0 0
def outTo (n k : Nat) (F : Nat → Value) (j : Nat) : Value := if j < n * 3 then F j else if j < k * 3 then (if j % 3 = 2 then .int .i64 (-77) else .slice none 0 0) else zeroC j

theorem outstep (n k j : Nat) (F : Nat → Value) (hk : n ≤ k) : (if j = k * 3 + 2 then Value.int .i64 (-77) else if j = k * 3 + 1 then .slice none 0 0 else if j = k * 3 then .slice none 0 0 else outTo n k F j) = outTo n (k + 1) F j := by
  unfold outTo
  repeat' split
  all_goals first
    | rfl
    | (exfalso; omega)

set_option maxHeartbeats 1000000 in
theorem outer_any (n m cap0 cap1 : Nat) (p0 p1 : Option Addr) (F G : Nat → Value) (v2 v3 : Value) (w : World) (s0 : Sl w p0 (n * 3) F) (s1 : Sl w p1 m G) (z0 : p0 = none → n = 0) (z1 : p1 = none → m = 0) (o0 : ∀ j, j < n * 3 → (F j).oneCell' = true) (o1 : ∀ j, j < m → (G j).oneCell' = true)
    (b0 : 56 * n ≤ 140737488355328) (b1 : 24 * m ≤ 140737488355328) :
    Calls Try.prog 20 #[.agg #[.slice p0 n cap0, .slice p1 m cap1, v2, v3]] w fun e w' =>
      e = .returned (.tuple #[.slice (some ⟨w.heap.size + 1, 0, none⟩) (n + 2 : Nat) (n + 2 : Nat), .slice (some ⟨w.heap.size + 1 + 1, 0, none⟩) (m + 2 : Nat) (m + 2 : Nat)]) ∧ w'.heap.size = w.heap.size + 1 + 1 + 1 ∧ Below w.heap.size w w' ∧
      RowF w' (w.heap.size + 1) ((n + 2) * 3) 70 (outC n F) ∧ RowF w' (w.heap.size + 1 + 1) (m + 2) 63 (outT m G) := by
  have hb0 : n ≤ 2513169434916 := by omega
  have hb1 : m ≤ 5864062014805 := by omega
  have S0 : Hid (Sl w p0 (n * 3) F) := s0
  have S1 : Hid (Sl w p1 m G) := s1
  have Z0 : Hid (p0 = none → n = 0) := z0
  have Z1 : Hid (p1 = none → m = 0) := z1
  have O0 : Hid (∀ j, j < n * 3 → (F j).oneCell' = true) := o0
  have O1 : Hid (∀ j, j < m → (G j).oneCell' = true) := o1
  have M0 : Hid (56 * (n + 2) ≤ 281474976710656) := by show _ ≤ _; omega
  have M1 : Hid (24 * (m + 2) ≤ 281474976710656) := by show _ ≤ _; omega
  clear s0 s1 z0 z1 o0 o1 b0 b1
  go_enter Try.func20, Try.ntmps20
  go_wp2_with (at_make; refine wpList_make_rowF _ rfl _ _ 34 rfl 70 _ 3 56 Try.underlying34 info_cell _ _ _ _ (n + 2) rfl rfl (by omega) (by omega) M0.out (by simp only [maxLen]; omega) zeroC (fun j _ => zero_cellsC j) ?_)
  intro w1 hrow1 hsz1 hbel1
  have R0 := (row4 w (.slice p0 n cap0) (.slice p1 m cap1) v2 v3 39).below hbel1 (by simp)
  obtain ⟨x0, x1, -, -⟩ := R0.at4
  have HB1 : Hid (Below (w.heap.size + 1) (w.alloc (.cells #[.slice p0 n cap0, .slice p1 m cap1, v2, v3] 39)) w1) := hbel1.mono (by simp)
  have HZ1 : Hid (w1.heap.size = w.heap.size + 1 + 1) := by show _ = _; simpa using hsz1
  have HR1 : Hid (RowF w1 (w.heap.size + 1) ((n + 2) * 3) 70 zeroC) := by show RowF _ _ _ _ _; simpa using hrow1
  clear hrow1 hsz1 hbel1 R0
  go_wp2_with (refine wpList_copy_rowF rfl _ _ _ _ rfl 70 _ 3 56 Try.underlying34 info_cell (w.heap.size + 1) (n + 2) (n + 2) p0 n cap0 rfl rfl ((n + 2) * 3) 70 zeroC F (by omega) HR1.out (by omega) (S0.out.below (box_below HB1.out)) O0.out Z0.out ?_)
  intro w2 hrow2 hgr2 hsz2
  have y0 := hgr2.cell x0 (by simp)
  have y1 := hgr2.cell x1 (by simp)
  have HB2 : Hid (Below (w.heap.size + 1) (w.alloc (.cells #[.slice p0 n cap0, .slice p1 m cap1, v2, v3] 39)) w2) := HB1.out.grown hgr2 (by have := HZ1.out; omega) (fun k hk => by simp at hk; omega)
  have HZ2 : Hid (w2.heap.size = w.heap.size + 1 + 1) := hsz2.trans HZ1.out
  have HR2 : Hid (RowF w2 (w.heap.size + 1) ((n + 2) * 3) 70 (outTo n n F)) := hrow2.congr (fun j _ => by unfold outTo; by_cases h : j < n * 3 <;> simp [h])
  clear hrow2 hgr2 hsz2 x0 x1 HB1 HZ1 HR1
  go_wp2_with fail
  go_loopw [5] (fun i wr => ∃ k : Nat, n ≤ k ∧ k ≤ n + 2 ∧ i = .int .i64 k ∧ Hid (wr.heap.size = w.heap.size + 1 + 1) ∧ Hid (Below (w.heap.size + 1) (w.alloc (.cells #[.slice p0 n cap0, .slice p1 m cap1, v2, v3] 39)) wr) ∧ Hid (RowF wr (w.heap.size + 1) ((n + 2) * 3) 70 (outTo n k F)))
    (fun i _ => n + 2 - (intOf i).toNat)
  case atStart => exact ⟨n, Nat.le_refl _, by omega, rfl, HZ2, HB2, HR2⟩
  case round =>
    obtain ⟨k, hk1, hk2, rfl, HZ, HB, HR⟩ := hrel
    by_cases hlt : k < n + 2
    · have HP : Hid (∀ j, _) := fun j => outstep n k j F hk1
      have c0 := HR.out.cell (j := k * 3) (by omega)
      have c1 := HR.out.cell (j := k * 3 + 1) (by omega)
      have c2 := HR.out.cell (j := k * 3 + 2) (by omega)
      have f0 := HR.out.frozen (k * 3)
      have f1 := HR.out.frozen (k * 3 + 1)
      have f2 := HR.out.frozen (k * 3 + 2)
      go_wp2
      go_roundw
      case rel => exact ⟨k + 1, by omega, by omega, by go_num, by show _ = _; rw [size_setCell, size_setCell, size_setCell]; exact HZ.out, ((HB.out.setCell (Nat.le_refl _) _).setCell (Nat.le_refl _) _).setCell (Nat.le_refl _) _, (((HR.out.set (k * 3) _).set (k * 3 + 1) _).set (k * 3 + 2) _).congr (fun j _ => HP.out j)⟩
      case measure => simp [intOf]; omega
    · obtain rfl : k = n + 2 := by omega
      clear hlt hk1 hk2
      obtain ⟨x0, x1, -, -⟩ := box4 HB.out
      have hl0 : w.heap.size < wr.heap.size := block_lt_of_cell x0
      go_wp2_with (at_make; refine wpList_make_rowF _ rfl _ _ 35 rfl 63 _ 1 24 Try.underlying35 info_row _ _ _ _ (m + 2) rfl rfl (by omega) (by omega) M1.out (by simp only [maxLen]; omega) (fun _ => .slice none 0 0) (fun j _ => zero_cellsS j) ?_)
      intro w3 hrow3 hsz3 hbel3
      have q1 := (hbel3.cell (p := ⟨w.heap.size, 1, none⟩) hl0).trans x1
      have HB3 : Hid (Below (w.heap.size + 1) (w.alloc (.cells #[.slice p0 n cap0, .slice p1 m cap1, v2, v3] 39)) w3) := box_step HB.out hbel3
      have HZ3 : Hid (w3.heap.size = w.heap.size + 1 + 1 + 1) := by show _ = _; rw [hsz3, HZ.out]
      have HR3 : Hid (RowF w3 wr.heap.size (m + 2) 63 (fun _ => .slice none 0 0)) := by show RowF _ _ _ _ _; simpa using hrow3
      have HC3 : Hid (RowF w3 (w.heap.size + 1) ((n + 2) * 3) 70 (outTo n (n + 2) F)) := HR.out.below hbel3 (by have := HZ.out; omega)
      clear hrow3 hsz3 hbel3 x0 x1 HR HB
      go_wp2_with (refine wpList_copy_rowF rfl _ _ _ _ rfl 63 _ 1 24 Try.underlying35 info_row wr.heap.size (m + 2) (m + 2) p1 m cap1 rfl rfl (m + 2) 63 (fun _ => .slice none 0 0) G (by omega) HR3.out (by omega) (by rw [Nat.mul_one]; exact S1.out.below (box_below HB3.out)) (by simpa using O1.out) Z1.out ?_)
      intro w4 hrow4 hgr4 hsz4
      have HB4 : Hid (Below w.heap.size w w4) := (box_below HB3.out).grown hgr4 (by have := HZ3.out; omega) (fun k hk => by simp at hk; have := HZ.out; omega)
      have HC4 : Hid (RowF w4 (w.heap.size + 1) ((n + 2) * 3) 70 (outTo n (n + 2) F)) := HC3.out.of_heap (hgr4.block _ (by have := HZ3.out; omega) (by have := HZ.out; simp; omega))
      have HZ4 : Hid (w4.heap.size = w.heap.size + 1 + 1 + 1) := hsz4.trans HZ3.out
      have HR4 : Hid (RowF w4 wr.heap.size (m + 2) 63 (outT m G)) := hrow4.congr (fun j _ => by unfold outT; by_cases h : j < m <;> simp [h])
      clear hrow4 hgr4 hsz4 q1
      go_wp2_with fail
      go_ret2
      have hEq : wr.heap.size = w.heap.size + 1 + 1 := HZ.out
      rw [← hEq]
      exact ⟨rfl, HZ4.out.trans (by rw [hEq]), HB4.out, HC4.out.congr (fun j hj => by unfold outTo outC; by_cases h : j < n * 3 <;> simp [h, hj]), HR4.out⟩

end Go.Proofs.Ytdoghgnifkgfdaa
