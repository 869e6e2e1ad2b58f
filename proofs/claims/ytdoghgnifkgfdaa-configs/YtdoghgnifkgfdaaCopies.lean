/-
  What the five functions do that copy a list into one with two more elements (codes, numbers, windows, chans, devs).
-/
import Derived.Test.YtdoghgnifkgfdaaProg
import Derived.Test.YtdoghgnifkgfdaaBase
namespace Go.Proofs.Ytdoghgnifkgfdaa
open Go.RowKit

theorem info_codes : (Try.prog.info? 73).map (fun i => (i.zero, i.size, i.bytes)) = some (some (.agg #[.int .i64 0, .int .i64 0, .int .i64 0, .int .i64 0]), 4, 32) := by kernel_rfl

set_option maxHeartbeats 400000 in
theorem codes_any (p : Option Addr) (n cap : Nat) (z : Nat → Int) (w : World) (hs : Sl w p (n * 4) (fun j => .int .i64 (z j))) (hn : p = none → n = 0) (hb : 32 * n ≤ 140737488355328) :
    Calls Try.prog 36 #[.slice p n cap] w fun e w' => e = .returned (.slice (some ⟨w.heap.size, 0, none⟩) (n + 2 : Nat) (n + 2 : Nat)) ∧ w'.heap.size = w.heap.size + 1 ∧ Below w.heap.size w w' ∧
      RowF w' w.heap.size ((n + 2) * 4) 73 (fun j => .int .i64 (padZ 4 n z j)) := by
  have hB : n ≤ 17592186044416 := by omega
  have HM : Hid (32 * (n + 2) ≤ 281474976710656) := by show _ ≤ _; omega
  have HS : Hid (Sl w p (n * 4) (fun j => .int .i64 (z j))) := hs
  have HN : Hid (p = none → n = 0) := hn
  clear hs hn hb
  go_enter Try.func36, Try.ntmps36
  go_wp2_with (at_make; refine wpList_make_rowF _ rfl _ _ 68 rfl 73 _ 4 32 Try.underlying68 info_codes _ _ _ _ (n + 2) rfl rfl (by omega) (by omega) HM.out (by simp only [maxLen]; omega) (fun _ => .int .i64 0) (fun j _ => zero_cells4 j) ?_)
  intro w1 hrow1 hsz1 hbel1
  have HR1 : Hid (RowF w1 w.heap.size ((n + 2) * 4) 73 (fun _ => .int .i64 0)) := hrow1
  have HZ1 : Hid (w1.heap.size = w.heap.size + 1) := hsz1
  clear hrow1 hsz1
  go_wp2_with (refine wpList_copy_rowF rfl _ _ _ _ rfl 73 _ 4 32 Try.underlying68 info_codes w.heap.size (n + 2) (n + 2) p n cap rfl rfl ((n + 2) * 4) 73 (fun _ => .int .i64 0) (fun j => .int .i64 (z j)) (by omega) HR1.out (by omega) (HS.out.below hbel1) (fun _ _ => rfl) HN.out ?_)
  intro w2 hrow2 hgr2 hsz2
  have HR2 : Hid (RowF w2 w.heap.size ((n + 2) * 4) 73 (fun j => if j < n * 4 then .int .i64 (z j) else .int .i64 0)) := hrow2
  have HZ2 : Hid (w2.heap.size = w.heap.size + 1) := hsz2.trans HZ1.out
  have HB2 : Hid (Below w.heap.size w w2) := hbel1.grown hgr2 (by rw [HZ1.out]; omega) (fun k hk => by simp at hk; omega)
  clear hrow2 hsz2 hgr2 hbel1 HR1 HZ1 HS HN HM
  go_wp2_with fail
  go_loopw [4] (fun i wr => ∃ k : Nat, n ≤ k ∧ k ≤ n + 2 ∧ i = .int .i64 k ∧ Hid (wr.heap.size = w.heap.size + 1) ∧ Hid (Below w.heap.size w wr) ∧ Hid (RowF wr w.heap.size ((n + 2) * 4) 73 (fun j => .int .i64 (if j < n * 4 then z j else if j < k * 4 then (if j % 4 = 0 then -77 else 0) else 0))))
    (fun i _ => n + 2 - (intOf i).toNat)
  case atStart => exact ⟨n, Nat.le_refl _, by omega, rfl, HZ2, HB2, HR2.out.congr (fun j _ => by by_cases h : j < n * 4 <;> simp [h])⟩
  case round =>
    obtain ⟨k, hk1, hk2, rfl, HZ, HB, HR⟩ := hrel
    by_cases hlt : k < n + 2
    · have HP : Hid (∀ j, _) := fun j => padstep4 k n j z hk1
      have c0 := HR.out.cell (j := k * 4) (by omega)
      have c1 := HR.out.cell (j := k * 4 + 1) (by omega)
      have c2 := HR.out.cell (j := k * 4 + 2) (by omega)
      have c3 := HR.out.cell (j := k * 4 + 3) (by omega)
      have f0 := HR.out.frozen (k * 4)
      have f1 := HR.out.frozen (k * 4 + 1)
      have f2 := HR.out.frozen (k * 4 + 2)
      have f3 := HR.out.frozen (k * 4 + 3)
      go_wp2
      go_roundw
      case rel => exact ⟨k + 1, by omega, by omega, by go_num, by show _ = _; rw [size_setCell, size_setCell, size_setCell, size_setCell]; exact HZ.out, ((((HB.out.setCell (Nat.le_refl _) _).setCell (Nat.le_refl _) _).setCell (Nat.le_refl _) _).setCell (Nat.le_refl _) _), ((((HR.out.set (k * 4) _).set (k * 4 + 1) _).set (k * 4 + 2) _).set (k * 4 + 3) _).congr (fun j _ => HP.out j)⟩
      case measure => simp [intOf]; omega
    · obtain rfl : k = n + 2 := by omega
      go_wp2
      go_ret
      exact ⟨rfl, HZ.out, HB.out, HR.out.congr (fun j hj => by simp [padZ, hj])⟩

theorem info_numbers : (Try.prog.info? 2).map (fun i => (i.zero, i.size, i.bytes)) = some (some (.int .i64 0), 1, 8) := by kernel_rfl

set_option maxHeartbeats 400000 in
theorem numbers_any (p : Option Addr) (n cap : Nat) (z : Nat → Int) (w : World) (hs : Sl w p (n) (fun j => .int .i64 (z j))) (hn : p = none → n = 0) (hb : 8 * n ≤ 140737488355328) :
    Calls Try.prog 37 #[.slice p n cap] w fun e w' => e = .returned (.slice (some ⟨w.heap.size, 0, none⟩) (n + 2 : Nat) (n + 2 : Nat)) ∧ w'.heap.size = w.heap.size + 1 ∧ Below w.heap.size w w' ∧
      RowF w' w.heap.size ((n + 2) * 1) 2 (fun j => .int .i64 (padZ 1 n z j)) := by
  have hB : n ≤ 17592186044416 := by omega
  have HM : Hid (8 * (n + 2) ≤ 281474976710656) := by show _ ≤ _; omega
  have HS : Hid (Sl w p (n) (fun j => .int .i64 (z j))) := hs
  have HN : Hid (p = none → n = 0) := hn
  clear hs hn hb
  go_enter Try.func37, Try.ntmps37
  go_wp2_with (at_make; refine wpList_make_rowF _ rfl _ _ 56 rfl 2 _ 1 8 Try.underlying56 info_numbers _ _ _ _ (n + 2) rfl rfl (by omega) (by omega) HM.out (by simp only [maxLen]; omega) (fun _ => .int .i64 0) (fun j _ => zero_cells1 j) ?_)
  intro w1 hrow1 hsz1 hbel1
  have HR1 : Hid (RowF w1 w.heap.size (n + 2) 2 (fun _ => .int .i64 0)) := hrow1
  have HZ1 : Hid (w1.heap.size = w.heap.size + 1) := hsz1
  clear hrow1 hsz1
  go_wp2_with (refine wpList_copy_rowF rfl _ _ _ _ rfl 2 _ 1 8 Try.underlying56 info_numbers w.heap.size (n + 2) (n + 2) p n cap rfl rfl (n + 2) 2 (fun _ => .int .i64 0) (fun j => .int .i64 (z j)) (by omega) HR1.out (by omega) (by rw [Nat.mul_one]; exact HS.out.below hbel1) (fun _ _ => rfl) HN.out ?_)
  intro w2 hrow2 hgr2 hsz2
  have HR2 : Hid (RowF w2 w.heap.size (n + 2) 2 (fun j => if j < n then .int .i64 (z j) else .int .i64 0)) := hrow2
  have HZ2 : Hid (w2.heap.size = w.heap.size + 1) := hsz2.trans HZ1.out
  have HB2 : Hid (Below w.heap.size w w2) := hbel1.grown hgr2 (by rw [HZ1.out]; omega) (fun k hk => by simp at hk; omega)
  clear hrow2 hsz2 hgr2 hbel1 HR1 HZ1 HS HN HM
  go_wp2_with fail
  go_loopw [4] (fun i wr => ∃ k : Nat, n ≤ k ∧ k ≤ n + 2 ∧ i = .int .i64 k ∧ Hid (wr.heap.size = w.heap.size + 1) ∧ Hid (Below w.heap.size w wr) ∧ Hid (RowF wr w.heap.size (n + 2) 2 (fun j => .int .i64 (if j < n then z j else if j < k then (if j % 1 = 0 then -77 else 0) else 0))))
    (fun i _ => n + 2 - (intOf i).toNat)
  case atStart => exact ⟨n, Nat.le_refl _, by omega, rfl, HZ2, HB2, HR2.out.congr (fun j _ => by by_cases h : j < n <;> simp [h])⟩
  case round =>
    obtain ⟨k, hk1, hk2, rfl, HZ, HB, HR⟩ := hrel
    by_cases hlt : k < n + 2
    · have HP : Hid (∀ j, _) := fun j => padstep1 k n j z hk1
      have c0 := HR.out.cell (j := k) (by omega)
      have f0 := HR.out.frozen (k)
      go_wp2
      go_roundw
      case rel => exact ⟨k + 1, by omega, by omega, by go_num, by show _ = _; rw [size_setCell]; exact HZ.out, (HB.out.setCell (Nat.le_refl _) _), (HR.out.set (k) _).congr (fun j _ => HP.out j)⟩
      case measure => simp [intOf]; omega
    · obtain rfl : k = n + 2 := by omega
      go_wp2
      go_ret
      exact ⟨rfl, HZ.out, HB.out, (by rw [Nat.mul_one]; exact HR.out.congr (fun j hj => by simp [padZ, hj]))⟩

theorem info_windows : (Try.prog.info? 65).map (fun i => (i.zero, i.size, i.bytes)) = some (some (.agg #[.int .i64 0, .int .i64 0]), 2, 16) := by kernel_rfl

set_option maxHeartbeats 400000 in
theorem windows_any (p : Option Addr) (n cap : Nat) (z : Nat → Int) (w : World) (hs : Sl w p (n * 2) (fun j => .int .i64 (z j))) (hn : p = none → n = 0) (hb : 16 * n ≤ 140737488355328) :
    Calls Try.prog 38 #[.slice p n cap] w fun e w' => e = .returned (.slice (some ⟨w.heap.size, 0, none⟩) (n + 2 : Nat) (n + 2 : Nat)) ∧ w'.heap.size = w.heap.size + 1 ∧ Below w.heap.size w w' ∧
      RowF w' w.heap.size ((n + 2) * 2) 65 (fun j => .int .i64 (padZ 2 n z j)) := by
  have hB : n ≤ 17592186044416 := by omega
  have HM : Hid (16 * (n + 2) ≤ 281474976710656) := by show _ ≤ _; omega
  have HS : Hid (Sl w p (n * 2) (fun j => .int .i64 (z j))) := hs
  have HN : Hid (p = none → n = 0) := hn
  clear hs hn hb
  go_enter Try.func38, Try.ntmps38
  go_wp2_with (at_make; refine wpList_make_rowF _ rfl _ _ 63 rfl 65 _ 2 16 Try.underlying63 info_windows _ _ _ _ (n + 2) rfl rfl (by omega) (by omega) HM.out (by simp only [maxLen]; omega) (fun _ => .int .i64 0) (fun j _ => zero_cells2 j) ?_)
  intro w1 hrow1 hsz1 hbel1
  have HR1 : Hid (RowF w1 w.heap.size ((n + 2) * 2) 65 (fun _ => .int .i64 0)) := hrow1
  have HZ1 : Hid (w1.heap.size = w.heap.size + 1) := hsz1
  clear hrow1 hsz1
  go_wp2_with (refine wpList_copy_rowF rfl _ _ _ _ rfl 65 _ 2 16 Try.underlying63 info_windows w.heap.size (n + 2) (n + 2) p n cap rfl rfl ((n + 2) * 2) 65 (fun _ => .int .i64 0) (fun j => .int .i64 (z j)) (by omega) HR1.out (by omega) (HS.out.below hbel1) (fun _ _ => rfl) HN.out ?_)
  intro w2 hrow2 hgr2 hsz2
  have HR2 : Hid (RowF w2 w.heap.size ((n + 2) * 2) 65 (fun j => if j < n * 2 then .int .i64 (z j) else .int .i64 0)) := hrow2
  have HZ2 : Hid (w2.heap.size = w.heap.size + 1) := hsz2.trans HZ1.out
  have HB2 : Hid (Below w.heap.size w w2) := hbel1.grown hgr2 (by rw [HZ1.out]; omega) (fun k hk => by simp at hk; omega)
  clear hrow2 hsz2 hgr2 hbel1 HR1 HZ1 HS HN HM
  go_wp2_with fail
  go_loopw [4] (fun i wr => ∃ k : Nat, n ≤ k ∧ k ≤ n + 2 ∧ i = .int .i64 k ∧ Hid (wr.heap.size = w.heap.size + 1) ∧ Hid (Below w.heap.size w wr) ∧ Hid (RowF wr w.heap.size ((n + 2) * 2) 65 (fun j => .int .i64 (if j < n * 2 then z j else if j < k * 2 then (if j % 2 = 0 then -77 else 0) else 0))))
    (fun i _ => n + 2 - (intOf i).toNat)
  case atStart => exact ⟨n, Nat.le_refl _, by omega, rfl, HZ2, HB2, HR2.out.congr (fun j _ => by by_cases h : j < n * 2 <;> simp [h])⟩
  case round =>
    obtain ⟨k, hk1, hk2, rfl, HZ, HB, HR⟩ := hrel
    by_cases hlt : k < n + 2
    · have HP : Hid (∀ j, _) := fun j => padstep2 k n j z hk1
      have c0 := HR.out.cell (j := k * 2) (by omega)
      have c1 := HR.out.cell (j := k * 2 + 1) (by omega)
      have f0 := HR.out.frozen (k * 2)
      have f1 := HR.out.frozen (k * 2 + 1)
      go_wp2
      go_roundw
      case rel => exact ⟨k + 1, by omega, by omega, by go_num, by show _ = _; rw [size_setCell, size_setCell]; exact HZ.out, ((HB.out.setCell (Nat.le_refl _) _).setCell (Nat.le_refl _) _), ((HR.out.set (k * 2) _).set (k * 2 + 1) _).congr (fun j _ => HP.out j)⟩
      case measure => simp [intOf]; omega
    · obtain rfl : k = n + 2 := by omega
      go_wp2
      go_ret
      exact ⟨rfl, HZ.out, HB.out, HR.out.congr (fun j hj => by simp [padZ, hj])⟩

theorem info_chans : (Try.prog.info? 75).map (fun i => (i.zero, i.size, i.bytes)) = some (some (.agg #[.int .i64 0, .int .i64 0, .int .i64 0]), 3, 24) := by kernel_rfl

set_option maxHeartbeats 400000 in
theorem chans_any (p : Option Addr) (n cap : Nat) (z : Nat → Int) (w : World) (hs : Sl w p (n * 3) (fun j => .int .i64 (z j))) (hn : p = none → n = 0) (hb : 24 * n ≤ 140737488355328) :
    Calls Try.prog 39 #[.slice p n cap] w fun e w' => e = .returned (.slice (some ⟨w.heap.size, 0, none⟩) (n + 2 : Nat) (n + 2 : Nat)) ∧ w'.heap.size = w.heap.size + 1 ∧ Below w.heap.size w w' ∧
      RowF w' w.heap.size ((n + 2) * 3) 75 (fun j => .int .i64 (padZ 3 n z j)) := by
  have hB : n ≤ 17592186044416 := by omega
  have HM : Hid (24 * (n + 2) ≤ 281474976710656) := by show _ ≤ _; omega
  have HS : Hid (Sl w p (n * 3) (fun j => .int .i64 (z j))) := hs
  have HN : Hid (p = none → n = 0) := hn
  clear hs hn hb
  go_enter Try.func39, Try.ntmps39
  go_wp2_with (at_make; refine wpList_make_rowF _ rfl _ _ 36 rfl 75 _ 3 24 Try.underlying36 info_chans _ _ _ _ (n + 2) rfl rfl (by omega) (by omega) HM.out (by simp only [maxLen]; omega) (fun _ => .int .i64 0) (fun j _ => zero_cells3 j) ?_)
  intro w1 hrow1 hsz1 hbel1
  have HR1 : Hid (RowF w1 w.heap.size ((n + 2) * 3) 75 (fun _ => .int .i64 0)) := hrow1
  have HZ1 : Hid (w1.heap.size = w.heap.size + 1) := hsz1
  clear hrow1 hsz1
  go_wp2_with (refine wpList_copy_rowF rfl _ _ _ _ rfl 75 _ 3 24 Try.underlying36 info_chans w.heap.size (n + 2) (n + 2) p n cap rfl rfl ((n + 2) * 3) 75 (fun _ => .int .i64 0) (fun j => .int .i64 (z j)) (by omega) HR1.out (by omega) (HS.out.below hbel1) (fun _ _ => rfl) HN.out ?_)
  intro w2 hrow2 hgr2 hsz2
  have HR2 : Hid (RowF w2 w.heap.size ((n + 2) * 3) 75 (fun j => if j < n * 3 then .int .i64 (z j) else .int .i64 0)) := hrow2
  have HZ2 : Hid (w2.heap.size = w.heap.size + 1) := hsz2.trans HZ1.out
  have HB2 : Hid (Below w.heap.size w w2) := hbel1.grown hgr2 (by rw [HZ1.out]; omega) (fun k hk => by simp at hk; omega)
  clear hrow2 hsz2 hgr2 hbel1 HR1 HZ1 HS HN HM
  go_wp2_with fail
  go_loopw [4] (fun i wr => ∃ k : Nat, n ≤ k ∧ k ≤ n + 2 ∧ i = .int .i64 k ∧ Hid (wr.heap.size = w.heap.size + 1) ∧ Hid (Below w.heap.size w wr) ∧ Hid (RowF wr w.heap.size ((n + 2) * 3) 75 (fun j => .int .i64 (if j < n * 3 then z j else if j < k * 3 then (if j % 3 = 0 then -77 else 0) else 0))))
    (fun i _ => n + 2 - (intOf i).toNat)
  case atStart => exact ⟨n, Nat.le_refl _, by omega, rfl, HZ2, HB2, HR2.out.congr (fun j _ => by by_cases h : j < n * 3 <;> simp [h])⟩
  case round =>
    obtain ⟨k, hk1, hk2, rfl, HZ, HB, HR⟩ := hrel
    by_cases hlt : k < n + 2
    · have HP : Hid (∀ j, _) := fun j => padstep3 k n j z hk1
      have c0 := HR.out.cell (j := k * 3) (by omega)
      have c1 := HR.out.cell (j := k * 3 + 1) (by omega)
      have c2 := HR.out.cell (j := k * 3 + 2) (by omega)
      have f0 := HR.out.frozen (k * 3)
      have f1 := HR.out.frozen (k * 3 + 1)
      have f2 := HR.out.frozen (k * 3 + 2)
      go_wp2
      go_roundw
      case rel => exact ⟨k + 1, by omega, by omega, by go_num, by show _ = _; rw [size_setCell, size_setCell, size_setCell]; exact HZ.out, (((HB.out.setCell (Nat.le_refl _) _).setCell (Nat.le_refl _) _).setCell (Nat.le_refl _) _), (((HR.out.set (k * 3) _).set (k * 3 + 1) _).set (k * 3 + 2) _).congr (fun j _ => HP.out j)⟩
      case measure => simp [intOf]; omega
    · obtain rfl : k = n + 2 := by omega
      go_wp2
      go_ret
      exact ⟨rfl, HZ.out, HB.out, HR.out.congr (fun j hj => by simp [padZ, hj])⟩

theorem info_devs : (Try.prog.info? 3).map (fun i => (i.zero, i.size, i.bytes)) = some (some (.int .i64 0), 1, 8) := by kernel_rfl

set_option maxHeartbeats 400000 in
theorem devs_any (p : Option Addr) (n cap : Nat) (z : Nat → Int) (w : World) (hs : Sl w p (n) (fun j => .int .i64 (z j))) (hn : p = none → n = 0) (hb : 8 * n ≤ 140737488355328) :
    Calls Try.prog 40 #[.slice p n cap] w fun e w' => e = .returned (.slice (some ⟨w.heap.size, 0, none⟩) (n + 2 : Nat) (n + 2 : Nat)) ∧ w'.heap.size = w.heap.size + 1 ∧ Below w.heap.size w w' ∧
      RowF w' w.heap.size ((n + 2) * 1) 3 (fun j => .int .i64 (padZ 1 n z j)) := by
  have hB : n ≤ 17592186044416 := by omega
  have HM : Hid (8 * (n + 2) ≤ 281474976710656) := by show _ ≤ _; omega
  have HS : Hid (Sl w p (n) (fun j => .int .i64 (z j))) := hs
  have HN : Hid (p = none → n = 0) := hn
  clear hs hn hb
  go_enter Try.func40, Try.ntmps40
  go_wp2_with (at_make; refine wpList_make_rowF _ rfl _ _ 37 rfl 3 _ 1 8 Try.underlying37 info_devs _ _ _ _ (n + 2) rfl rfl (by omega) (by omega) HM.out (by simp only [maxLen]; omega) (fun _ => .int .i64 0) (fun j _ => zero_cells1 j) ?_)
  intro w1 hrow1 hsz1 hbel1
  have HR1 : Hid (RowF w1 w.heap.size (n + 2) 3 (fun _ => .int .i64 0)) := hrow1
  have HZ1 : Hid (w1.heap.size = w.heap.size + 1) := hsz1
  clear hrow1 hsz1
  go_wp2_with (refine wpList_copy_rowF rfl _ _ _ _ rfl 3 _ 1 8 Try.underlying37 info_devs w.heap.size (n + 2) (n + 2) p n cap rfl rfl (n + 2) 3 (fun _ => .int .i64 0) (fun j => .int .i64 (z j)) (by omega) HR1.out (by omega) (by rw [Nat.mul_one]; exact HS.out.below hbel1) (fun _ _ => rfl) HN.out ?_)
  intro w2 hrow2 hgr2 hsz2
  have HR2 : Hid (RowF w2 w.heap.size (n + 2) 3 (fun j => if j < n then .int .i64 (z j) else .int .i64 0)) := hrow2
  have HZ2 : Hid (w2.heap.size = w.heap.size + 1) := hsz2.trans HZ1.out
  have HB2 : Hid (Below w.heap.size w w2) := hbel1.grown hgr2 (by rw [HZ1.out]; omega) (fun k hk => by simp at hk; omega)
  clear hrow2 hsz2 hgr2 hbel1 HR1 HZ1 HS HN HM
  go_wp2_with fail
  go_loopw [4] (fun i wr => ∃ k : Nat, n ≤ k ∧ k ≤ n + 2 ∧ i = .int .i64 k ∧ Hid (wr.heap.size = w.heap.size + 1) ∧ Hid (Below w.heap.size w wr) ∧ Hid (RowF wr w.heap.size (n + 2) 3 (fun j => .int .i64 (if j < n then z j else if j < k then (if j % 1 = 0 then -77 else 0) else 0))))
    (fun i _ => n + 2 - (intOf i).toNat)
  case atStart => exact ⟨n, Nat.le_refl _, by omega, rfl, HZ2, HB2, HR2.out.congr (fun j _ => by by_cases h : j < n <;> simp [h])⟩
  case round =>
    obtain ⟨k, hk1, hk2, rfl, HZ, HB, HR⟩ := hrel
    by_cases hlt : k < n + 2
    · have HP : Hid (∀ j, _) := fun j => padstep1 k n j z hk1
      have c0 := HR.out.cell (j := k) (by omega)
      have f0 := HR.out.frozen (k)
      go_wp2
      go_roundw
      case rel => exact ⟨k + 1, by omega, by omega, by go_num, by show _ = _; rw [size_setCell]; exact HZ.out, (HB.out.setCell (Nat.le_refl _) _), (HR.out.set (k) _).congr (fun j _ => HP.out j)⟩
      case measure => simp [intOf]; omega
    · obtain rfl : k = n + 2 := by omega
      go_wp2
      go_ret
      exact ⟨rfl, HZ.out, HB.out, (by rw [Nat.mul_one]; exact HR.out.congr (fun j hj => by simp [padZ, hj]))⟩

end Go.Proofs.Ytdoghgnifkgfdaa
