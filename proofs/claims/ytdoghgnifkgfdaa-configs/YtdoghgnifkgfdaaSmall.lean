/-
  small: the document's first example.
-/
import Derived.Test.YtdoghgnifkgfdaaLent2
import Derived.Test.YtdoghgnifkgfdaaParts
namespace Go.Proofs.Ytdoghgnifkgfdaa
open Go.RowKit

def smallCfg : Cfg where
  cellsN := false
  nC := 1
  lim := fun _ => 0
  codeN := fun _ => false
  nCode := fun _ => 3
  code := fun _ j => if j = 0 then 1 else if j = 3 then 7 else if j = 4 then 15 else 0
  imgN := fun _ => true
  nImg := fun _ => 0
  img := fun _ _ => 0
  tableN := false
  nT := 1
  rowN := fun _ => false
  nRow := fun _ => 1
  row := fun _ j => if j = 1 then 10 else 0
  chN := true
  nCh := 0
  ch := fun _ => 0
  dvN := true
  nD := 0
  dv := fun _ => 0

set_option maxHeartbeats 400000 in
theorem small_any (w : World) :
    Calls Try.prog 9 #[] w fun e w' => ∃ v0 v1 v2 v3, e = .returned (.agg #[v0, v1, v2, v3]) ∧ (∀ w'' : World, (∀ a v, w.heap.size ≤ a.block → w'.cell? a = some v → w''.cell? a = some v) → CfgR w'' v0 v1 v2 v3 smallCfg) ∧ Below w.heap.size w w' := by
  go_enter Try.func9, Try.ntmps9
  go_wp2_with fail
  have HROW : Hid (∀ o1 o2 o3 o4, ((((((w.alloc (.cells #[.slice (some ⟨w.heap.size + 1 + 1, 0, none⟩) 1 1, .slice (some ⟨w.heap.size + 1 + 1 + 1 + 1, 0, none⟩) 1 1, .slice none 0 0, .slice none 0 0] 39)).alloc o1).alloc o2).alloc o3).alloc o4).heap[w.heap.size]? = some (.cells #[.slice (some ⟨w.heap.size + 1 + 1, 0, none⟩) 1 1, .slice (some ⟨w.heap.size + 1 + 1 + 1 + 1, 0, none⟩) 1 1, .slice none 0 0, .slice none 0 0] 39 (0, 0)))) := fun o1 o2 o3 o4 => row4_heap (((((row4 w _ _ _ _ _).alloc o1).alloc o2).alloc o3).alloc o4)
  refine bodyPost_ret (results_cell_row (P := Try.prog) rfl _ _ w.heap.size 39 #[.slice (some ⟨w.heap.size + 1 + 1, 0, none⟩) 1 1, .slice (some ⟨w.heap.size + 1 + 1 + 1 + 1, 0, none⟩) 1 1, .slice none 0 0, .slice none 0 0] (0, 0) _ rfl (HROW.out _ _ _ _) Try.underlying39 rfl size_config) rfl ?_
  refine ⟨_, _, _, _, rfl, fun w'' hk => ⟨?_, ?_, ?_, ?_⟩, ((((Below.refl _ _).alloc (Nat.le_refl _) _).alloc (by simp) _).alloc (by simp; omega) _ |>.alloc (by simp; omega) _).alloc (by simp; omega) _⟩
  · refine ⟨some ⟨w.heap.size + 1 + 1, 0, none⟩, 1, fun j => if j = 0 then .slice (some ⟨w.heap.size + 1, 0, none⟩) 3 3 else if j = 1 then .slice none 0 0 else .int .i64 0, rfl, Nat.le_refl _, by simp [smallCfg], by simp, by decide, .inr ⟨_, _, rfl, fun j hj => ?_⟩, fun i hi => ?_⟩
    · have : j = 0 ∨ j = 1 ∨ j = 2 := by simp [smallCfg] at hj; omega
      refine hk _ _ (by show _ ≤ w.heap.size + 1 + 1; omega) ?_
      rcases this with rfl | rfl | rfl <;> simp [go_sem]
    · obtain rfl : i = 0 := by simp [smallCfg] at hi; omega
      refine ⟨⟨some ⟨w.heap.size + 1, 0, none⟩, 3, rfl, Nat.le_refl _, by simp [smallCfg], by simp, by decide, .inr ⟨_, _, rfl, fun j hj => ?_⟩⟩, ⟨none, 0, rfl, Nat.le_refl _, by simp [smallCfg], fun _ => ⟨rfl, rfl⟩, by decide, .inl rfl⟩, rfl⟩
      have : j = 0 ∨ j = 1 ∨ j = 2 ∨ j = 3 ∨ j = 4 ∨ j = 5 ∨ j = 6 ∨ j = 7 ∨ j = 8 ∨ j = 9 ∨ j = 10 ∨ j = 11 := by simp [smallCfg] at hj; omega
      refine hk _ _ (by show _ ≤ w.heap.size + 1; omega) ?_
      rcases this with rfl | rfl | rfl | rfl | rfl | rfl | rfl | rfl | rfl | rfl | rfl | rfl <;> simp [go_sem, smallCfg]
  · refine ⟨some ⟨w.heap.size + 1 + 1 + 1 + 1, 0, none⟩, 1, fun _ => .slice (some ⟨w.heap.size + 1 + 1 + 1, 0, none⟩) 1 1, rfl, Nat.le_refl _, by simp [smallCfg], by simp, by decide, .inr ⟨_, _, rfl, fun j hj => ?_⟩, fun i hi => ?_⟩
    · obtain rfl : j = 0 := by simp [smallCfg] at hj; omega
      refine hk _ _ (by show _ ≤ w.heap.size + 1 + 1 + 1 + 1; omega) ?_
      simp [go_sem]
    · refine ⟨some ⟨w.heap.size + 1 + 1 + 1, 0, none⟩, 1, rfl, Nat.le_refl _, by simp [smallCfg], by simp, by simp [smallCfg], .inr ⟨_, _, rfl, fun j hj => ?_⟩⟩
      have : j = 0 ∨ j = 1 := by simp [smallCfg] at hj; omega
      refine hk _ _ (by show _ ≤ w.heap.size + 1 + 1 + 1; omega) ?_
      rcases this with rfl | rfl <;> simp [go_sem, smallCfg]
  · exact ⟨none, 0, rfl, Nat.le_refl _, by simp [smallCfg], fun _ => ⟨rfl, rfl⟩, by decide, .inl rfl⟩
  · exact ⟨none, 0, rfl, Nat.le_refl _, by simp [smallCfg], fun _ => ⟨rfl, rfl⟩, by decide, .inl rfl⟩

end Go.Proofs.Ytdoghgnifkgfdaa
