import Derived.Test.YtdoghgnifkgfdaaProg
import Derived.Test.YtdoghgnifkgfdaaData
import Derived.Maps.OwnSet
import Derived.Maps.Own
import Derived.Maps.OwnOps
import Derived.Maps.Views
import Derived.DeepKeys4
namespace Go.Proofs.Ytdoghgnifkgfdaa
open Go.RowKit Go.Maps

theorem laidOut : laidOutB Try.prog = true := by kernel_rfl
theorem rowUse : 192 < Try.prog.types.size := of_decide_eq_true (by kernel_rfl)
theorem keyTypeAtUse : Try.prog.keyTypeAt 3 192 = true := by kernel_rfl
theorem lawUse : Keyed Try.prog 192 := Keyed.of_law (deep_law_laid laidOut (m := 3) (by omega) rowUse keyTypeAtUse (by simp [Try.underlying192]))
theorem keyTypeUse : Try.prog.keyType 192 = true := by kernel_rfl
theorem cellsUse : Try.prog.cellsOf 192 = 3 := by kernel_rfl
theorem sizeTypes : ∃ m, Try.prog.types.size + 1 = m + 2 := ⟨Try.prog.types.size - 1, by have := rowUse; omega⟩

theorem cellsEnd : Try.prog.cellsOf 190 = 1 := by kernel_rfl
theorem cellsInt : Try.prog.cellsOf 3 = 1 := by kernel_rfl
theorem cellsInt64 : Try.prog.cellsOf 2 = 1 := by kernel_rfl
theorem aggCells (a b c : Int) : (Value.agg #[.int .i64 a, .int .i64 b, .int .i64 c]).cells = #[.int .i64 a, .int .i64 b, .int .i64 c] := rfl

theorem keyUse (a b c : Int) (ha : (Lit.int .i64 a).wf = true) (hb : (Lit.int .i64 b).wf = true) (hc : (Lit.int .i64 c).wf = true) : ∃ kl, keyOf Try.prog 192 (.agg #[.int .i64 a, .int .i64 b, .int .i64 c]) = some kl := by
  obtain ⟨m, hm⟩ := sizeTypes
  unfold keyOf
  rw [hm]
  simp [Try.underlying192, Try.underlying190, Try.underlying3, Try.underlying2, keyTypeUse, Value.formed, cellsUse, Program.keyLits, aggCells, cellsEnd, cellsInt, cellsInt64, ha, hb, hc]

end Go.Proofs.Ytdoghgnifkgfdaa
