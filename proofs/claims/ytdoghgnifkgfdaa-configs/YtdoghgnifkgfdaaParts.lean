import Derived.Test.YtdoghgnifkgfdaaData
namespace Go.Proofs.Ytdoghgnifkgfdaa
open Go.RowKit

/-- The parts of a config's reading. -/
theorem CfgR.parts {w : World} {v0 v1 v2 v3 : Value} {c : Cfg} (h : CfgR w v0 v1 v2 v3 c) :
    ∃ p0 cap0 F0 p1 cap1 F1 p2 cap2 p3 cap3, v0 = .slice p0 c.nC cap0 ∧ v1 = .slice p1 c.nT cap1 ∧ v2 = .slice p2 c.nCh cap2 ∧ v3 = .slice p3 c.nD cap3 ∧
      Sl w p0 (c.nC * 3) F0 ∧ (∀ i, i < c.nC → SlZ w (F0 (i * 3)) (c.codeN i) (c.nCode i) 4 (c.code i) 32 ∧ SlZ w (F0 (i * 3 + 1)) (c.imgN i) (c.nImg i) 1 (c.img i) 8 ∧ F0 (i * 3 + 2) = .int .i64 (c.lim i)) ∧
      Sl w p1 c.nT F1 ∧ (∀ i, i < c.nT → SlZ w (F1 i) (c.rowN i) (c.nRow i) 2 (c.row i) 16) ∧
      Sl w p2 (c.nCh * 3) (fun j => .int .i64 (c.ch j)) ∧ Sl w p3 c.nD (fun j => .int .i64 (c.dv j)) ∧
      c.nC ≤ 8796093022208 ∧ c.nT ≤ 8796093022208 ∧ 24 * c.nCh ≤ 140737488355328 ∧ 8 * c.nD ≤ 140737488355328 := by
  obtain ⟨⟨p0, cap0, F0, rfl, _, _, _, b0, s0, k0⟩, ⟨p1, cap1, F1, rfl, _, _, _, b1, s1, k1⟩, ⟨p2, cap2, rfl, _, _, _, b2, s2⟩, ⟨p3, cap3, rfl, _, _, _, b3, s3⟩⟩ := h
  exact ⟨p0, cap0, F0, p1, cap1, F1, p2, cap2, p3, cap3, rfl, rfl, rfl, rfl, s0, k0, s1, k1, s2, by simpa using s3, by omega, by omega, b2, b3⟩

end Go.Proofs.Ytdoghgnifkgfdaa
