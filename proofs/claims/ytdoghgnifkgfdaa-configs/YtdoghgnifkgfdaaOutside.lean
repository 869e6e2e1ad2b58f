/-
  outside: the outer lists that were handed in read as ever; they are written over.
-/
import Derived.Test.YtdoghgnifkgfdaaOuter
namespace Go.Proofs.Ytdoghgnifkgfdaa
open Go.RowKit

/-- The world but for two blocks and new ones. -/
structure But2 (w w' : World) (a b : Nat) : Prop where
  os : w'.os = w.os
  tape : w'.tape = w.tape
  output : w'.output = w.output
  size : w.heap.size ≤ w'.heap.size
  block : ∀ k, k < w.heap.size → k ≠ a → k ≠ b → w'.heap[k]? = w.heap[k]?

theorem But2.refl (w : World) (a b : Nat) : But2 w w a b := ⟨rfl, rfl, rfl, Nat.le_refl _, fun _ _ _ _ => rfl⟩
theorem But2.set1 {w w' : World} {a b : Nat} (h : But2 w w' a b) (j : Nat) (v : Value) : But2 w (w'.setCell ⟨a, j, none⟩ v) a b :=
  ⟨h.os, h.tape, h.output, by rw [size_setCell]; exact h.size, fun k h1 h2 h3 => by rw [heap_setCell_other _ _ _ _ h2]; exact h.block k h1 h2 h3⟩
theorem But2.set2 {w w' : World} {a b : Nat} (h : But2 w w' a b) (j : Nat) (v : Value) : But2 w (w'.setCell ⟨b, j, none⟩ v) a b :=
  ⟨h.os, h.tape, h.output, by rw [size_setCell]; exact h.size, fun k h1 h2 h3 => by rw [heap_setCell_other _ _ _ _ h3]; exact h.block k h1 h2 h3⟩
theorem But2.drewN {w w' : World} {a b : Nat} (h : But2 w w' a b) (n : Nat) : But2 w (w'.drewN n) a b := ⟨h.os, h.tape, h.output, h.size, h.block⟩
theorem But2.below {w0 w w' : World} {a b : Nat} (h : But2 w w' a b) (hb : Below w0.heap.size w0 w) (ha : w0.heap.size ≤ a) (hbb : w0.heap.size ≤ b) : Below w0.heap.size w0 w' :=
  hb.trans ⟨h.os, h.tape, h.output, h.size, fun k hk => h.block k (Nat.lt_of_lt_of_le hk hb.size) (by omega) (by omega)⟩

/-- A row that is known from cell k on. -/
def RowFrom (w : World) (g m t k : Nat) (f : Nat → Value) : Prop := ∃ f', RowF w g m t f' ∧ ∀ j, k ≤ j → j < m → f' j = f j
theorem RowFrom.of {w : World} {g m t : Nat} {f : Nat → Value} (h : RowF w g m t f) (k : Nat) : RowFrom w g m t k f := ⟨f, h, fun _ _ _ => rfl⟩
theorem RowFrom.cell {w : World} {g m t k : Nat} {f : Nat → Value} (h : RowFrom w g m t k f) {j : Nat} (hk : k ≤ j) (hj : j < m) : w.cell? ⟨g, j, none⟩ = some (f j) := by
  obtain ⟨f', h1, h2⟩ := h
  rw [h1.cell hj, h2 j hk hj]
theorem RowFrom.frozen {w : World} {g m t k : Nat} {f : Nat → Value} (h : RowFrom w g m t k f) (j : Nat) : w.frozen? ⟨g, j, none⟩ = false := by
  obtain ⟨f', h1, h2⟩ := h
  exact h1.frozen j
theorem RowFrom.set {w : World} {g m t k : Nat} {f : Nat → Value} (h : RowFrom w g m t k f) (j : Nat) (v : Value) (hj : j < k) : RowFrom (w.setCell ⟨g, j, none⟩ v) g m t k f := by
  obtain ⟨f', h1, h2⟩ := h
  exact ⟨_, h1.set j v, fun i hi him => by rw [if_neg (by omega)]; exact h2 i hi him⟩
theorem RowFrom.mono {w : World} {g m t k k' : Nat} {f : Nat → Value} (h : RowFrom w g m t k f) (hk : k ≤ k') : RowFrom w g m t k' f := by
  obtain ⟨f', h1, h2⟩ := h
  exact ⟨f', h1, fun i hi him => h2 i (by omega) him⟩
theorem RowFrom.other {w : World} {g m t k : Nat} {f : Nat → Value} (h : RowFrom w g m t k f) (a : Addr) (v : Value) (ha : a.block ≠ g) : RowFrom (w.setCell a v) g m t k f := by
  obtain ⟨f', h1, h2⟩ := h
  exact ⟨f', h1.other a v ha, h2⟩
theorem RowFrom.drewN {w : World} {g m t k : Nat} {f : Nat → Value} (h : RowFrom w g m t k f) (n : Nat) : RowFrom (w.drewN n) g m t k f := h

theorem lentV_form (nl : Bool) (b n : Nat) (h : nl = true → n = 0) : ∃ q cap, lentV nl b n = .slice q n cap := by
  cases nl
  · exact ⟨_, _, rfl⟩
  · obtain rfl := h rfl
    exact ⟨_, _, rfl⟩

set_option maxRecDepth 100000 in
set_option maxHeartbeats 2000000 in
theorem outside_any (c : Cfg) (v0 v1 v2 v3 : Value) (gC gT : Nat) (cb rb : Nat → Nat) (w0 w : World) (h : CfgR w0 v0 v1 v2 v3 c) (hb : Below w0.heap.size w0 w) (h1 : w0.heap.size ≤ gC) (h2 : w0.heap.size ≤ gT) (hne : gC ≠ gT)
    (rC : RowF w gC ((c.nC + 2) * 3) 70 (outC c.nC (cellF c cb))) (rT : RowF w gT (c.nT + 2) 63 (outT c.nT (fun i => lentV false (rb i) (c.nRow i)))) :
    Calls Try.prog 23 #[.slice (some ⟨gC, 0, none⟩) (c.nC + 2 : Nat) (c.nC + 2 : Nat), .slice (some ⟨gT, 0, none⟩) (c.nT + 2 : Nat) (c.nT + 2 : Nat), .agg #[v0, v1, v2, v3]] w fun e w' => e = .returned (.bool true) ∧ But2 w w' gC gT := by
  obtain ⟨⟨p0, cap0, F0, rfl, -, n0, z0, b0, s0, k0⟩, ⟨p1, cap1, F1, rfl, -, n1, z1, b1, s1, k1⟩, -, -⟩ := h
  have S0 : Hid (Sl w0 p0 (c.nC * 3) F0) := s0
  have K0 : Hid (∀ i, i < c.nC → SlZ w0 (F0 (i * 3)) (c.codeN i) (c.nCode i) 4 (c.code i) 32 ∧ SlZ w0 (F0 (i * 3 + 1)) (c.imgN i) (c.nImg i) 1 (c.img i) 8 ∧ F0 (i * 3 + 2) = .int .i64 (c.lim i)) := k0
  have S1 : Hid (Sl w0 p1 c.nT F1) := s1
  have K1 : Hid (∀ i, i < c.nT → SlZ w0 (F1 i) (c.rowN i) (c.nRow i) 2 (c.row i) 16) := k1
  have hb0 : c.nC ≤ 2513169434916 := by omega
  have hb1 : c.nT ≤ 5864062014805 := by omega
  have hgC := rC.lt
  have hgT := rT.lt
  have HBL : Hid (Below w0.heap.size w0 w) := hb
  have HRC : Hid (RowF w gC ((c.nC + 2) * 3) 70 (outC c.nC (cellF c cb))) := rC
  have HRT : Hid (RowF w gT (c.nT + 2) 63 (outT c.nT (fun i => lentV false (rb i) (c.nRow i)))) := rT
  have HNE : Hid (gC ≠ gT) := hne
  clear s0 k0 s1 k1 n0 z0 n1 z1 b0 b1 rC rT hb hne
  go_enter Try.func23, Try.ntmps23
  go_wp2_with fail
  have HA : Hid (∀ o, Below w.heap.size w (w.alloc o)) := fun o => (Below.refl _ _).alloc (Nat.le_refl _) _
  go_loopw [7, 8] (fun o i wr => ∃ k : Nat, k ≤ c.nC + 2 ∧ i = .int .i64 k ∧ o = .bool true ∧ Hid (But2 w wr gC gT) ∧ Hid (RowF wr w.heap.size 4 39 (cells4 (.slice p0 c.nC cap0) (.slice p1 c.nT cap1) v2 v3)) ∧ Hid (RowFrom wr gC ((c.nC + 2) * 3) 70 (k * 3) (outC c.nC (cellF c cb))) ∧ Hid (RowF wr gT (c.nT + 2) 63 (outT c.nT (fun i => lentV false (rb i) (c.nRow i))))) (fun _ i _ => c.nC + 2 - (intOf i).toNat)
  case atStart => exact ⟨0, Nat.zero_le _, rfl, rfl, ⟨rfl, rfl, rfl, by simp, fun j hj _ _ => (HA.out _).block j hj⟩, row4 _ _ _ _ _ _, RowFrom.of (HRC.out.alloc _) _, HRT.out.alloc _⟩
  case round =>
    obtain ⟨k, hk, rfl, rfl, HB2, HR0, HF, HT⟩ := hrel
    obtain ⟨x0, x1, -, -⟩ := HR0.out.at4
    have hx : w.heap.size < wr.heap.size := block_lt_of_cell x0
    by_cases hlt : k < c.nC + 2
    · have a0 := HF.out.cell (j := k * 3) (by omega) (by omega)
      have a1 := HF.out.cell (j := k * 3 + 1) (by omega) (by omega)
      have a2 := HF.out.cell (j := k * 3 + 2) (by omega) (by omega)
      have f0 := HF.out.frozen (k * 3)
      have f1 := HF.out.frozen (k * 3 + 1)
      have f2 := HF.out.frozen (k * 3 + 2)
      by_cases hin : k < c.nC
      · have HBr : Hid (Below w0.heap.size w0 wr) := HB2.out.below HBL.out h1 h2
        obtain ⟨b, off, rfl, hc⟩ := (S0.out.below HBr.out).at (by omega)
        have c0 := hc (k * 3) (by omega)
        have c1 := hc (k * 3 + 1) (by omega)
        have c2 := hc (k * 3 + 2) (by omega)
        rw [← Nat.add_assoc] at c1 c2
        clear hc
        obtain ⟨⟨pc, capc, hF0, -, nc, zc, bc, -⟩, ⟨pi, capi, hF1, -, ni, zi, bi, -⟩, hF2⟩ := K0.out k hin
        rw [hF0] at c0
        rw [hF1] at c1
        rw [hF2] at c2
        obtain ⟨e0, e1, e2⟩ := cellF_at c cb k
        obtain ⟨q0, t0, l0⟩ := lentV_form (c.codeN k) (cb k) (c.nCode k) (fun h => (zc (nc.2 h)).1)
        obtain ⟨q1, t1, l1⟩ := lentV_form (c.imgN k) (cb k + 1) (c.nImg k) (fun h => (zi (ni.2 h)).1)
        have i0 : outC c.nC (cellF c cb) (k * 3) = .slice q0 (c.nCode k) t0 := by unfold outC; rw [if_pos (by omega), e0, l0]
        have i1 : outC c.nC (cellF c cb) (k * 3 + 1) = .slice q1 (c.nImg k) t1 := by unfold outC; rw [if_pos (by omega), e1, l1]
        have i2 : outC c.nC (cellF c cb) (k * 3 + 2) = .int .i64 (c.lim k) := by unfold outC; rw [if_pos (by omega), e2]
        rw [i0] at a0
        rw [i1] at a1
        rw [i2] at a2
        have hnc : c.nCode k ≤ 4398046511104 := by omega
        have hni : c.nImg k ≤ 17592186044416 := by omega
        clear hF0 hF1 hF2 nc zc bc ni zi bi e0 e1 e2 l0 l1 i0 i1 i2
        go_wp2_with fail
        go_quiet (fail)
        go_wp2_with fail
        exact ⟨⟨k + 1, by omega, by go_num, rfl, (((HB2.out.drewN _).set1 _ _).set1 _ _).set1 _ _, (((HR0.out.drewN _).other _ _ (by simp; omega)).other _ _ (by simp; omega)).other _ _ (by simp; omega),
          (((((HF.out.drewN _).mono (by omega)).set _ _ (by omega)).set _ _ (by omega)).set _ _ (by omega) : RowFrom _ _ _ _ ((k + 1) * 3) _), (((HT.out.drewN _).other _ _ (by simpa using HNE.out)).other _ _ (by simpa using HNE.out)).other _ _ (by simpa using HNE.out)⟩, by simp [intOf]; omega⟩
      · have i0 : outC c.nC (cellF c cb) (k * 3) = .slice none 0 0 := by unfold outC; rw [if_neg (by omega), if_neg (by omega)]
        have i1 : outC c.nC (cellF c cb) (k * 3 + 1) = .slice none 0 0 := by unfold outC; rw [if_neg (by omega), if_neg (by omega)]
        have i2 : outC c.nC (cellF c cb) (k * 3 + 2) = .int .i64 (-77) := by unfold outC; rw [if_neg (by omega), if_pos (by omega)]
        rw [i0] at a0
        rw [i1] at a1
        rw [i2] at a2
        clear i0 i1 i2
        go_wp2_with fail
        exact ⟨⟨k + 1, by omega, by go_num, rfl, ((HB2.out.set1 _ _).set1 _ _).set1 _ _, ((HR0.out.other _ _ (by simp; omega)).other _ _ (by simp; omega)).other _ _ (by simp; omega),
          ((((HF.out.mono (by omega)).set _ _ (by omega)).set _ _ (by omega)).set _ _ (by omega) : RowFrom _ _ _ _ ((k + 1) * 3) _), ((HT.out.other _ _ (by simpa using HNE.out)).other _ _ (by simpa using HNE.out)).other _ _ (by simpa using HNE.out)⟩, by simp [intOf]; omega⟩
    · obtain rfl : k = c.nC + 2 := by omega
      clear hlt hk
      have HB20 := HB2
      have HR00 := HR0
      have HT0 := HT
      clear HB2 HR0 HT HF x0 x1 hx
      go_wp2_with fail
      go_loopw [7, 9] (fun o i wr => ∃ k : Nat, k ≤ c.nT + 2 ∧ i = .int .i64 k ∧ o = .bool true ∧ Hid (But2 w wr gC gT) ∧ Hid (RowF wr w.heap.size 4 39 (cells4 (.slice p0 c.nC cap0) (.slice p1 c.nT cap1) v2 v3)) ∧ Hid (RowFrom wr gT (c.nT + 2) 63 k (outT c.nT (fun i => lentV false (rb i) (c.nRow i))))) (fun _ i _ => c.nT + 2 - (intOf i).toNat)
      case atStart => exact ⟨0, Nat.zero_le _, rfl, rfl, HB20, HR00, RowFrom.of HT0.out _⟩
      case round =>
        obtain ⟨k, hk, rfl, rfl, HB2, HR0, HF⟩ := hrel
        obtain ⟨x0, x1, -, -⟩ := HR0.out.at4
        have hx : w.heap.size < wr.heap.size := block_lt_of_cell x0
        by_cases hlt : k < c.nT + 2
        · have a0 := HF.out.cell (j := k) (by omega) (by omega)
          have f0 := HF.out.frozen k
          by_cases hin : k < c.nT
          · have HBr : Hid (Below w0.heap.size w0 wr) := HB2.out.below HBL.out h1 h2
            obtain ⟨b, off, rfl, hc⟩ := (S1.out.below HBr.out).at (by omega)
            have c0 := hc k (by omega)
            clear hc
            obtain ⟨pr, capr, hF0, -, -, -, br, -⟩ := K1.out k hin
            rw [hF0] at c0
            have i0 : outT c.nT (fun i => lentV false (rb i) (c.nRow i)) k = .slice (some ⟨rb k, 0, none⟩) (c.nRow k) (c.nRow k + 2) := by unfold outT; rw [if_pos hin]; rfl
            rw [i0] at a0
            have hnr : c.nRow k ≤ 8796093022208 := by omega
            clear hF0 br i0
            go_wp2_with fail
            go_quiet (fail)
            go_wp2_with fail
            exact ⟨⟨k + 1, by omega, by go_num, rfl, (HB2.out.drewN _).set2 _ _, (HR0.out.drewN _).other _ _ (by simp; omega), (((HF.out.drewN _).mono (by omega)).set _ _ (by omega) : RowFrom _ _ _ _ (k + 1) _)⟩, by simp [intOf]; omega⟩
          · have i0 : outT c.nT (fun i => lentV false (rb i) (c.nRow i)) k = .slice none 0 0 := by unfold outT; rw [if_neg hin]
            rw [i0] at a0
            clear i0
            go_wp2_with fail
            exact ⟨⟨k + 1, by omega, by go_num, rfl, HB2.out.set2 _ _, HR0.out.other _ _ (by simp; omega), ((HF.out.mono (by omega)).set _ _ (by omega) : RowFrom _ _ _ _ (k + 1) _)⟩, by simp [intOf]; omega⟩
        · obtain rfl : k = c.nT + 2 := by omega
          go_wp2_with fail
          go_ret
          exact ⟨rfl, HB2.out⟩

end Go.Proofs.Ytdoghgnifkgfdaa
