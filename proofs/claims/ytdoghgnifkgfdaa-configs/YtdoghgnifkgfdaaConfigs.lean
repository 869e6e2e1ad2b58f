/-
  Configs: small, then each config of the list, one kernel more each, if there is one.
-/
import Derived.Test.YtdoghgnifkgfdaaMade
import Derived.Test.YtdoghgnifkgfdaaSmall
namespace Go.Proofs.Ytdoghgnifkgfdaa
open Go.RowKit Go.Maps

theorem small_w : CfgW smallCfg := by
  intro i hi j hj
  obtain rfl : i = 0 := by simp [smallCfg] at hi; omega
  simp only [smallCfg] at hj
  have : j = 0 ∨ j = 1 ∨ j = 2 ∨ j = 3 ∨ j = 4 ∨ j = 5 ∨ j = 6 ∨ j = 7 ∨ j = 8 ∨ j = 9 ∨ j = 10 ∨ j = 11 := by omega
  rcases this with rfl | rfl | rfl | rfl | rfl | rfl | rfl | rfl | rfl | rfl | rfl | rfl <;> simp [smallCfg]

/-- What lies below the law's own world reads as it did, whatever made writes. -/
theorem cfg_still {w0 w w' : World} {bw m : Nat} {ks rs v0 v1 v2 v3 : Value} {c : Cfg} (h : CfgR w0 v0 v1 v2 v3 c) (hb : Below w0.heap.size w0 w) (hi : WInv w bw m ks rs) (hw : w0.heap.size ≤ bw) (h' : But (RZ bw ks rs) w w') : CfgR w' v0 v1 v2 v3 c := by
  refine h.below (hb.trans ⟨h'.os, h'.tape, h'.output, h'.size, fun j hj => h'.block j (by have := hb.size; omega) (fun hz => ?_)⟩)
  obtain ⟨xs, hx⟩ := hi.k
  obtain ⟨ys, hy⟩ := hi.r
  rcases hz with hz | hz | hz
  · omega
  · have := (hx.lt j hz).1; omega
  · have := (hy.lt j hz).1; omega

theorem world_zero (w : World) : WInv (w.alloc (.cells #[.slice none 0 0, .slice none 0 0, .slice none 0 0, .slice none 0 0, .slice none 0 0] 32)) w.heap.size 0 (.slice none 0 0) (.slice none 0 0) := by
  refine ⟨?_, ⟨[], World.ownsRow_nil _ _ _ _⟩, ⟨[], World.ownsRow_nil _ _ _ _⟩, fun g h => by simp [Value.ownBlock] at h⟩
  exact RowF.new w #[.slice none 0 0, .slice none 0 0, .slice none 0 0, .slice none 0 0, .slice none 0 0] 32 _ (fun j hj => by
    have : j = 0 ∨ j = 1 ∨ j = 2 ∨ j = 3 ∨ j = 4 := by simp at hj; omega
    rcases this with rfl | rfl | rfl | rfl | rfl <;> rfl)

/-- Behind k configs: nothing old is turned, the law's own world lies in its block. -/
def CfgsTo (w : World) (k : Nat) (wr : World) : Prop := ∃ m ks rs, m ≤ k + 1 ∧ Below w.heap.size w wr ∧ WInv wr w.heap.size m ks rs

set_option maxRecDepth 100000 in
set_option maxHeartbeats 2000000 in
theorem configs_any (p : Option Addr) (n cap : Nat) (cf : Nat → Cfg) (V : Nat → Value) (w : World) (hs : Sl w p (n * 4) V)
    (hc : ∀ i, i < n → CfgR w (V (i * 4)) (V (i * 4 + 1)) (V (i * 4 + 2)) (V (i * 4 + 3)) (cf i)) (hw : ∀ i, i < n → CfgW (cf i)) (hb : 96 * n ≤ 140737488355328) :
    Calls Try.prog 3 #[.slice p n cap] w fun e w' => e = .returned (.bool true) ∧ Below w.heap.size w w' := by
  have S : Hid (Sl w p (n * 4) V) := hs
  have C : Hid (∀ i, i < n → CfgR w (V (i * 4)) (V (i * 4 + 1)) (V (i * 4 + 2)) (V (i * 4 + 3)) (cf i)) := hc
  have HW : Hid (∀ i, i < n → CfgW (cf i)) := hw
  have hn : n ≤ 1466015503701 := by omega
  clear hs hc hw hb
  go_enter Try.func3, Try.ntmps3
  go_wp2_with fail
  refine (small_any _).mono ?_
  rintro e wS ⟨v0, v1, v2, v3, rfl, hsm, hbS⟩
  have HBS : Hid (Below (w.alloc (.cells #[.slice none 0 0, .slice none 0 0, .slice none 0 0, .slice none 0 0, .slice none 0 0] 32)).heap.size (w.alloc (.cells #[.slice none 0 0, .slice none 0 0, .slice none 0 0, .slice none 0 0, .slice none 0 0] 32)) wS) := hbS
  have HI0 : Hid (WInv wS w.heap.size 0 (.slice none 0 0) (.slice none 0 0)) := (world_zero w).below hbS
  have HST : Hid (∀ w', But (RZ w.heap.size (.slice none 0 0) (.slice none 0 0)) wS w' → CfgR w' v0 v1 v2 v3 smallCfg) := fun w' hb' => hsm w' (fun a v ha hc => by
    have hne : ¬ RZ w.heap.size (.slice none 0 0) (.slice none 0 0) a.block := by
      rintro (h | h | h)
      · simp at ha; omega
      · simp [Value.ownBlock] at h
      · simp [Value.ownBlock] at h
    have hh := hb'.block a.block (block_lt_of_cell hc) hne
    unfold World.cell? at hc ⊢
    rw [hh]
    exact hc)
  clear hsm hbS
  go_wp2_with fail
  refine (made_any smallCfg v0 v1 v2 v3 w.heap.size 0 _ _ wS HST.out small_w HI0.out (by omega)).mono ?_
  rintro e wM ⟨rfl, hbM, m', ks', rs', hm', hiM⟩
  have HT0 : Hid (CfgsTo w 0 wM) := ⟨m', ks', rs', by omega, (below1 (by simpa using HBS.out)).trans hbM, hiM⟩
  clear hbM hiM hm'
  go_wp2_with fail
  go_loopw [4, 5] (fun ok i wr => ok = .bool true ∧ ∃ k : Nat, k ≤ n ∧ i = .int .i64 k ∧ Hid (CfgsTo w k wr)) (fun _ i _ => n - (intOf i).toNat)
  case atStart => exact ⟨rfl, 0, Nat.zero_le _, rfl, HT0⟩
  case round =>
    obtain ⟨rfl, k, hk, rfl, HL⟩ := hrel
    by_cases hlt : k < n
    · obtain ⟨m, ks, rs, hm, hB, hI⟩ := HL.out
      have HB : Hid (Below w.heap.size w wr) := hB
      have HI : Hid (WInv wr w.heap.size m ks rs) := hI
      obtain ⟨b, off, rfl, hc⟩ := (S.out.below HB.out).at (by omega)
      have c0 := hc (k * 4) (by omega)
      have c1 := hc (k * 4 + 1) (by omega)
      have c2 := hc (k * 4 + 2) (by omega)
      have c3 := hc (k * 4 + 3) (by omega)
      rw [← Nat.add_assoc] at c1 c2 c3
      clear hc hB hI HL
      go_wp2_with fail
      refine (made_any (cf k) _ _ _ _ w.heap.size m ks rs wr (fun w' hb' => cfg_still (C.out k hlt) HB.out HI.out (Nat.le_refl _) hb') (HW.out k hlt) HI.out (by omega)).mono ?_
      rintro e wM2 ⟨rfl, hbM, m2, ks2, rs2, hm2, hiM⟩
      have HT : Hid (CfgsTo w (k + 1) wM2) := ⟨m2, ks2, rs2, by omega, HB.out.trans hbM, hiM⟩
      clear hbM hiM hm2
      go_wp2_with fail
      exact ⟨⟨rfl, k + 1, by omega, by go_num, HT⟩, by simp [intOf]; omega⟩
    · obtain rfl : k = n := by omega
      go_wp2_with fail
      go_ret
      obtain ⟨m, ks, rs, hm, hB, hI⟩ := HL.out
      exact ⟨rfl, hB⟩

end Go.Proofs.Ytdoghgnifkgfdaa
