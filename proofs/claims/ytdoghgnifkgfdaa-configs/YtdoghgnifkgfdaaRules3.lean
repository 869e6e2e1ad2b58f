import Derived.Test.YtdoghgnifkgfdaaRules2
import Derived.Deep.RegionWith
namespace Go.Proofs.Ytdoghgnifkgfdaa
open Go.RowKit

def ChV (n : Nat) (k f t : Int) : Prop := (k = 1 ∨ k = 2) ∧ (0 ≤ f ∧ f < n) ∧ (0 ≤ t ∧ t < n) ∧ f ≠ t

set_option maxHeartbeats 400000 in
theorem chanMayBe_any (k f t : Int) (n : Nat) (w : World) :
    Calls Try.prog 75 #[.agg #[.int .i64 k, .int .i64 f, .int .i64 t], .int .i64 n] w (Ans (ChV n k f t) (Below w.heap.size w)) := by
  have HB : Hid (∀ o, Below w.heap.size w (w.alloc o)) := fun o => (Below.refl _ _).alloc (Nat.le_refl _) _
  by_cases hk : k = 1 ∨ k = 2
  · have hk' : (k != 1) = false ∨ ((k != 1) = true ∧ (k != 2) = false) := by
      rcases hk with h | h
      · exact .inl (by simpa using h)
      · exact .inr ⟨by subst h; rfl, by simpa using h⟩
    have HK : Hid (k = 1 ∨ k = 2) := hk
    clear hk
    by_cases hf : 0 ≤ f ∧ f < (n : Int)
    · have HF : Hid (0 ≤ f ∧ f < (n : Int)) := hf
      clear hf
      by_cases ht : 0 ≤ t ∧ t < (n : Int)
      · have HT : Hid (0 ≤ t ∧ t < (n : Int)) := ht
        clear ht
        rcases hk' with h1 | ⟨h1, h2⟩
        all_goals
          go_enter Try.func75, Try.ntmps75
          go_wp2_with (first | (go_at_call_of 78 (f); refine (Ans.says (numbers_int f _ _) HF.out).mono ?_; rintro e w' ⟨rfl, rfl⟩) | (go_at_call_of 78 (t); refine (Ans.says (numbers_int t _ _) HT.out).mono ?_; rintro e w' ⟨rfl, rfl⟩))
          go_ret
          refine Ans.of (b := (f != t)) ?_ (HB.out _)
          simp only [bne_iff_ne, ne_eq, ChV]
          exact ⟨fun h => ⟨HK.out, HF.out, HT.out, h⟩, fun h => h.2.2.2⟩
      · have HT : Hid (¬ (0 ≤ t ∧ t < (n : Int))) := ht
        clear ht
        rcases hk' with h1 | ⟨h1, h2⟩
        all_goals
          go_enter Try.func75, Try.ntmps75
          go_wp2_with (first | (go_at_call_of 78 (f); refine (Ans.says (numbers_int f _ _) HF.out).mono ?_; rintro e w' ⟨rfl, rfl⟩) | (go_at_call_of 78 (t); refine (Ans.denies (numbers_int t _ _) HT.out).mono ?_; rintro e w' ⟨rfl, rfl⟩))
          go_ret
          exact Ans.no (fun h => HT.out h.2.2.1) (HB.out _)
    · have HF : Hid (¬ (0 ≤ f ∧ f < (n : Int))) := hf
      clear hf
      rcases hk' with h1 | ⟨h1, h2⟩
      all_goals
        go_enter Try.func75, Try.ntmps75
        go_wp2_with (go_at_call 78; refine (Ans.denies (numbers_int f _ _) HF.out).mono ?_; rintro e w' ⟨rfl, rfl⟩)
        go_ret
        exact Ans.no (fun h => HF.out h.2.1) (HB.out _)
  · have h1 : (k != 1) = true := by simp; omega
    have h2 : (k != 2) = true := by simp; omega
    have HK : Hid (¬ (k = 1 ∨ k = 2)) := hk
    clear hk
    go_enter Try.func75, Try.ntmps75
    go_wp2_with fail
    go_ret
    exact Ans.no (fun h => HK.out h.1) (HB.out _)

set_option maxHeartbeats 400000 in
theorem chanClosure_any (k f t : Int) (n h : Nat) (w : World) (hh : w.cell? ⟨h, 0, none⟩ = some (.int .i64 n)) :
    Calls Try.prog 74 #[.agg #[.int .i64 k, .int .i64 f, .int .i64 t], .pointer (some ⟨h, 0, none⟩)] w (Ans (¬ ChV n k f t) (Below w.heap.size w)) := by
  have hlt : h < w.heap.size := block_lt_of_cell hh
  by_cases hok : ChV n k f t
  · have HO : Hid (ChV n k f t) := hok
    clear hok
    go_enter Try.func74, Try.ntmps74
    go_wp2_with (go_at_call 75; refine (Ans.says (chanMayBe_any k f t n _) HO.out).mono ?_; rintro e w' ⟨rfl, hbel⟩)
    go_ret
    exact Ans.no (fun h => h HO.out) (below1 hbel)
  · have HO : Hid (¬ ChV n k f t) := hok
    clear hok
    go_enter Try.func74, Try.ntmps74
    go_wp2_with (go_at_call 75; refine (Ans.denies (chanMayBe_any k f t n _) HO.out).mono ?_; rintro e w' ⟨rfl, hbel⟩)
    go_ret
    exact Ans.yes HO.out (below1 hbel)

set_option maxHeartbeats 400000 in
theorem devClosure_any (d : Int) (n h : Nat) (w : World) (hh : w.cell? ⟨h, 0, none⟩ = some (.int .i64 n)) :
    Calls Try.prog 77 #[.int .i64 d, .pointer (some ⟨h, 0, none⟩)] w (Ans (¬ (0 ≤ d ∧ d < (n : Int))) (Below w.heap.size w)) := by
  have hlt : h < w.heap.size := block_lt_of_cell hh
  by_cases hok : (0 ≤ d ∧ d < (n : Int))
  · have HO : Hid ((0 ≤ d ∧ d < (n : Int))) := hok
    clear hok
    go_enter Try.func77, Try.ntmps77
    go_wp2_with (go_at_call 78; refine (Ans.says (numbers_int d n _) HO.out).mono ?_; rintro e w' ⟨rfl, rfl⟩)
    go_ret
    exact Ans.no (fun h => h HO.out) (Below.refl _ _)
  · have HO : Hid (¬ (0 ≤ d ∧ d < (n : Int))) := hok
    clear hok
    go_enter Try.func77, Try.ntmps77
    go_wp2_with (go_at_call 78; refine (Ans.denies (numbers_int d n _) HO.out).mono ?_; rintro e w' ⟨rfl, rfl⟩)
    go_ret
    exact Ans.yes HO.out (Below.refl _ _)

set_option maxHeartbeats 400000 in
theorem chanIndex_any (p : Option Addr) (n cap : Nat) (z : Nat → Int) (h : Nat) (P : Nat → Prop) (w : World) (hs : Sl w p (n * 3) (fun j => .int .i64 (z j))) (hb : n ≤ 17592186044416)
    (hcl : ∀ i, i < n → ∀ wr, Below w.heap.size w wr → Calls Try.prog 74 #[.agg #[.int .i64 (z (i * 3)), .int .i64 (z (i * 3 + 1)), .int .i64 (z (i * 3 + 2))], .pointer (some ⟨h, 0, none⟩)] wr (Ans (¬ P i) (Below wr.heap.size wr))) :
    Calls Try.prog 73 #[.slice p n cap, .func (.func 74) #[] #[.pointer (some ⟨h, 0, none⟩)]] w (Idx P n w) := by
  have HS : Hid (Sl w p (n * 3) (fun j => .int .i64 (z j))) := hs
  have HC : Hid (∀ i, i < n → ∀ wr, Below w.heap.size w wr → Calls Try.prog 74 #[.agg #[.int .i64 (z (i * 3)), .int .i64 (z (i * 3 + 1)), .int .i64 (z (i * 3 + 2))], .pointer (some ⟨h, 0, none⟩)] wr (Ans (¬ P i) (Below wr.heap.size wr))) := hcl
  clear hs hcl
  go_enter Try.func73, Try.ntmps73
  go_wp2_with fail
  go_loopw [8] (fun i wr => ∃ k : Nat, k ≤ n ∧ i = .int .i64 k ∧ Hid (AllOk P k) ∧ Hid (Below w.heap.size w wr)) (fun i _ => n - (intOf i).toNat)
  case atStart => exact ⟨0, Nat.zero_le _, rfl, AllOk.zero _, Below.refl _ _⟩
  case round =>
    obtain ⟨k, hk, rfl, HI, HW⟩ := hrel
    by_cases hlt : k < n
    · obtain ⟨b, off, rfl, hc⟩ := (HS.out.below HW.out).at (by omega)
      have c0 := hc (k * 3) (by omega)
      have c1 := hc (k * 3 + 1) (by omega)
      have c2 := hc (k * 3 + 2) (by omega)
      rw [← Nat.add_assoc] at c1 c2
      clear hc
      by_cases hok : P k
      · have HO : Hid (P k) := hok
        clear hok
        go_wp2_with (go_at_call 74; refine (Ans.denies (HC.out k hlt wr HW.out) (fun h => h HO.out)).mono ?_; rintro e w' ⟨rfl, hbel⟩)
        refine ⟨⟨k + 1, by omega, by go_num, HI.out.step HO.out, ?_⟩, by simp [intOf]; omega⟩
        exact HW.out.trans (hbel.mono HW.out.size)
      · have HO : Hid (¬ P k) := hok
        clear hok
        go_wp2_with (go_at_call 74; refine (Ans.says (HC.out k hlt wr HW.out) HO.out).mono ?_; rintro e w' ⟨rfl, hbel⟩)
        go_ret
        exact Idx.some ⟨hlt, HO.out, HI.out⟩ (HW.out.trans (hbel.mono HW.out.size))
    · obtain rfl : k = n := by omega
      go_wp2_with fail
      go_ret
      exact Idx.none HI.out HW.out

set_option maxHeartbeats 400000 in
theorem devIndex_any (p : Option Addr) (n cap : Nat) (z : Nat → Int) (h : Nat) (P : Nat → Prop) (w : World) (hs : Sl w p (n) (fun j => .int .i64 (z j))) (hb : n ≤ 17592186044416)
    (hcl : ∀ i, i < n → ∀ wr, Below w.heap.size w wr → Calls Try.prog 77 #[.int .i64 (z i), .pointer (some ⟨h, 0, none⟩)] wr (Ans (¬ P i) (Below wr.heap.size wr))) :
    Calls Try.prog 76 #[.slice p n cap, .func (.func 77) #[] #[.pointer (some ⟨h, 0, none⟩)]] w (Idx P n w) := by
  have HS : Hid (Sl w p (n) (fun j => .int .i64 (z j))) := hs
  have HC : Hid (∀ i, i < n → ∀ wr, Below w.heap.size w wr → Calls Try.prog 77 #[.int .i64 (z i), .pointer (some ⟨h, 0, none⟩)] wr (Ans (¬ P i) (Below wr.heap.size wr))) := hcl
  clear hs hcl
  go_enter Try.func76, Try.ntmps76
  go_wp2_with fail
  go_loopw [8] (fun i wr => ∃ k : Nat, k ≤ n ∧ i = .int .i64 k ∧ Hid (AllOk P k) ∧ Hid (Below w.heap.size w wr)) (fun i _ => n - (intOf i).toNat)
  case atStart => exact ⟨0, Nat.zero_le _, rfl, AllOk.zero _, Below.refl _ _⟩
  case round =>
    obtain ⟨k, hk, rfl, HI, HW⟩ := hrel
    by_cases hlt : k < n
    · obtain ⟨b, off, rfl, hc⟩ := (HS.out.below HW.out).at (by omega)
      have c0 := hc (k) (by omega)
      clear hc
      by_cases hok : P k
      · have HO : Hid (P k) := hok
        clear hok
        go_wp2_with (go_at_call 77; refine (Ans.denies (HC.out k hlt wr HW.out) (fun h => h HO.out)).mono ?_; rintro e w' ⟨rfl, hbel⟩)
        refine ⟨⟨k + 1, by omega, by go_num, HI.out.step HO.out, ?_⟩, by simp [intOf]; omega⟩
        exact HW.out.trans (hbel.mono HW.out.size)
      · have HO : Hid (¬ P k) := hok
        clear hok
        go_wp2_with (go_at_call 77; refine (Ans.says (HC.out k hlt wr HW.out) HO.out).mono ?_; rintro e w' ⟨rfl, hbel⟩)
        go_ret
        exact Idx.some ⟨hlt, HO.out, HI.out⟩ (HW.out.trans (hbel.mono HW.out.size))
    · obtain rfl : k = n := by omega
      go_wp2_with fail
      go_ret
      exact Idx.none HI.out HW.out

end Go.Proofs.Ytdoghgnifkgfdaa
