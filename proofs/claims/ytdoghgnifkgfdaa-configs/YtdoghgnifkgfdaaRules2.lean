import Derived.Test.YtdoghgnifkgfdaaRules1
namespace Go.Proofs.Ytdoghgnifkgfdaa
open Go.RowKit

/-- What an index function answers: the place of the first of n that is not P, or -1. -/
def Idx (P : Nat → Prop) (n : Nat) (w : World) (e : Ending) (w' : World) : Prop :=
  ∃ x : Int, e = .returned (.int .i64 x) ∧ ((x = -1 ∧ AllOk P n) ∨ ∃ i : Nat, x = i ∧ Bad1 P n i) ∧ Below w.heap.size w w'
theorem Idx.none {P : Nat → Prop} {n : Nat} {w w' : World} (h : AllOk P n) (hb : Below w.heap.size w w') : Idx P n w (.returned (.int .i64 (-1))) w' := ⟨-1, rfl, .inl ⟨rfl, h⟩, hb⟩
theorem Idx.some {P : Nat → Prop} {n i : Nat} {w w' : World} (h : Bad1 P n i) (hb : Below w.heap.size w w') : Idx P n w (.returned (.int .i64 i)) w' := ⟨i, rfl, .inr ⟨i, rfl, h⟩, hb⟩

set_option maxHeartbeats 400000 in
theorem rowClosure_any (p : Option Addr) (m cap n h : Nat) (z : Nat → Int) (w : World) (hh : w.cell? ⟨h, 0, none⟩ = some (.int .i64 n)) (hs : Sl w p (m * 2) (fun j => .int .i64 (z j))) (hb : 16 * m ≤ 140737488355328) :
    Calls Try.prog 71 #[.slice p m cap, .pointer (some ⟨h, 0, none⟩)] w (Ans (¬ RowOk n m z) (Below w.heap.size w)) := by
  have HS : Hid (Sl w p (m * 2) (fun j => .int .i64 (z j))) := hs
  have HN : Hid (16 * m ≤ 140737488355328) := hb
  clear hs hb
  by_cases hok : RowOk n m z
  · have HO : Hid (RowOk n m z) := hok
    clear hok
    go_enter Try.func71, Try.ntmps71
    go_wp2_with (go_at_call 72; refine (Ans.says (rowMayBe_any p m cap n z _ HS.out HN.out) HO.out).mono ?_; rintro e w' ⟨rfl, hbel⟩)
    go_ret
    exact Ans.no (fun h => h HO.out) hbel
  · have HO : Hid (¬ RowOk n m z) := hok
    clear hok
    go_enter Try.func71, Try.ntmps71
    go_wp2_with (go_at_call 72; refine (Ans.denies (rowMayBe_any p m cap n z _ HS.out HN.out) HO.out).mono ?_; rintro e w' ⟨rfl, hbel⟩)
    go_ret
    exact Ans.yes HO.out hbel

set_option maxHeartbeats 400000 in
theorem rowIndex_any (p : Option Addr) (n cap : Nat) (F : Nat → Value) (h : Nat) (P : Nat → Prop) (w : World) (hs : Sl w p n F) (hb : n ≤ 8796093022208)
    (hcl : ∀ i, i < n → ∀ wr, Below w.heap.size w wr → Calls Try.prog 71 #[F i, .pointer (some ⟨h, 0, none⟩)] wr (Ans (¬ P i) (Below wr.heap.size wr))) :
    Calls Try.prog 70 #[.slice p n cap, .func (.func 71) #[] #[.pointer (some ⟨h, 0, none⟩)]] w (Idx P n w) := by
  have HS : Hid (Sl w p n F) := hs
  have HC : Hid (∀ i, i < n → ∀ wr, Below w.heap.size w wr → Calls Try.prog 71 #[F i, .pointer (some ⟨h, 0, none⟩)] wr (Ans (¬ P i) (Below wr.heap.size wr))) := hcl
  clear hs hcl
  go_enter Try.func70, Try.ntmps70
  go_wp2_with fail
  go_loopw [8] (fun i wr => ∃ k : Nat, k ≤ n ∧ i = .int .i64 k ∧ Hid (AllOk P k) ∧ Hid (Below w.heap.size w wr)) (fun i _ => n - (intOf i).toNat)
  case atStart => exact ⟨0, Nat.zero_le _, rfl, AllOk.zero _, Below.refl _ _⟩
  case round =>
    obtain ⟨k, hk, rfl, HI, HW⟩ := hrel
    by_cases hlt : k < n
    · obtain ⟨b, off, rfl, hc⟩ := (HS.out.below HW.out).at (by omega)
      have c0 := hc k (by omega)
      clear hc
      by_cases hok : P k
      · have HO : Hid (P k) := hok
        clear hok
        go_wp2_with (go_at_call 71; refine (Ans.denies (HC.out k hlt wr HW.out) (fun h => h HO.out)).mono ?_; rintro e w' ⟨rfl, hbel⟩)
        refine ⟨⟨k + 1, by omega, by go_num, HI.out.step HO.out, ?_⟩, by simp [intOf]; omega⟩
        exact HW.out.trans (hbel.mono HW.out.size)
      · have HO : Hid (¬ P k) := hok
        clear hok
        go_wp2_with (go_at_call 71; refine (Ans.says (HC.out k hlt wr HW.out) HO.out).mono ?_; rintro e w' ⟨rfl, hbel⟩)
        go_ret
        exact Idx.some ⟨hlt, HO.out, HI.out⟩ (HW.out.trans (hbel.mono HW.out.size))
    · obtain rfl : k = n := by omega
      go_wp2_with fail
      go_ret
      exact Idx.none HI.out HW.out

end Go.Proofs.Ytdoghgnifkgfdaa
