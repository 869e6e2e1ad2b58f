import Derived.Test.YtdoghgnifkgfdaaUsers
import Derived.Test.YtdoghgnifkgfdaaRules3
import Derived.BigQuiet
import Derived.Deep.QuietTactic
namespace Go.Proofs.Ytdoghgnifkgfdaa
open Go.RowKit Go.Maps

theorem zeroInt (w : World) : (zeroValue 3).run Try.prog w = .ok (.int .i64 0) w := by kernel_rfl

theorem users_yes1 {D : DataW Unit} {c : Cfg} {k n v : Int} {kl : Lit} (hD : MapIs D c c.nCh) (hk : UKey 1 k n kl) (hh : Maps.has D kl = true) (hv : D.atKey kl (.lit (.int .i64 0)) = .lit (.int .i64 v)) (cell : Int) : (v == cell) = true ↔ UseOk c cell n k 1 := by
  obtain ⟨i, hi, rfl, rfl, _⟩ := ((hD.2 _ _ _ _ hk).1).1 hh
  have := ((hD.2 _ _ _ _ hk).2 i hi rfl rfl).1 rfl
  rw [this] at hv
  injection hv with hv
  injection hv with _ hv
  subst hv
  simp only [beq_iff_eq, UseOk, Int.toNat_natCast]
  exact ⟨fun h => ⟨by omega, by omega, trivial, h⟩, fun h => h.2.2.2⟩

theorem users_no1 {D : DataW Unit} {c : Cfg} {k n : Int} {kl : Lit} (hD : MapIs D c c.nCh) (hk : UKey 1 k n kl) (hh : Maps.has D kl = false) (cell : Int) : ¬ UseOk c cell n k 1 := by
  intro ⟨h1, h2, h3, _⟩
  have : Maps.has D kl = true := ((hD.2 _ _ _ _ hk).1).2 ⟨n.toNat, by omega, by omega, h3.symm, by omega⟩
  rw [hh] at this
  cases this

set_option maxHeartbeats 400000 in
theorem mayUse_1 (c : Cfg) (cell code k n : Int) (dv : Value) (b : Nat) (w : World) (hu : UsersR w b c) (wk : (Lit.int .i64 k).wf = true) (wn : (Lit.int .i64 n).wf = true) :
    Calls Try.prog 94 #[.agg #[.int .i64 cell, .int .i64 code, dv, .map (some b)], .agg #[.int .i64 1, .int .i64 k, .int .i64 n]] w (Ans (UseOk c cell n k 1) (Below w.heap.size w)) := by
  obtain ⟨m, D, hown, hD⟩ := hu
  obtain ⟨kl, hkl⟩ := keyUse 1 k n (wfi (by omega) (by omega)) wk wn
  have HB : Hid (∀ o o', Below w.heap.size w ((w.alloc o).alloc o')) := fun o o' => ((Below.refl _ _).alloc (Nat.le_refl _) _).alloc (by simp) _
  have HK : Hid (keyOf Try.prog 192 (.agg #[.int .i64 1, .int .i64 k, .int .i64 n]) = some kl) := hkl
  have HO : Hid (w.ownsMap Try.prog 192 (plainElem Try.prog 3) b m D) := hown
  have HD : Hid (MapIs D c c.nCh) := hD
  clear hown hD hkl wk wn
  cases hh : Maps.has D kl
  · have HN : Hid (¬ UseOk c cell n k 1) := users_no1 HD.out HK.out hh cell
    go_enter Try.func94, Try.ntmps94
    go_wp2_with (at_lookup; refine wpList_lookup_own_ok_int _ rfl _ _ 181 rfl 192 3 .i64 lawUse Try.underlying181 Try.underlying3 (zeroInt _) b m D rfl ((HO.out.alloc _).alloc _) _ kl rfl HK.out ?_; intro v hat hwv; clear hat hwv)
    go_ret
    exact Ans.no HN.out (HB.out _ _)
  · have HY : Hid (∀ v, D.atKey kl (.lit (.int .i64 0)) = .lit (.int .i64 v) → ((v == cell) = true ↔ UseOk c cell n k 1)) := fun v hv => users_yes1 HD.out HK.out hh hv cell
    go_enter Try.func94, Try.ntmps94
    go_wp2_with (at_lookup; refine wpList_lookup_own_ok_int _ rfl _ _ 181 rfl 192 3 .i64 lawUse Try.underlying181 Try.underlying3 (zeroInt _) b m D rfl ((HO.out.alloc _).alloc _) _ kl rfl HK.out ?_; intro v hat hwv; have HV := HY.out v hat; clear hat hwv; have HV' : Hid _ := HV; clear HV)
    go_ret
    exact Ans.of (b := (v == cell)) HV'.out (HB.out _ _)

theorem users_yes2 {D : DataW Unit} {c : Cfg} {k n v : Int} {kl : Lit} (hD : MapIs D c c.nCh) (hk : UKey 2 k n kl) (hh : Maps.has D kl = true) (hv : D.atKey kl (.lit (.int .i64 0)) = .lit (.int .i64 v)) (cell : Int) : (v == cell) = true ↔ UseOk c cell n k 2 := by
  obtain ⟨i, hi, rfl, rfl, _⟩ := ((hD.2 _ _ _ _ hk).1).1 hh
  have := ((hD.2 _ _ _ _ hk).2 i hi rfl rfl).2 rfl
  rw [this] at hv
  injection hv with hv
  injection hv with _ hv
  subst hv
  simp only [beq_iff_eq, UseOk, Int.toNat_natCast]
  exact ⟨fun h => ⟨by omega, by omega, trivial, h⟩, fun h => h.2.2.2⟩

theorem users_no2 {D : DataW Unit} {c : Cfg} {k n : Int} {kl : Lit} (hD : MapIs D c c.nCh) (hk : UKey 2 k n kl) (hh : Maps.has D kl = false) (cell : Int) : ¬ UseOk c cell n k 2 := by
  intro ⟨h1, h2, h3, _⟩
  have : Maps.has D kl = true := ((hD.2 _ _ _ _ hk).1).2 ⟨n.toNat, by omega, by omega, h3.symm, by omega⟩
  rw [hh] at this
  cases this

set_option maxHeartbeats 400000 in
theorem mayUse_2 (c : Cfg) (cell code k n : Int) (dv : Value) (b : Nat) (w : World) (hu : UsersR w b c) (wk : (Lit.int .i64 k).wf = true) (wn : (Lit.int .i64 n).wf = true) :
    Calls Try.prog 94 #[.agg #[.int .i64 cell, .int .i64 code, dv, .map (some b)], .agg #[.int .i64 2, .int .i64 k, .int .i64 n]] w (Ans (UseOk c cell n k 2) (Below w.heap.size w)) := by
  obtain ⟨m, D, hown, hD⟩ := hu
  obtain ⟨kl, hkl⟩ := keyUse 2 k n (wfi (by omega) (by omega)) wk wn
  have HB : Hid (∀ o o', Below w.heap.size w ((w.alloc o).alloc o')) := fun o o' => ((Below.refl _ _).alloc (Nat.le_refl _) _).alloc (by simp) _
  have HK : Hid (keyOf Try.prog 192 (.agg #[.int .i64 2, .int .i64 k, .int .i64 n]) = some kl) := hkl
  have HO : Hid (w.ownsMap Try.prog 192 (plainElem Try.prog 3) b m D) := hown
  have HD : Hid (MapIs D c c.nCh) := hD
  clear hown hD hkl wk wn
  cases hh : Maps.has D kl
  · have HN : Hid (¬ UseOk c cell n k 2) := users_no2 HD.out HK.out hh cell
    go_enter Try.func94, Try.ntmps94
    go_wp2_with (at_lookup; refine wpList_lookup_own_ok_int _ rfl _ _ 181 rfl 192 3 .i64 lawUse Try.underlying181 Try.underlying3 (zeroInt _) b m D rfl ((HO.out.alloc _).alloc _) _ kl rfl HK.out ?_; intro v hat hwv; clear hat hwv)
    go_ret
    exact Ans.no HN.out (HB.out _ _)
  · have HY : Hid (∀ v, D.atKey kl (.lit (.int .i64 0)) = .lit (.int .i64 v) → ((v == cell) = true ↔ UseOk c cell n k 2)) := fun v hv => users_yes2 HD.out HK.out hh hv cell
    go_enter Try.func94, Try.ntmps94
    go_wp2_with (at_lookup; refine wpList_lookup_own_ok_int _ rfl _ _ 181 rfl 192 3 .i64 lawUse Try.underlying181 Try.underlying3 (zeroInt _) b m D rfl ((HO.out.alloc _).alloc _) _ kl rfl HK.out ?_; intro v hat hwv; have HV := HY.out v hat; clear hat hwv; have HV' : Hid _ := HV; clear HV)
    go_ret
    exact Ans.of (b := (v == cell)) HV'.out (HB.out _ _)

end Go.Proofs.Ytdoghgnifkgfdaa
