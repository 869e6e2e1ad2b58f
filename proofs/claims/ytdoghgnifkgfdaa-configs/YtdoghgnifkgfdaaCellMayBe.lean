import Derived.Test.YtdoghgnifkgfdaaInsMayBe
namespace Go.Proofs.Ytdoghgnifkgfdaa
open Go.RowKit Go.Maps

theorem Ans.turn {P P' : Prop} {W : World → Prop} {e : Ending} {w' : World} (h : Ans P W e w') (hp : P ↔ P') : Ans P' W e w' := by
  obtain ⟨b, h1, h2, h3⟩ := h
  exact ⟨b, h1, h2.trans hp, h3⟩

/-- What a setting holds: the cell's number, how many instructions, the devices, the map of users. -/
theorem insMayBe_any (c : Cfg) (cell b cap : Nat) (p : Option Addr) (op r a n : Int) (w : World) (hu : UsersR w b c) (hs : Sl w p c.nD (fun j => .int .i64 (c.dv j))) (hb : c.nD ≤ 4) (wn : (Lit.int .i64 n).wf = true) :
    Calls Try.prog 86 #[.agg #[.int .i64 cell, .int .i64 (c.nCode cell), .slice p c.nD cap, .map (some b)], .agg #[.int .i64 op, .int .i64 r, .int .i64 a, .int .i64 n]] w (Ans (InsOk c cell (c.nCode cell) op r a n) (Below w.heap.size w)) := by
  by_cases hr : 0 ≤ r ∧ r < 4
  case neg => exact (im_badR _ _ _ _ _ _ _ _ _ hr).mono fun e w' ⟨h1, h2⟩ => by subst h1; exact Ans.no (fun h => hr h.2.1) h2
  by_cases ha : 0 ≤ a ∧ a < 4
  case neg => exact (im_badA _ _ _ _ _ _ _ _ _ hr ha).mono fun e w' ⟨h1, h2⟩ => by subst h1; exact Ans.no (fun h => ha h.2.2.1) h2
  have hyes : ∀ op : Int, (0 ≤ op ∧ op ≤ 7) ∨ op = 15 → InsOk c cell (c.nCode cell) op r a n := fun op h =>
    ⟨by omega, hr, ha, by omega, by omega, by omega, by omega, by omega, by omega⟩
  by_cases e8 : op = 8
  · subst e8
    refine (im_8 _ _ r a n _ _ w hr ha).mono fun e w' h => Ans.turn h ?_
    exact ⟨fun h => ⟨by omega, hr, ha, fun _ => h, by omega, by omega, by omega, by omega, by omega⟩, fun h => h.2.2.2.1 (Or.inl rfl)⟩
  by_cases e9 : op = 9
  · subst e9
    refine (im_9 _ _ r a n _ _ w hr ha).mono fun e w' h => Ans.turn h ?_
    exact ⟨fun h => ⟨by omega, hr, ha, fun _ => h, by omega, by omega, by omega, by omega, by omega⟩, fun h => h.2.2.2.1 (Or.inr rfl)⟩
  by_cases e10 : op = 10
  · subst e10
    refine (im_10 c _ _ r a n _ b w hr ha hu wn).mono fun e w' h => Ans.turn h ?_
    exact ⟨fun h => ⟨by omega, hr, ha, by omega, fun _ => h, by omega, by omega, by omega, by omega⟩, fun h => h.2.2.2.2.1 rfl⟩
  by_cases e11 : op = 11
  · subst e11
    refine (im_11 c _ _ r a n _ b w hr ha hu wn).mono fun e w' h => Ans.turn h ?_
    exact ⟨fun h => ⟨by omega, hr, ha, by omega, by omega, fun _ => h, by omega, by omega, by omega⟩, fun h => h.2.2.2.2.2.1 rfl⟩
  by_cases e12 : op = 12
  · subst e12
    refine (im_12 c _ _ r a n _ b w hr ha hu wn).mono fun e w' h => Ans.turn h ?_
    exact ⟨fun h => ⟨by omega, hr, ha, by omega, by omega, by omega, fun _ => h, by omega, by omega⟩, fun h => h.2.2.2.2.2.2.1 (Or.inl rfl)⟩
  by_cases e16 : op = 16
  · subst e16
    refine (im_16 c _ _ r a n _ b w hr ha hu wn).mono fun e w' h => Ans.turn h ?_
    exact ⟨fun h => ⟨by omega, hr, ha, by omega, by omega, by omega, fun _ => h, by omega, by omega⟩, fun h => h.2.2.2.2.2.2.1 (Or.inr rfl)⟩
  by_cases e13 : op = 13
  · subst e13
    refine (im_13 c _ _ r a n _ b w hr ha hu wn).mono fun e w' h => Ans.turn h ?_
    exact ⟨fun h => ⟨by omega, hr, ha, by omega, by omega, by omega, by omega, fun _ => h, by omega⟩, fun h => h.2.2.2.2.2.2.2.1 rfl⟩
  by_cases e14 : op = 14
  · subst e14
    refine (im_14 c _ _ r a n p cap _ w hr ha hs hb).mono fun e w' h => Ans.turn h ?_
    exact ⟨fun h => ⟨by omega, hr, ha, by omega, by omega, by omega, by omega, by omega, fun _ => h⟩, fun h => h.2.2.2.2.2.2.2.2 rfl⟩
  by_cases e0 : op = 0
  · subst e0; exact (im_0 _ _ r a n _ _ w hr ha).mono fun e w' ⟨h1, h2⟩ => by subst h1; exact Ans.yes (hyes _ (by omega)) h2
  by_cases e1 : op = 1
  · subst e1; exact (im_1 _ _ r a n _ _ w hr ha).mono fun e w' ⟨h1, h2⟩ => by subst h1; exact Ans.yes (hyes _ (by omega)) h2
  by_cases e2 : op = 2
  · subst e2; exact (im_2 _ _ r a n _ _ w hr ha).mono fun e w' ⟨h1, h2⟩ => by subst h1; exact Ans.yes (hyes _ (by omega)) h2
  by_cases e3 : op = 3
  · subst e3; exact (im_3 _ _ r a n _ _ w hr ha).mono fun e w' ⟨h1, h2⟩ => by subst h1; exact Ans.yes (hyes _ (by omega)) h2
  by_cases e4 : op = 4
  · subst e4; exact (im_4 _ _ r a n _ _ w hr ha).mono fun e w' ⟨h1, h2⟩ => by subst h1; exact Ans.yes (hyes _ (by omega)) h2
  by_cases e5 : op = 5
  · subst e5; exact (im_5 _ _ r a n _ _ w hr ha).mono fun e w' ⟨h1, h2⟩ => by subst h1; exact Ans.yes (hyes _ (by omega)) h2
  by_cases e6 : op = 6
  · subst e6; exact (im_6 _ _ r a n _ _ w hr ha).mono fun e w' ⟨h1, h2⟩ => by subst h1; exact Ans.yes (hyes _ (by omega)) h2
  by_cases e7 : op = 7
  · subst e7; exact (im_7 _ _ r a n _ _ w hr ha).mono fun e w' ⟨h1, h2⟩ => by subst h1; exact Ans.yes (hyes _ (by omega)) h2
  by_cases e15 : op = 15
  · subst e15; exact (im_15 _ _ r a n _ _ w hr ha).mono fun e w' ⟨h1, h2⟩ => by subst h1; exact Ans.yes (hyes _ (by omega)) h2
  refine (im_other _ _ op r a n _ _ w hr ha (by simpa using e0) (by simpa using e1) (by simpa using e2) (by simpa using e3) (by simpa using e4) (by simpa using e5) (by simpa using e6) (by simpa using e7) (by simpa using e8) (by simpa using e9) (by simpa using e10) (by simpa using e11) (by simpa using e12) (by simpa using e13) (by simpa using e14) (by simpa using e15) (by simpa using e16)).mono ?_
  rintro e w' ⟨rfl, h2⟩
  exact Ans.no (fun h => by have := h.1; omega) h2

set_option maxHeartbeats 400000 in
theorem insClosure_any (c : Cfg) (cell b cap h : Nat) (p : Option Addr) (op r a n : Int) (w : World) (h0 : w.cell? ⟨h, 0, none⟩ = some (.int .i64 cell)) (h1 : w.cell? ⟨h, 1, none⟩ = some (.int .i64 (c.nCode cell))) (h2 : w.cell? ⟨h, 2, none⟩ = some (.slice p c.nD cap)) (h3 : w.cell? ⟨h, 3, none⟩ = some (.map (some b)))
    (hu : UsersR w b c) (hs : Sl w p c.nD (fun j => .int .i64 (c.dv j))) (hb : c.nD ≤ 4) (wn : (Lit.int .i64 n).wf = true) :
    Calls Try.prog 85 #[.agg #[.int .i64 op, .int .i64 r, .int .i64 a, .int .i64 n], .pointer (some ⟨h, 0, none⟩)] w (Ans (¬ InsOk c cell (c.nCode cell) op r a n) (Below w.heap.size w)) := by
  have hlt : h < w.heap.size := block_lt_of_cell h0
  have HU : Hid (UsersR w b c) := hu
  have HS : Hid (Sl w p c.nD (fun j => .int .i64 (c.dv j))) := hs
  have HN : Hid ((Lit.int .i64 n).wf = true) := wn
  have HA : Hid (∀ o, Below w.heap.size w (w.alloc o)) := fun o => (Below.refl _ _).alloc (Nat.le_refl _) _
  clear hu hs wn
  by_cases hok : InsOk c cell (c.nCode cell) op r a n
  · have HO : Hid (InsOk c cell (c.nCode cell) op r a n) := hok
    clear hok
    go_enter Try.func85, Try.ntmps85
    go_wp2_with (go_at_call 86; refine (Ans.says (insMayBe_any c cell b cap p op r a n _ (by exact usersR_alloc HU.out _) (by exact HS.out.below (HA.out _)) hb HN.out) HO.out).mono ?_; rintro e w' ⟨rfl, hbel⟩)
    go_ret
    exact Ans.no (fun h => h HO.out) (below1 hbel)
  · have HO : Hid (¬ InsOk c cell (c.nCode cell) op r a n) := hok
    clear hok
    go_enter Try.func85, Try.ntmps85
    go_wp2_with (go_at_call 86; refine (Ans.denies (insMayBe_any c cell b cap p op r a n _ (by exact usersR_alloc HU.out _) (by exact HS.out.below (HA.out _)) hb HN.out) HO.out).mono ?_; rintro e w' ⟨rfl, hbel⟩)
    go_ret
    exact Ans.yes HO.out (below1 hbel)

set_option maxHeartbeats 400000 in
theorem insIndex_any (p : Option Addr) (n cap : Nat) (z : Nat → Int) (h : Nat) (P : Nat → Prop) (w : World) (hs : Sl w p (n * 4) (fun j => .int .i64 (z j))) (hb : n ≤ 17592186044416)
    (hcl : ∀ i, i < n → ∀ wr, Below w.heap.size w wr → Calls Try.prog 85 #[.agg #[.int .i64 (z (i * 4)), .int .i64 (z (i * 4 + 1)), .int .i64 (z (i * 4 + 2)), .int .i64 (z (i * 4 + 3))], .pointer (some ⟨h, 0, none⟩)] wr (Ans (¬ P i) (Below wr.heap.size wr))) :
    Calls Try.prog 92 #[.slice p n cap, .func (.func 85) #[] #[.pointer (some ⟨h, 0, none⟩)]] w (Idx P n w) := by
  have HS : Hid (Sl w p (n * 4) (fun j => .int .i64 (z j))) := hs
  have HC : Hid (∀ i, i < n → ∀ wr, Below w.heap.size w wr → Calls Try.prog 85 #[.agg #[.int .i64 (z (i * 4)), .int .i64 (z (i * 4 + 1)), .int .i64 (z (i * 4 + 2)), .int .i64 (z (i * 4 + 3))], .pointer (some ⟨h, 0, none⟩)] wr (Ans (¬ P i) (Below wr.heap.size wr))) := hcl
  clear hs hcl
  go_enter Try.func92, Try.ntmps92
  go_wp2_with fail
  go_loopw [8] (fun i wr => ∃ k : Nat, k ≤ n ∧ i = .int .i64 k ∧ Hid (AllOk P k) ∧ Hid (Below w.heap.size w wr)) (fun i _ => n - (intOf i).toNat)
  case atStart => exact ⟨0, Nat.zero_le _, rfl, AllOk.zero _, Below.refl _ _⟩
  case round =>
    obtain ⟨k, hk, rfl, HI, HW⟩ := hrel
    by_cases hlt : k < n
    · obtain ⟨b, off, rfl, hc⟩ := (HS.out.below HW.out).at (by omega)
      have c0 := hc (k * 4) (by omega)
      have c1 := hc (k * 4 + 1) (by omega)
      have c2 := hc (k * 4 + 2) (by omega)
      have c3 := hc (k * 4 + 3) (by omega)
      rw [← Nat.add_assoc] at c1 c2 c3
      clear hc
      by_cases hok : P k
      · have HO : Hid (P k) := hok
        clear hok
        go_wp2_with (go_at_call 85; refine (Ans.denies (HC.out k hlt wr HW.out) (fun h => h HO.out)).mono ?_; rintro e w' ⟨rfl, hbel⟩)
        refine ⟨⟨k + 1, by omega, by go_num, HI.out.step HO.out, ?_⟩, by simp [intOf]; omega⟩
        exact HW.out.trans (hbel.mono HW.out.size)
      · have HO : Hid (¬ P k) := hok
        clear hok
        go_wp2_with (go_at_call 85; refine (Ans.says (HC.out k hlt wr HW.out) HO.out).mono ?_; rintro e w' ⟨rfl, hbel⟩)
        go_ret
        exact Idx.some ⟨hlt, HO.out, HI.out⟩ (HW.out.trans (hbel.mono HW.out.size))
    · obtain rfl : k = n := by omega
      go_wp2_with fail
      go_ret
      exact Idx.none HI.out HW.out

set_option maxHeartbeats 400000 in
theorem contains_any (p : Option Addr) (n cap : Nat) (z : Nat → Int) (h : Nat) (P : Nat → Prop) (w : World) (hs : Sl w p (n * 4) (fun j => .int .i64 (z j))) (hb : n ≤ 17592186044416)
    (hcl : ∀ i, i < n → ∀ wr, Below w.heap.size w wr → Calls Try.prog 85 #[.agg #[.int .i64 (z (i * 4)), .int .i64 (z (i * 4 + 1)), .int .i64 (z (i * 4 + 2)), .int .i64 (z (i * 4 + 3))], .pointer (some ⟨h, 0, none⟩)] wr (Ans (¬ P i) (Below wr.heap.size wr))) :
    Calls Try.prog 84 #[.slice p n cap, .func (.func 85) #[] #[.pointer (some ⟨h, 0, none⟩)]] w (Ans (¬ AllOk P n) (Below w.heap.size w)) := by
  have HI : Hid (Calls Try.prog 92 #[.slice p n cap, .func (.func 85) #[] #[.pointer (some ⟨h, 0, none⟩)]] w (Idx P n w)) := insIndex_any p n cap z h P w hs hb hcl
  clear hs hcl hb
  go_enter Try.func84, Try.ntmps84
  go_wp2_with (go_at_call 92; refine HI.out.mono ?_; rintro e w' ⟨x, rfl, hx, hbel⟩; have HX : Hid _ := hx; clear hx)
  go_ret
  refine Ans.of (b := decide (0 ≤ x)) ?_ hbel
  simp only [decide_eq_true_eq]
  rcases HX.out with ⟨rfl, h⟩ | ⟨i, rfl, h⟩
  · exact ⟨fun h => absurd h (by omega), fun h' => absurd h h'⟩
  · exact ⟨fun _ h' => h.not_all h', fun _ => by omega⟩

end Go.Proofs.Ytdoghgnifkgfdaa
