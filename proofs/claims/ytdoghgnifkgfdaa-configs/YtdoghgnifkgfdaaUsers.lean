import Derived.Test.YtdoghgnifkgfdaaKeys
namespace Go.Proofs.Ytdoghgnifkgfdaa
open Go.RowKit Go.Maps

def useV (e k n : Int) : Value := .agg #[.int .i64 e, .int .i64 k, .int .i64 n]
def UKey (e k n : Int) (kl : Lit) : Prop := keyOf Try.prog 192 (useV e k n) = some kl

theorem useV_inj {e k n e' k' n' : Int} (h : useV e k n = useV e' k' n') : e = e' ∧ k = k' ∧ n = n' := by
  simp [useV] at h
  exact h

theorem UKey.inj {e k n e' k' n' : Int} {kl : Lit} (h : UKey e k n kl) (h' : UKey e' k' n' kl) : e = e' ∧ k = k' ∧ n = n' := useV_inj (lawUse.inj h h')
theorem UKey.fn {e k n : Int} {kl kl' : Lit} (h : UKey e k n kl) (h' : UKey e k n kl') : kl = kl' := Option.some.inj (h.symm.trans h')

/-- The map of users behind m channels. -/
def MapIs (D : DataW Unit) (c : Cfg) (m : Nat) : Prop :=
  IsMap D ∧ ∀ e kd n kl, UKey e kd n kl →
    (Maps.has D kl = true ↔ ∃ i : Nat, i < m ∧ n = i ∧ kd = c.ch (i * 3) ∧ (e = 1 ∨ e = 2)) ∧
    ∀ i : Nat, i < m → n = i → kd = c.ch (i * 3) → (e = 1 → D.atKey kl (.lit (.int .i64 0)) = .lit (.int .i64 (c.ch (i * 3 + 1)))) ∧ (e = 2 → D.atKey kl (.lit (.int .i64 0)) = .lit (.int .i64 (c.ch (i * 3 + 2))))

theorem MapIs.zero (c : Cfg) : MapIs (.map []) c 0 := by
  refine ⟨isMap_empty, fun e kd n kl h => ⟨?_, fun i hi => absurd hi (by omega)⟩⟩
  constructor
  · intro h; simp [has_eq] at h
  · rintro ⟨i, hi, _⟩; omega

theorem MapIs.step {D : DataW Unit} {c : Cfg} {m : Nat} {k1 k2 : Lit} (h : MapIs D c m) (h1 : UKey 1 (c.ch (m * 3)) m k1) (h2 : UKey 2 (c.ch (m * 3)) m k2) :
    MapIs ((D.put k1 (.lit (.int .i64 (c.ch (m * 3 + 1))))).put k2 (.lit (.int .i64 (c.ch (m * 3 + 2))))) c (m + 1) := by
  obtain ⟨hM, hD⟩ := h
  have i1 : WideAt.IsKeyLit k1 := lawUse.key h1
  have i2 : WideAt.IsKeyLit k2 := lawUse.key h2
  have h12 : k1 ≠ k2 := by
    intro e
    subst e
    have := (h1.inj h2).1
    omega
  refine ⟨(hM.put _ _).put _ _, fun e kd n kl hk => ?_⟩
  by_cases e2 : kl = k2
  · subst e2
    obtain ⟨r1, r2, r3⟩ := hk.inj h2
    subst r1 r2 r3
    refine ⟨⟨fun _ => ⟨m, by omega, rfl, rfl, .inr rfl⟩, fun _ => has_put_same (hM.put _ _) i2 _⟩, fun i hi hn hkd => ⟨fun h => absurd h (by omega), fun _ => ?_⟩⟩
    obtain rfl : i = m := by omega
    exact atKey_put_same (hM.put _ _) i2 _ _
  · by_cases e1 : kl = k1
    · subst e1
      obtain ⟨r1, r2, r3⟩ := hk.inj h1
      subst r1 r2 r3
      refine ⟨⟨fun _ => ⟨m, by omega, rfl, rfl, .inl rfl⟩, fun _ => ?_⟩, fun i hi hn hkd => ⟨fun _ => ?_, fun h => absurd h (by omega)⟩⟩
      · rw [has_put_other h12]
        exact has_put_same hM i1 _
      · obtain rfl : i = m := by omega
        rw [atKey_put_other h12]
        exact atKey_put_same hM i1 _ _
    · obtain ⟨g1, g2⟩ := hD e kd n kl hk
      have hne : ∀ i : Nat, i < m + 1 → n = i → kd = c.ch (i * 3) → (e = 1 ∨ e = 2) → i < m := by
        intro i hi hn hkd he
        rcases Nat.lt_or_ge i m with hl | hl
        · exact hl
        · obtain rfl : i = m := by omega
          subst hn hkd
          rcases he with rfl | rfl
          · exact absurd (hk.fn h1) e1
          · exact absurd (hk.fn h2) e2
      rw [has_put_other e2, has_put_other e1]
      refine ⟨⟨fun h => ?_, fun ⟨i, hi, hn, hkd, he⟩ => g1.2 ⟨i, hne i hi hn hkd he, hn, hkd, he⟩⟩, fun i hi hn hkd => ?_⟩
      · obtain ⟨i, hi, r⟩ := g1.1 h
        exact ⟨i, by omega, r⟩
      · rw [atKey_put_other e2, atKey_put_other e1]
        exact ⟨fun he => (g2 i (hne i hi hn hkd (.inl he)) hn hkd).1 he, fun he => (g2 i (hne i hi hn hkd (.inr he)) hn hkd).2 he⟩

def UsersR (w : World) (b : Nat) (c : Cfg) : Prop := ∃ n D, w.ownsMap Try.prog 192 (plainElem Try.prog 3) b n D ∧ MapIs D c c.nCh
def Users (c : Cfg) (w : World) (e : Ending) (w' : World) : Prop := ∃ b, e = .returned (.map (some b)) ∧ UsersR w' b c ∧ Below w.heap.size w w'

theorem wfi {a : Int} (h0 : -9223372036854775808 ≤ a) (h1 : a ≤ 9223372036854775807) : (Lit.int .i64 a).wf = true := WalkArith.wf_i64 ⟨h0, h1⟩

set_option maxHeartbeats 1000000 in
theorem usersOf_any (c : Cfg) (p : Option Addr) (cap : Nat) (w : World) (hs : Sl w p (c.nCh * 3) (fun j => .int .i64 (c.ch j))) (h8 : c.nCh ≤ 8) (hok : AllOk (ChOk c) c.nCh) (h6 : c.nC ≤ 6) :
    Calls Try.prog 79 #[.slice p c.nCh cap] w (Users c w) := by
  have HS : Hid (Sl w p (c.nCh * 3) (fun j => .int .i64 (c.ch j))) := hs
  have HO : Hid (AllOk (ChOk c) c.nCh) := hok
  clear hs hok
  have hmm := @run_makeMap Try.prog
  go_enter Try.func79, Try.ntmps79
  go_wp2_with fail
  go_loopw [9] (fun i wr => ∃ k : Nat, k ≤ c.nCh ∧ i = .int .i64 k ∧ Hid (Below w.heap.size w wr) ∧ Hid (∃ D, wr.ownsMap Try.prog 192 (plainElem Try.prog 3) w.heap.size (2 * k) D ∧ MapIs D c k)) (fun i _ => c.nCh - (intOf i).toNat)
  case atStart => exact ⟨0, Nat.zero_le _, rfl, (Below.refl _ _).alloc (Nat.le_refl _) _, ⟨_, World.ownsMap_made _ _ _ _, MapIs.zero c⟩⟩
  case round =>
    obtain ⟨k, hk, rfl, HW, HM⟩ := hrel
    by_cases hlt : k < c.nCh
    · obtain ⟨b, off, rfl, hc⟩ := (HS.out.below HW.out).at (by omega)
      have c0 := hc (k * 3) (by omega)
      have c1 := hc (k * 3 + 1) (by omega)
      have c2 := hc (k * 3 + 2) (by omega)
      have hbl : b < wr.heap.size := block_lt_of_cell c0
      have hsz : w.heap.size ≤ wr.heap.size := HW.out.size
      rw [← Nat.add_assoc] at c1 c2
      clear hc
      obtain ⟨D, hown, hD⟩ := HM.out
      obtain ⟨g1, ⟨g2, g3⟩, ⟨g4, g5⟩, g6⟩ := HO.out k hlt
      obtain ⟨k1, hk1⟩ := keyUse 1 (c.ch (k * 3)) k (wfi (by omega) (by omega)) (wfi (by omega) (by omega)) (wfi (by omega) (by omega))
      obtain ⟨k2, hk2⟩ := keyUse 2 (c.ch (k * 3)) k (wfi (by omega) (by omega)) (wfi (by omega) (by omega)) (wfi (by omega) (by omega))
      have HD : Hid (MapIs ((D.put k1 (.lit (.int .i64 (c.ch (k * 3 + 1))))).put k2 (.lit (.int .i64 (c.ch (k * 3 + 2))))) c (k + 1)) := hD.step hk1 hk2
      have HOW : Hid (wr.ownsMap Try.prog 192 (plainElem Try.prog 3) w.heap.size (2 * k) D) := hown
      have HK1 : Hid (keyOf Try.prog 192 (.agg #[.int .i64 1, .int .i64 (c.ch (k * 3)), .int .i64 k]) = some k1) := hk1
      have HK2 : Hid (keyOf Try.prog 192 (.agg #[.int .i64 2, .int .i64 (c.ch (k * 3)), .int .i64 k]) = some k2) := hk2
      have W1 : Hid ((Lit.int .i64 (c.ch (k * 3 + 1))).wf = true) := wfi (by omega) (by omega)
      have W2 : Hid ((Lit.int .i64 (c.ch (k * 3 + 2))).wf = true) := wfi (by omega) (by omega)
      clear hown hD hk1 hk2 g1 g2 g3 g4 g5 g6
      go_wp2_with (at_mapUpdate; refine wpList_mapUpdate_own _ rfl _ _ _ 181 rfl 192 3 lawUse Try.underlying181 _ w.heap.size (2 * k) D rfl (HOW.out.alloc _) (by unfold maxLen; omega) _ _ k1 rfl rfl HK1.out _ [] (plainElem_int Try.underlying3 W1.out) ?_)
      intro w1 hown1 hgrow1
      have hlt1 : w.heap.size < wr.heap.size := HOW.out.lt
      obtain ⟨y0, _, y2⟩ := box3 (w := wr) (Below.refl _ (wr.alloc (.cells #[.int .i64 (c.ch (k * 3)), .int .i64 (c.ch (k * 3 + 1)), .int .i64 (c.ch (k * 3 + 2))] 75)))
      have x0 := hgrow1.cell y0 (by simp; omega)
      have x2 := hgrow1.cell y2 (by simp; omega)
      have HW1 : Hid (Below w.heap.size w w1) := (HW.out.alloc hsz _).grown hgrow1 (by simp; omega) (fun j hj => by cases hj; exact Nat.le_refl _)
      have HOW1 : Hid (w1.ownsMap Try.prog 192 (plainElem Try.prog 3) w.heap.size (2 * k + 1) (D.put k1 (.lit (.int .i64 (c.ch (k * 3 + 1)))))) := hown1
      clear y0 y2 hown1 hgrow1 c0 c1 c2 HOW
      go_wp2_with (at_mapUpdate; refine wpList_mapUpdate_own _ rfl _ _ _ 181 rfl 192 3 lawUse Try.underlying181 _ w.heap.size (2 * k + 1) (D.put k1 (.lit (.int .i64 (c.ch (k * 3 + 1))))) rfl HOW1.out (by unfold maxLen; omega) _ _ k2 rfl rfl HK2.out _ [] (plainElem_int Try.underlying3 W2.out) ?_)
      intro w2 hown2 hgrow2
      have HW2 : Hid (Below w.heap.size w w2) := HW1.out.grown hgrow2 HW1.out.size (fun j hj => by cases hj; exact Nat.le_refl _)
      have HOW2 : Hid (w2.ownsMap Try.prog 192 (plainElem Try.prog 3) w.heap.size (2 * (k + 1)) ((D.put k1 (.lit (.int .i64 (c.ch (k * 3 + 1))))).put k2 (.lit (.int .i64 (c.ch (k * 3 + 2)))))) := hown2
      clear hown2 hgrow2 HOW1 HW1 x0 x2
      go_wp2_with fail
      exact ⟨⟨k + 1, by omega, by go_num, HW2.out, ⟨_, HOW2.out, HD.out⟩⟩, by simp [intOf]; omega⟩
    · obtain rfl : k = c.nCh := by omega
      go_wp2_with fail
      go_ret
      obtain ⟨D, hown, hD⟩ := HM.out
      exact ⟨_, rfl, ⟨_, D, hown, hD⟩, HW.out⟩

end Go.Proofs.Ytdoghgnifkgfdaa
