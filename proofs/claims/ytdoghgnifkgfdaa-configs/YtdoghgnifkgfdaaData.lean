/-
  A config as numbers (Cfg), which configs may be (P3), and how a config lies in memory (CfgR). No program is named here.
-/
import Derived.Test.YtdoghgnifkgfdaaBase
namespace Go.Proofs.Ytdoghgnifkgfdaa
open Go.RowKit

structure Cfg where
  cellsN : Bool
  nC : Nat
  lim : Nat → Int
  codeN : Nat → Bool
  nCode : Nat → Nat
  code : Nat → Nat → Int
  imgN : Nat → Bool
  nImg : Nat → Nat
  img : Nat → Nat → Int
  tableN : Bool
  nT : Nat
  rowN : Nat → Bool
  nRow : Nat → Nat
  row : Nat → Nat → Int
  chN : Bool
  nCh : Nat
  ch : Nat → Int
  dvN : Bool
  nD : Nat
  dv : Nat → Int

/-- The sum of the first m budgets of a row. -/
def sumTo (z : Nat → Int) : Nat → Int
  | 0 => 0
  | m + 1 => sumTo z m + z (m * 2 + 1)

def WinOk (n : Nat) (z : Nat → Int) (i : Nat) : Prop := 0 ≤ z (i * 2) ∧ z (i * 2) < n ∧ 1 ≤ z (i * 2 + 1)
def RowOk (n m : Nat) (z : Nat → Int) : Prop := m ≤ 6 ∧ (∀ i, i < m → WinOk n z i) ∧ sumTo z m ≤ 200

def ChOk (c : Cfg) (i : Nat) : Prop :=
  (c.ch (i * 3) = 1 ∨ c.ch (i * 3) = 2) ∧ (0 ≤ c.ch (i * 3 + 1) ∧ c.ch (i * 3 + 1) < c.nC) ∧ (0 ≤ c.ch (i * 3 + 2) ∧ c.ch (i * 3 + 2) < c.nC) ∧ c.ch (i * 3 + 1) ≠ c.ch (i * 3 + 2)
def DvOk (c : Cfg) (i : Nat) : Prop := 0 ≤ c.dv i ∧ c.dv i < c.nC

/-- May a cell use channel n of a kind, from its end (1) or to it (2)? -/
def UseOk (c : Cfg) (cell : Int) (n kind : Int) (ende : Nat) : Prop :=
  0 ≤ n ∧ n < c.nCh ∧ c.ch (n.toNat * 3) = kind ∧ c.ch (n.toNat * 3 + ende) = cell

def InsOk (c : Cfg) (cell nCode : Nat) (op r a n : Int) : Prop :=
  (0 ≤ op ∧ op ≤ 16) ∧ (0 ≤ r ∧ r < 4) ∧ (0 ≤ a ∧ a < 4) ∧
  ((op = 8 ∨ op = 9) → 0 ≤ n ∧ n < nCode) ∧
  (op = 10 → UseOk c cell n 1 1) ∧ (op = 11 → UseOk c cell n 2 1) ∧ ((op = 12 ∨ op = 16) → UseOk c cell n 1 2) ∧ (op = 13 → UseOk c cell n 2 2) ∧
  (op = 14 → 0 ≤ n ∧ n < c.nD ∧ c.dv n.toNat = cell)

def InsAt (c : Cfg) (i k : Nat) : Prop := InsOk c i (c.nCode i) (c.code i (k * 4)) (c.code i (k * 4 + 1)) (c.code i (k * 4 + 2)) (c.code i (k * 4 + 3))
def CellOk (c : Cfg) (i : Nat) : Prop :=
  (0 ≤ c.lim i ∧ c.lim i ≤ 5) ∧ c.nImg i ≤ 16 ∧ (1 ≤ c.nCode i ∧ c.nCode i ≤ 48) ∧ ∀ k, k < c.nCode i → InsAt c i k

/-- i is the first of n that may not be. -/
def Bad1 (P : Nat → Prop) (n i : Nat) : Prop := i < n ∧ ¬ P i ∧ ∀ j, j < i → P j
def AllOk (P : Nat → Prop) (n : Nat) : Prop := ∀ j, j < n → P j

def RowAt (c : Cfg) (i : Nat) : Prop := RowOk c.nC (c.nRow i) (c.row i)
def NCok (c : Cfg) : Prop := 1 ≤ c.nC ∧ c.nC ≤ 6
def NTok (c : Cfg) : Prop := 1 ≤ c.nT ∧ c.nT ≤ 8

/-- P3: what New answers. -/
def CheckIs (c : Cfg) (e at' : Int) : Prop :=
  (¬ NCok c ∧ e = 1 ∧ at' = 0) ∨
  (NCok c ∧ ¬ NTok c ∧ e = 2 ∧ at' = 0) ∨
  (NCok c ∧ NTok c ∧ ∃ i : Nat, Bad1 (RowAt c) c.nT i ∧ e = 2 ∧ at' = i) ∨
  (NCok c ∧ NTok c ∧ AllOk (RowAt c) c.nT ∧ ¬ c.nCh ≤ 8 ∧ e = 3 ∧ at' = 0) ∨
  (NCok c ∧ NTok c ∧ AllOk (RowAt c) c.nT ∧ c.nCh ≤ 8 ∧ ∃ i : Nat, Bad1 (ChOk c) c.nCh i ∧ e = 3 ∧ at' = i) ∨
  (NCok c ∧ NTok c ∧ AllOk (RowAt c) c.nT ∧ c.nCh ≤ 8 ∧ AllOk (ChOk c) c.nCh ∧ ¬ c.nD ≤ 4 ∧ e = 4 ∧ at' = 0) ∨
  (NCok c ∧ NTok c ∧ AllOk (RowAt c) c.nT ∧ c.nCh ≤ 8 ∧ AllOk (ChOk c) c.nCh ∧ c.nD ≤ 4 ∧ ∃ i : Nat, Bad1 (DvOk c) c.nD i ∧ e = 4 ∧ at' = i) ∨
  (NCok c ∧ NTok c ∧ AllOk (RowAt c) c.nT ∧ c.nCh ≤ 8 ∧ AllOk (ChOk c) c.nCh ∧ c.nD ≤ 4 ∧ AllOk (DvOk c) c.nD ∧ ∃ i : Nat, Bad1 (CellOk c) c.nC i ∧ e = 5 ∧ at' = i) ∨
  (NCok c ∧ NTok c ∧ AllOk (RowAt c) c.nT ∧ c.nCh ≤ 8 ∧ AllOk (ChOk c) c.nCh ∧ c.nD ≤ 4 ∧ AllOk (DvOk c) c.nD ∧ AllOk (CellOk c) c.nC ∧ e = 0 ∧ at' = 0)

theorem Bad1.uniq {P : Nat → Prop} {n i j : Nat} (h : Bad1 P n i) (k : Bad1 P n j) : i = j := by
  rcases Nat.lt_trichotomy i j with hl | he | hl
  · exact absurd (k.2.2 i hl) h.2.1
  · exact he
  · exact absurd (h.2.2 j hl) k.2.1

theorem Bad1.not_all {P : Nat → Prop} {n i : Nat} (h : Bad1 P n i) (k : AllOk P n) : False := h.2.1 (k i h.1)

theorem CheckIs.uniq {c : Cfg} {e a e' a' : Int} (h : CheckIs c e a) (k : CheckIs c e' a') : e = e' ∧ a = a' := by
  unfold CheckIs at h k
  rcases h with h | h | h | h | h | h | h | h | h <;> rcases k with k | k | k | k | k | k | k | k | k
  all_goals first
    | exact absurd k.1 h.1
    | exact absurd h.1 k.1
    | exact absurd k.2.1 h.2.1
    | exact absurd h.2.1 k.2.1
    | exact ⟨h.2.1.trans k.2.1.symm, h.2.2.trans k.2.2.symm⟩
    | exact ⟨h.2.2.1.trans k.2.2.1.symm, h.2.2.2.trans k.2.2.2.symm⟩
    | (obtain ⟨_, _, i, h1, h2, h3⟩ := h; obtain ⟨_, _, j, k1, k2, k3⟩ := k; have := h1.uniq k1; subst this; exact ⟨h2.trans k2.symm, h3.trans k3.symm⟩)
    | (obtain ⟨_, _, i, h1, h2, h3⟩ := h; exact absurd k.2.2.1 (fun x => h1.not_all x))
    | (obtain ⟨_, _, i, h1, h2, h3⟩ := k; exact absurd h.2.2.1 (fun x => h1.not_all x))
    | exact absurd k.2.2.2.1 h.2.2.2.1
    | exact absurd h.2.2.2.1 k.2.2.2.1
    | exact ⟨h.2.2.2.2.1.trans k.2.2.2.2.1.symm, h.2.2.2.2.2.trans k.2.2.2.2.2.symm⟩
    | (obtain ⟨_, _, _, _, i, h1, h2, h3⟩ := h; obtain ⟨_, _, _, _, j, k1, k2, k3⟩ := k; have := h1.uniq k1; subst this; exact ⟨h2.trans k2.symm, h3.trans k3.symm⟩)
    | (obtain ⟨_, _, _, _, i, h1, h2, h3⟩ := h; exact absurd k.2.2.2.2.1 (fun x => h1.not_all x))
    | (obtain ⟨_, _, _, _, i, h1, h2, h3⟩ := k; exact absurd h.2.2.2.2.1 (fun x => h1.not_all x))
    | exact absurd k.2.2.2.2.2.1 h.2.2.2.2.2.1
    | exact absurd h.2.2.2.2.2.1 k.2.2.2.2.2.1
    | exact ⟨h.2.2.2.2.2.2.1.trans k.2.2.2.2.2.2.1.symm, h.2.2.2.2.2.2.2.trans k.2.2.2.2.2.2.2.symm⟩
    | (obtain ⟨_, _, _, _, _, _, i, h1, h2, h3⟩ := h; obtain ⟨_, _, _, _, _, _, j, k1, k2, k3⟩ := k; have := h1.uniq k1; subst this; exact ⟨h2.trans k2.symm, h3.trans k3.symm⟩)
    | (obtain ⟨_, _, _, _, _, _, i, h1, h2, h3⟩ := h; exact absurd k.2.2.2.2.2.2.1 (fun x => h1.not_all x))
    | (obtain ⟨_, _, _, _, _, _, i, h1, h2, h3⟩ := k; exact absurd h.2.2.2.2.2.2.1 (fun x => h1.not_all x))
    | (obtain ⟨_, _, _, _, _, _, _, i, h1, h2, h3⟩ := h; obtain ⟨_, _, _, _, _, _, _, j, k1, k2, k3⟩ := k; have := h1.uniq k1; subst this; exact ⟨h2.trans k2.symm, h3.trans k3.symm⟩)
    | (obtain ⟨_, _, _, _, _, _, _, i, h1, h2, h3⟩ := h; exact absurd k.2.2.2.2.2.2.2.1 (fun x => h1.not_all x))
    | (obtain ⟨_, _, _, _, _, _, _, i, h1, h2, h3⟩ := k; exact absurd h.2.2.2.2.2.2.2.1 (fun x => h1.not_all x))
    | exact ⟨h.2.2.2.2.2.2.2.2.1.trans k.2.2.2.2.2.2.2.2.1.symm, h.2.2.2.2.2.2.2.2.2.trans k.2.2.2.2.2.2.2.2.2.symm⟩

section
variable {c : Cfg} {i : Nat}
theorem CheckIs.c1 (h : ¬ NCok c) : CheckIs c 1 0 := .inl ⟨h, rfl, rfl⟩
theorem CheckIs.c2 (a1 : NCok c) (h : ¬ NTok c) : CheckIs c 2 0 := .inr (.inl ⟨a1, h, rfl, rfl⟩)
theorem CheckIs.c3 (a1 : NCok c) (a2 : NTok c) (h : Bad1 (RowAt c) c.nT i) : CheckIs c 2 i := .inr (.inr (.inl ⟨a1, a2, i, h, rfl, rfl⟩))
theorem CheckIs.c4 (a1 : NCok c) (a2 : NTok c) (a3 : AllOk (RowAt c) c.nT) (h : ¬ c.nCh ≤ 8) : CheckIs c 3 0 := .inr (.inr (.inr (.inl ⟨a1, a2, a3, h, rfl, rfl⟩)))
theorem CheckIs.c5 (a1 : NCok c) (a2 : NTok c) (a3 : AllOk (RowAt c) c.nT) (a4 : c.nCh ≤ 8) (h : Bad1 (ChOk c) c.nCh i) : CheckIs c 3 i := .inr (.inr (.inr (.inr (.inl ⟨a1, a2, a3, a4, i, h, rfl, rfl⟩))))
theorem CheckIs.c6 (a1 : NCok c) (a2 : NTok c) (a3 : AllOk (RowAt c) c.nT) (a4 : c.nCh ≤ 8) (a5 : AllOk (ChOk c) c.nCh) (h : ¬ c.nD ≤ 4) : CheckIs c 4 0 := .inr (.inr (.inr (.inr (.inr (.inl ⟨a1, a2, a3, a4, a5, h, rfl, rfl⟩)))))
theorem CheckIs.c7 (a1 : NCok c) (a2 : NTok c) (a3 : AllOk (RowAt c) c.nT) (a4 : c.nCh ≤ 8) (a5 : AllOk (ChOk c) c.nCh) (a6 : c.nD ≤ 4) (h : Bad1 (DvOk c) c.nD i) : CheckIs c 4 i := .inr (.inr (.inr (.inr (.inr (.inr (.inl ⟨a1, a2, a3, a4, a5, a6, i, h, rfl, rfl⟩))))))
theorem CheckIs.c8 (a1 : NCok c) (a2 : NTok c) (a3 : AllOk (RowAt c) c.nT) (a4 : c.nCh ≤ 8) (a5 : AllOk (ChOk c) c.nCh) (a6 : c.nD ≤ 4) (a7 : AllOk (DvOk c) c.nD) (h : Bad1 (CellOk c) c.nC i) : CheckIs c 5 i := .inr (.inr (.inr (.inr (.inr (.inr (.inr (.inl ⟨a1, a2, a3, a4, a5, a6, a7, i, h, rfl, rfl⟩)))))))
theorem CheckIs.c9 (a1 : NCok c) (a2 : NTok c) (a3 : AllOk (RowAt c) c.nT) (a4 : c.nCh ≤ 8) (a5 : AllOk (ChOk c) c.nCh) (a6 : c.nD ≤ 4) (a7 : AllOk (DvOk c) c.nD) (h : AllOk (CellOk c) c.nC) : CheckIs c 0 0 := .inr (.inr (.inr (.inr (.inr (.inr (.inr (.inr ⟨a1, a2, a3, a4, a5, a6, a7, h, rfl, rfl⟩)))))))
end

theorem AllOk.step {P : Nat → Prop} {k : Nat} (h : AllOk P k) (hk : P k) : AllOk P (k + 1) := by
  intro j hj
  rcases Nat.lt_or_ge j k with hl | hl
  · exact h j hl
  · obtain rfl : j = k := by omega
    exact hk

theorem AllOk.zero (P : Nat → Prop) : AllOk P 0 := fun _ h => absurd h (by omega)

/-! ### How a config lies in memory -/

/-- A slice of n elements of k cells, all numbers, of bn bytes each; nl: it is nil. -/
def SlZ (w : World) (v : Value) (nl : Bool) (n k : Nat) (z : Nat → Int) (bn : Nat) : Prop :=
  ∃ p cap, v = .slice p n cap ∧ n ≤ cap ∧ (p = none ↔ nl = true) ∧ (p = none → n = 0 ∧ cap = 0) ∧ bn * n ≤ 140737488355328 ∧ Sl w p (n * k) (fun j => .int .i64 (z j))

def CellsR (w : World) (v : Value) (c : Cfg) : Prop :=
  ∃ p cap, ∃ F : Nat → Value, v = .slice p c.nC cap ∧ c.nC ≤ cap ∧ (p = none ↔ c.cellsN = true) ∧ (p = none → c.nC = 0 ∧ cap = 0) ∧ 56 * c.nC ≤ 140737488355328 ∧ Sl w p (c.nC * 3) F ∧
    ∀ i, i < c.nC → SlZ w (F (i * 3)) (c.codeN i) (c.nCode i) 4 (c.code i) 32 ∧ SlZ w (F (i * 3 + 1)) (c.imgN i) (c.nImg i) 1 (c.img i) 8 ∧ F (i * 3 + 2) = .int .i64 (c.lim i)

def TableR (w : World) (v : Value) (c : Cfg) : Prop :=
  ∃ p cap, ∃ F : Nat → Value, v = .slice p c.nT cap ∧ c.nT ≤ cap ∧ (p = none ↔ c.tableN = true) ∧ (p = none → c.nT = 0 ∧ cap = 0) ∧ 24 * c.nT ≤ 140737488355328 ∧ Sl w p c.nT F ∧
    ∀ i, i < c.nT → SlZ w (F i) (c.rowN i) (c.nRow i) 2 (c.row i) 16

structure CfgR (w : World) (v0 v1 v2 v3 : Value) (c : Cfg) : Prop where
  cells : CellsR w v0 c
  table : TableR w v1 c
  chans : SlZ w v2 c.chN c.nCh 3 c.ch 24
  devs : SlZ w v3 c.dvN c.nD 1 c.dv 8

section
variable {w w' : World}
theorem SlZ.keep {v : Value} {nl : Bool} {n k : Nat} {z : Nat → Int} {bn : Nat} (h : SlZ w v nl n k z bn) (hk : ∀ a v, w.cell? a = some v → w'.cell? a = some v) : SlZ w' v nl n k z bn := by
  obtain ⟨p, cap, h1, h2, h3, h4, h5, h6⟩ := h
  exact ⟨p, cap, h1, h2, h3, h4, h5, h6.keep hk⟩
theorem CellsR.keep {v : Value} {c : Cfg} (h : CellsR w v c) (hk : ∀ a v, w.cell? a = some v → w'.cell? a = some v) : CellsR w' v c := by
  obtain ⟨p, cap, F, h1, h2, h3, h4, h5, h6, h7⟩ := h
  exact ⟨p, cap, F, h1, h2, h3, h4, h5, h6.keep hk, fun i hi => ⟨(h7 i hi).1.keep hk, (h7 i hi).2.1.keep hk, (h7 i hi).2.2⟩⟩
theorem TableR.keep {v : Value} {c : Cfg} (h : TableR w v c) (hk : ∀ a v, w.cell? a = some v → w'.cell? a = some v) : TableR w' v c := by
  obtain ⟨p, cap, F, h1, h2, h3, h4, h5, h6, h7⟩ := h
  exact ⟨p, cap, F, h1, h2, h3, h4, h5, h6.keep hk, fun i hi => (h7 i hi).keep hk⟩
theorem CfgR.keep {v0 v1 v2 v3 : Value} {c : Cfg} (h : CfgR w v0 v1 v2 v3 c) (hk : ∀ a v, w.cell? a = some v → w'.cell? a = some v) : CfgR w' v0 v1 v2 v3 c :=
  ⟨h.cells.keep hk, h.table.keep hk, h.chans.keep hk, h.devs.keep hk⟩
end
theorem CfgR.below {w w' : World} {v0 v1 v2 v3 : Value} {c : Cfg} (h : CfgR w v0 v1 v2 v3 c) (hb : Below w.heap.size w w') : CfgR w' v0 v1 v2 v3 c := h.keep (below_keep hb)

/-- A cell of a slice that has one. -/
theorem Sl.at {w : World} {p : Option Addr} {m : Nat} {f : Nat → Value} (h : Sl w p m f) (hm : 0 < m) : ∃ b off, p = some ⟨b, off, none⟩ ∧ ∀ j, j < m → w.cell? ⟨b, off + j, none⟩ = some (f j) := by
  rcases h with h0 | h
  · omega
  · exact h

theorem sumTo_bound (z : Nat → Int) (m : Nat) (h : ∀ i, i < m → 1 ≤ z (i * 2 + 1) ∧ z (i * 2 + 1) ≤ 200) : 0 ≤ sumTo z m ∧ sumTo z m ≤ 200 * m := by
  induction m with
  | zero => simp [sumTo]
  | succ m ih =>
    have h1 := ih (fun i hi => h i (by omega))
    have h2 := h m (by omega)
    simp only [sumTo]
    omega

theorem sumTo_ge (z : Nat → Int) (m : Nat) (h : ∀ i, i < m → 1 ≤ z (i * 2 + 1)) : (m : Int) ≤ sumTo z m ∧ ∀ i, i < m → z (i * 2 + 1) ≤ sumTo z m := by
  induction m with
  | zero => simp [sumTo]
  | succ m ih =>
    have h1 := ih (fun i hi => h i (by omega))
    have h2 := h m (by omega)
    simp only [sumTo]
    refine ⟨by omega, fun i hi => ?_⟩
    rcases Nat.lt_or_ge i m with hl | hl
    · have := h1.2 i hl
      omega
    · have : i = m := by omega
      subst this
      omega

/-- A call answers a bool that tells P; W is said of the world behind it. -/
def Ans (P : Prop) (W : World → Prop) (e : Ending) (w' : World) : Prop := ∃ b, e = .returned (.bool b) ∧ (b = true ↔ P) ∧ W w'
theorem Ans.no {P : Prop} {W : World → Prop} {w' : World} (h : ¬ P) (hw : W w') : Ans P W (.returned (.bool false)) w' := ⟨false, rfl, by simp [h], hw⟩
theorem Ans.yes {P : Prop} {W : World → Prop} {w' : World} (h : P) (hw : W w') : Ans P W (.returned (.bool true)) w' := ⟨true, rfl, by simp [h], hw⟩
theorem Ans.of {P : Prop} {W : World → Prop} {w' : World} {b : Bool} (h : b = true ↔ P) (hw : W w') : Ans P W (.returned (.bool b)) w' := ⟨b, rfl, h, hw⟩

def Chk (c : Cfg) (w : World) (e : Ending) (w' : World) : Prop := ∃ x y : Int, e = .returned (.tuple #[.int .i64 x, .int .i64 y]) ∧ CheckIs c x y ∧ Below w.heap.size w w'
theorem Chk.mk {c : Cfg} {w w' : World} {x y : Int} (h : CheckIs c x y) (hb : Below w.heap.size w w') : Chk c w (.returned (.tuple #[.int .i64 x, .int .i64 y])) w' := ⟨x, y, rfl, h, hb⟩

/-- A struct of four cells that was boxed. -/
theorem box4 {w w' : World} {v0 v1 v2 v3 : Value} {t : Nat} (h : Below (w.heap.size + 1) (w.alloc (.cells #[v0, v1, v2, v3] t)) w') :
    w'.cell? ⟨w.heap.size, 0, none⟩ = some v0 ∧ w'.cell? ⟨w.heap.size, 1, none⟩ = some v1 ∧ w'.cell? ⟨w.heap.size, 2, none⟩ = some v2 ∧ w'.cell? ⟨w.heap.size, 3, none⟩ = some v3 := by
  have hc : ∀ j, w'.cell? ⟨w.heap.size, j, none⟩ = (#[v0, v1, v2, v3] : Array Value)[j]? := fun j => by
    rw [h.cell (p := ⟨w.heap.size, j, none⟩) (by simp)]
    exact cell_of_row _ _ _ _ _ _ (heap_alloc_new w _)
  exact ⟨hc 0, hc 1, hc 2, hc 3⟩

theorem box_below {w w' : World} {o : Obj} (h : Below (w.heap.size + 1) (w.alloc o) w') : Below w.heap.size w w' :=
  ((Below.refl w.heap.size w).alloc (Nat.le_refl _) o).trans (h.mono (by omega))

theorem box_step {w wr w' : World} {o : Obj} (h : Below (w.heap.size + 1) (w.alloc o) wr) (k : Below wr.heap.size wr w') : Below (w.heap.size + 1) (w.alloc o) w' :=
  h.trans (k.mono (by have := h.size; simpa using this))

theorem Ans.says {P : Program} {f : FuncId} {args : Array Value} {w : World} {Pr : Prop} {W : World → Prop} (h : Calls P f args w (Ans Pr W)) (hp : Pr) : Calls P f args w (fun e w' => e = .returned (.bool true) ∧ W w') :=
  h.mono fun e w' ⟨b, h1, h2, h3⟩ => by
    obtain rfl : b = true := h2.2 hp
    exact ⟨h1, h3⟩
theorem Ans.denies {P : Program} {f : FuncId} {args : Array Value} {w : World} {Pr : Prop} {W : World → Prop} (h : Calls P f args w (Ans Pr W)) (hp : ¬ Pr) : Calls P f args w (fun e w' => e = .returned (.bool false) ∧ W w') :=
  h.mono fun e w' ⟨b, h1, h2, h3⟩ => by
    obtain rfl : b = false := by
      cases b
      · rfl
      · exact absurd (h2.1 rfl) hp
    exact ⟨h1, h3⟩

theorem below1 {w w' : World} {o : Obj} (h : Below (w.alloc o).heap.size (w.alloc o) w') : Below w.heap.size w w' :=
  ((Below.refl w.heap.size w).alloc (Nat.le_refl _) o).trans (h.mono (by simp))
theorem below2 {w w' : World} {o o' : Obj} (h : Below ((w.alloc o).alloc o').heap.size ((w.alloc o).alloc o') w') : Below w.heap.size w w' := below1 (below1 h)
theorem below3 {w w' : World} {o o' o'' : Obj} (h : Below (((w.alloc o).alloc o').alloc o'').heap.size (((w.alloc o).alloc o').alloc o'') w') : Below w.heap.size w w' := below1 (below2 h)

theorem box3 {w w' : World} {v0 v1 v2 : Value} {t : Nat} (h : Below (w.heap.size + 1) (w.alloc (.cells #[v0, v1, v2] t)) w') :
    w'.cell? ⟨w.heap.size, 0, none⟩ = some v0 ∧ w'.cell? ⟨w.heap.size, 1, none⟩ = some v1 ∧ w'.cell? ⟨w.heap.size, 2, none⟩ = some v2 := by
  have hc : ∀ j, w'.cell? ⟨w.heap.size, j, none⟩ = (#[v0, v1, v2] : Array Value)[j]? := fun j => by
    rw [h.cell (p := ⟨w.heap.size, j, none⟩) (by simp)]
    exact cell_of_row _ _ _ _ _ _ (heap_alloc_new w _)
  exact ⟨hc 0, hc 1, hc 2⟩

end Go.Proofs.Ytdoghgnifkgfdaa
