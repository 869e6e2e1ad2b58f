/-
  How a config that was lent lies in memory: each inner list in a block of its own, in the order in which they were made.
-/
import Derived.Test.YtdoghgnifkgfdaaCopies
import Derived.Test.YtdoghgnifkgfdaaParts
import Derived.Test.YtdoghgnifkgfdaaWholes
namespace Go.Proofs.Ytdoghgnifkgfdaa
open Go.RowKit

def lentV (nl : Bool) (b n : Nat) : Value := if nl then .slice none 0 0 else .slice (some ⟨b, 0, none⟩) n (n + 2)

/-- An inner list that was lent: nil, or a block of its own. -/
def Inn (w : World) (nl : Bool) (b n k : Nat) (z : Nat → Int) : Prop := nl = false → ∃ ty, RowF w b ((n + 2) * k) ty (fun j => .int .i64 (padZ k n z j))

theorem Inn.keep {w w' : World} {nl : Bool} {b n k : Nat} {z : Nat → Int} (h : Inn w nl b n k z) (he : nl = false → w'.heap[b]? = w.heap[b]?) : Inn w' nl b n k z := fun hn => by
  obtain ⟨ty, hr⟩ := h hn
  exact ⟨ty, hr.of_heap (he hn)⟩

/-- The first k cells' inner lists: the code in block (cb i), the image in the next one. -/
structure InnCells (w : World) (c : Cfg) (k lo hi : Nat) (cb : Nat → Nat) : Prop where
  code : ∀ i, i < k → Inn w (c.codeN i) (cb i) (c.nCode i) 4 (c.code i)
  img : ∀ i, i < k → Inn w (c.imgN i) (cb i + 1) (c.nImg i) 1 (c.img i)
  lo : ∀ i, i < k → lo ≤ cb i ∧ cb i + 2 ≤ hi
  ord : ∀ i j, i < j → j < k → cb i + 2 ≤ cb j

theorem InnCells.zero (w : World) (c : Cfg) (lo hi : Nat) (cb : Nat → Nat) : InnCells w c 0 lo hi cb :=
  ⟨fun i h => absurd h (by omega), fun i h => absurd h (by omega), fun i h => absurd h (by omega), fun i j _ h => absurd h (by omega)⟩

theorem InnCells.keep {w w' : World} {c : Cfg} {k lo hi hi' : Nat} {cb : Nat → Nat} (h : InnCells w c k lo hi cb) (hh : hi ≤ hi') (he : ∀ i, i < k → w'.heap[cb i]? = w.heap[cb i]? ∧ w'.heap[cb i + 1]? = w.heap[cb i + 1]?) : InnCells w' c k lo hi' cb :=
  ⟨fun i hi => (h.code i hi).keep (fun _ => (he i hi).1), fun i hi => (h.img i hi).keep (fun _ => (he i hi).2), fun i hi => ⟨(h.lo i hi).1, Nat.le_trans (h.lo i hi).2 hh⟩, h.ord⟩

def setAt (cb : Nat → Nat) (k b : Nat) (i : Nat) : Nat := if i < k then cb i else b

theorem InnCells.step {w : World} {c : Cfg} {k lo hi hi' b : Nat} {cb : Nat → Nat} (h : InnCells w c k lo hi cb) (h1 : Inn w (c.codeN k) b (c.nCode k) 4 (c.code k)) (h2 : Inn w (c.imgN k) (b + 1) (c.nImg k) 1 (c.img k)) (hb : hi ≤ b) (hlo : lo ≤ b) (hh : b + 2 ≤ hi') : InnCells w c (k + 1) lo hi' (setAt cb k b) := by
  have e : ∀ i, i < k → setAt cb k b i = cb i := fun i hi => by simp [setAt, hi]
  have e' : setAt cb k b k = b := by simp [setAt]
  refine ⟨fun i hi => ?_, fun i hi => ?_, fun i hi => ?_, fun i j hij hj => ?_⟩
  · rcases Nat.lt_or_ge i k with hl | hl
    · rw [e i hl]; exact h.code i hl
    · obtain rfl : i = k := by omega
      rw [e']; exact h1
  · rcases Nat.lt_or_ge i k with hl | hl
    · rw [e i hl]; exact h.img i hl
    · obtain rfl : i = k := by omega
      rw [e']; exact h2
  · rcases Nat.lt_or_ge i k with hl | hl
    · rw [e i hl]; have := h.lo i hl; omega
    · obtain rfl : i = k := by omega
      rw [e']; omega
  · rcases Nat.lt_or_ge j k with hl | hl
    · rw [e i (by omega), e j hl]; exact h.ord i j hij hl
    · obtain rfl : j = k := by omega
      rw [e i hij, e']
      have := h.lo i hij
      omega

/-- The cells of the list of cells that was lent. -/
def cellF (c : Cfg) (cb : Nat → Nat) (j : Nat) : Value :=
  if j % 3 = 0 then lentV (c.codeN (j / 3)) (cb (j / 3)) (c.nCode (j / 3)) else if j % 3 = 1 then lentV (c.imgN (j / 3)) (cb (j / 3) + 1) (c.nImg (j / 3)) else .int .i64 (c.lim (j / 3))

theorem cellF_at (c : Cfg) (cb : Nat → Nat) (i : Nat) : cellF c cb (i * 3) = lentV (c.codeN i) (cb i) (c.nCode i) ∧ cellF c cb (i * 3 + 1) = lentV (c.imgN i) (cb i + 1) (c.nImg i) ∧ cellF c cb (i * 3 + 2) = .int .i64 (c.lim i) := by
  have a1 : i * 3 % 3 = 0 := by omega
  have a2 : i * 3 / 3 = i := by omega
  have b1 : (i * 3 + 1) % 3 = 1 := by omega
  have b2 : (i * 3 + 1) / 3 = i := by omega
  have c1 : (i * 3 + 2) % 3 = 2 := by omega
  have c2 : (i * 3 + 2) / 3 = i := by omega
  exact ⟨by simp [cellF, a1, a2], by simp [cellF, b1, b2], by simp [cellF, c1, c2]⟩

def cellsL (c : Cfg) (cb : Nat → Nat) (k : Nat) : List Value := (List.range (k * 3)).map (cellF c cb)

theorem cellsL_step (c : Cfg) (cb : Nat → Nat) (k b : Nat) : cellsL c cb k ++ [lentV (c.codeN k) b (c.nCode k), lentV (c.imgN k) (b + 1) (c.nImg k), .int .i64 (c.lim k)] = cellsL c (setAt cb k b) (k + 1) := by
  unfold cellsL
  have e : (k + 1) * 3 = k * 3 + 1 + 1 + 1 := by omega
  rw [e, List.range_succ, List.range_succ, List.range_succ]
  simp only [List.map_append, List.map_cons, List.map_nil, List.append_assoc]
  obtain ⟨g1, g2, g3⟩ := cellF_at c (setAt cb k b) k
  have s : setAt cb k b k = b := by simp [setAt]
  rw [s] at g1 g2
  rw [g1, g2, g3]
  congr 1
  apply List.map_congr_left
  intro j hj
  have hj' : j < k * 3 := by simpa using hj
  have : j / 3 < k := by omega
  simp [cellF, setAt, this]

theorem cellsL_len (c : Cfg) (cb : Nat → Nat) (k : Nat) : (cellsL c cb k).length = k * 3 := by simp [cellsL]

theorem bcell {W w1 : World} (hb : Below W.heap.size W w1) : (∀ b o, b < W.heap.size → w1.cell? ⟨b, o, none⟩ = W.cell? ⟨b, o, none⟩) ∧ (∀ b o, b < W.heap.size → w1.frozen? ⟨b, o, none⟩ = W.frozen? ⟨b, o, none⟩) :=
  ⟨fun b o h => hb.cell (p := ⟨b, o, none⟩) h, fun b o h => hb.frozen (p := ⟨b, o, none⟩) h⟩

def cells4 (a b c d : Value) (j : Nat) : Value := if j = 0 then a else if j = 1 then b else if j = 2 then c else d
theorem row4 (w : World) (a b c d : Value) (t : Nat) : RowF (w.alloc (.cells #[a, b, c, d] t)) w.heap.size 4 t (cells4 a b c d) :=
  RowF.new w #[a, b, c, d] t _ (fun j hj => by
    have : j = 0 ∨ j = 1 ∨ j = 2 ∨ j = 3 := by simp at hj; omega
    rcases this with rfl | rfl | rfl | rfl <;> rfl)
theorem RowF.at4 {w : World} {g t : Nat} {a b c d : Value} (h : RowF w g 4 t (cells4 a b c d)) : w.cell? ⟨g, 0, none⟩ = some a ∧ w.cell? ⟨g, 1, none⟩ = some b ∧ w.cell? ⟨g, 2, none⟩ = some c ∧ w.cell? ⟨g, 3, none⟩ = some d :=
  ⟨h.cell (by omega), h.cell (by omega), h.cell (by omega), h.cell (by omega)⟩
theorem RowF.set4 {w : World} {g t : Nat} {a b c d : Value} (h : RowF w g 4 t (cells4 a b c d)) (v : Value) :
    RowF (w.setCell ⟨g, 0, none⟩ v) g 4 t (cells4 v b c d) ∧ RowF (w.setCell ⟨g, 1, none⟩ v) g 4 t (cells4 a v c d) ∧ RowF (w.setCell ⟨g, 2, none⟩ v) g 4 t (cells4 a b v d) ∧ RowF (w.setCell ⟨g, 3, none⟩ v) g 4 t (cells4 a b c v) := by
  refine ⟨(h.set 0 v).congr ?_, (h.set 1 v).congr ?_, (h.set 2 v).congr ?_, (h.set 3 v).congr ?_⟩
  all_goals
    intro j hj
    have : j = 0 ∨ j = 1 ∨ j = 2 ∨ j = 3 := by omega
    rcases this with rfl | rfl | rfl | rfl <;> rfl

/-- append of one element that was laid into a block of its own. -/
theorem wpList_append_info {P : Program} (w : World) {ops : Array Oper} {rest : List Oper} {o : Oper} {a : Act} {Q : Exit → Act → World → Prop} (hgd : o.guard = none) (s x : Operand) (t : TypeId)
    (ho : o.op = .call { callee := .builtin .append, args := #[s, x], argTypes := #[t, t] })
    (base : Nat) (e : TypeId) (z : Value) (size bytes : Nat) (ht : P.underlying t = some (.slice e)) (hinfo : (P.info? e).map (fun i => (i.zero, i.size, i.bytes)) = some (some z, size, bytes))
    (hzs : z.cells.size = size) (hsz : 0 < size) (v : Value) (n : Nat) (xs : List Value) (hs : a.eval s = v) (hown : w.ownsRow base e size v n xs)
    (B : Nat) (news : List Value) (ty : TypeId) (hx : a.eval x = .slice (some ⟨B, 0, none⟩) 1 1) (hl : news.length = size) (hrow : w.heap[B]? = some (.cells news.toArray ty (0, 0))) (h1 : ∀ u ∈ news, u.oneCell' = true)
    (h63 : n + 1 ≤ maxLen) (hbytes : (n + 1) * bytes ≤ 140737488355328) (hbase : base ≤ w.heap.size)
    (h : ∀ g cap w', w'.ownsRow base e size (.slice (some ⟨g, 0, none⟩) (n + 1) cap) (n + 1) (xs ++ news) → w.grownBy w' v.ownBlock → (v.ownBlock = some g ∨ g = w.heap.size) → g < w'.heap.size → wpList P ops Q rest (a.put o.dst (.slice (some ⟨g, 0, none⟩) (n + 1) cap)) w') : wpList P ops Q (o :: rest) a w := by
  obtain ⟨i, h2, h3, h4, h5⟩ := info_parts hinfo
  exact wpList_append_lies w hgd s x t ho base e i z size bytes ht h2 h3 h4 h5 hzs hsz v n xs hs hown ⟨B, 0, none⟩ 1 1 news hx (by rw [hl, Nat.one_mul]) (by
    have := World.news_of_block hrow
    simpa using this) h1 (by omega) h63 hbytes hbase _ rfl h

def cells3 (a b c : Value) (j : Nat) : Value := if j = 0 then a else if j = 1 then b else c
theorem row3 (w : World) (a b c : Value) (t : Nat) : RowF (w.alloc (.cells #[a, b, c] t)) w.heap.size 3 t (cells3 a b c) :=
  RowF.new w #[a, b, c] t _ (fun j hj => by
    have : j = 0 ∨ j = 1 ∨ j = 2 := by simp at hj; omega
    rcases this with rfl | rfl | rfl <;> rfl)
theorem RowF.at3 {w : World} {g t : Nat} {a b c : Value} (h : RowF w g 3 t (cells3 a b c)) : w.cell? ⟨g, 0, none⟩ = some a ∧ w.cell? ⟨g, 1, none⟩ = some b ∧ w.cell? ⟨g, 2, none⟩ = some c :=
  ⟨h.cell (by omega), h.cell (by omega), h.cell (by omega)⟩
theorem RowF.set3 {w : World} {g t : Nat} {a b c : Value} (h : RowF w g 3 t (cells3 a b c)) (v : Value) :
    RowF (w.setCell ⟨g, 0, none⟩ v) g 3 t (cells3 v b c) ∧ RowF (w.setCell ⟨g, 1, none⟩ v) g 3 t (cells3 a v c) ∧ RowF (w.setCell ⟨g, 2, none⟩ v) g 3 t (cells3 a b v) := by
  refine ⟨(h.set 0 v).congr ?_, (h.set 1 v).congr ?_, (h.set 2 v).congr ?_⟩
  all_goals
    intro j hj
    have : j = 0 ∨ j = 1 ∨ j = 2 := by omega
    rcases this with rfl | rfl | rfl <;> rfl

theorem row4_heap {w : World} {g t : Nat} {a b c d : Value} (h : RowF w g 4 t (cells4 a b c d)) : w.heap[g]? = some (.cells #[a, b, c, d] t (0, 0)) := by
  obtain ⟨cs, h1, h2, h3⟩ := h
  rw [h1]
  congr 2
  apply Array.ext
  · simp [h2]
  · intro i hi hi'
    have h3' := h3 i (by omega)
    have : i = 0 ∨ i = 1 ∨ i = 2 ∨ i = 3 := by omega
    rw [Array.getElem?_eq_getElem hi] at h3'
    rcases this with rfl | rfl | rfl | rfl <;> simpa [cells4] using h3'

end Go.Proofs.Ytdoghgnifkgfdaa
