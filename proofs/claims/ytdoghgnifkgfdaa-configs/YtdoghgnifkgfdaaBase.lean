/-
  What a block of cells holds, cell by cell (RowF); a slice's cells (Sl); copy and make in that form. No program is named here.
-/
import Derived.WalkKit
import Derived.WalkSpells
import Derived.WalkLawsBesides
import Derived.Deep.AppendLies
import Derived.Laws.CopyOwn
namespace Go.Proofs.Ytdoghgnifkgfdaa
open Go.RowKit

def padZ (k n : Nat) (z : Nat → Int) (j : Nat) : Int := if j < n * k then z j else if j % k = 0 then -77 else 0

/-- Block g of world w is known whole: m cells, f tells each. -/
def RowF (w : World) (g m t : Nat) (f : Nat → Value) : Prop :=
  ∃ cs : Array Value, w.heap[g]? = some (.cells cs t (0, 0)) ∧ cs.size = m ∧ ∀ j, j < m → cs[j]? = some (f j)

/-- The cells that a slice's address leads to. -/
def Sl (w : World) (p : Option Addr) (m : Nat) (f : Nat → Value) : Prop :=
  m = 0 ∨ ∃ b off, p = some ⟨b, off, none⟩ ∧ ∀ j, j < m → w.cell? ⟨b, off + j, none⟩ = some (f j)

section
variable {w w' : World} {g m t : Nat} {f f' : Nat → Value}

theorem RowF.cell (h : RowF w g m t f) {j : Nat} (hj : j < m) : w.cell? ⟨g, j, none⟩ = some (f j) := by
  obtain ⟨cs, h1, _, h3⟩ := h
  rw [cell_of_row w g j cs t (0, 0) h1]
  exact h3 j hj

theorem RowF.frozen (h : RowF w g m t f) (j : Nat) : w.frozen? ⟨g, j, none⟩ = false := by
  obtain ⟨cs, h1, _⟩ := h
  exact frozen_of_row w g j cs t h1

theorem RowF.lt (h : RowF w g m t f) : g < w.heap.size := by
  obtain ⟨cs, h1, _⟩ := h
  exact (Array.getElem?_eq_some_iff.1 h1).1

theorem RowF.congr (h : RowF w g m t f) (hf : ∀ j, j < m → f j = f' j) : RowF w g m t f' := by
  obtain ⟨cs, h1, h2, h3⟩ := h
  exact ⟨cs, h1, h2, fun j hj => by rw [h3 j hj, hf j hj]⟩

theorem RowF.of_heap (h : RowF w g m t f) (e : w'.heap[g]? = w.heap[g]?) : RowF w' g m t f := by
  obtain ⟨cs, h1, h2, h3⟩ := h
  exact ⟨cs, by rw [e]; exact h1, h2, h3⟩

theorem RowF.set (h : RowF w g m t f) (j : Nat) (v : Value) : RowF (w.setCell ⟨g, j, none⟩ v) g m t (fun i => if i = j then v else f i) := by
  obtain ⟨cs, h1, h2, h3⟩ := h
  refine ⟨cs.setIfInBounds j v, heap_setCell_same w g j cs t v h1, by simp [h2], fun i hi => ?_⟩
  rw [Array.getElem?_setIfInBounds]
  by_cases e : j = i
  · subst e
    simp [h2, hi]
  · have e' : ¬ i = j := fun x => e x.symm
    simp [e, e', h3 i hi]

theorem RowF.other (h : RowF w g m t f) (a : Addr) (v : Value) (ha : a.block ≠ g) : RowF (w.setCell a v) g m t f :=
  h.of_heap (heap_setCell_other w a g v (fun e => ha e.symm))

theorem RowF.alloc (h : RowF w g m t f) (o : Obj) : RowF (w.alloc o) g m t f := h.of_heap (heap_alloc_old w o h.lt)

theorem RowF.new (w : World) (cs : Array Value) (t : Nat) (f : Nat → Value) (hf : ∀ j, j < cs.size → cs[j]? = some (f j)) : RowF (w.alloc (.cells cs t)) w.heap.size cs.size t f :=
  ⟨cs, heap_alloc_new w _, rfl, hf⟩

theorem RowF.below {B : Nat} (h : RowF w g m t f) (hb : Below B w w') (hg : g < B) : RowF w' g m t f := h.of_heap (hb.block g hg)

theorem RowF.sl (h : RowF w g m t f) : Sl w (some ⟨g, 0, none⟩) m f := .inr ⟨g, 0, rfl, fun j hj => by rw [Nat.zero_add]; exact h.cell hj⟩

theorem RowF.sl_le (h : RowF w g m t f) {m' : Nat} (hm : m' ≤ m) : Sl w (some ⟨g, 0, none⟩) m' f := .inr ⟨g, 0, rfl, fun j hj => by rw [Nat.zero_add]; exact h.cell (by omega)⟩
end

theorem Sl.keep {w w' : World} {p : Option Addr} {m : Nat} {f : Nat → Value} (h : Sl w p m f) (hk : ∀ a v, w.cell? a = some v → w'.cell? a = some v) : Sl w' p m f := by
  rcases h with h | ⟨b, off, hp, hc⟩
  · exact .inl h
  · exact .inr ⟨b, off, hp, fun j hj => hk _ _ (hc j hj)⟩

theorem below_keep {w w' : World} (h : Below w.heap.size w w') : ∀ a v, w.cell? a = some v → w'.cell? a = some v := by
  intro a v ha
  rw [h.cell (block_lt_of_cell ha)]
  exact ha

theorem Sl.below {w w' : World} {p : Option Addr} {m : Nat} {f : Nat → Value} (h : Sl w p m f) (hb : Below w.heap.size w w') : Sl w' p m f := h.keep (below_keep hb)

theorem Sl.congr {w : World} {p : Option Addr} {m : Nat} {f f' : Nat → Value} (h : Sl w p m f) (hf : ∀ j, j < m → f j = f' j) : Sl w p m f' := by
  rcases h with h | ⟨b, off, hp, hc⟩
  · exact .inl h
  · exact .inr ⟨b, off, hp, fun j hj => by rw [hc j hj, hf j hj]⟩

/-- The world but for one block and new ones. -/
theorem grownBy_setCell {w0 w : World} {g : Nat} (h : w0.grownBy w (some g)) (j : Nat) (v : Value) : w0.grownBy (w.setCell ⟨g, j, none⟩ v) (some g) :=
  ⟨h.os, h.tape, h.output, by simpa [World.setCell] using h.size, fun k hk hne => by
    rw [heap_setCell_other w _ k v (fun e => hne (by simp [e]))]
    exact h.block k hk hne⟩

theorem run_copy_rowF {P : Program} (w : World) (dT sT ty elem : TypeId) (size g dLen dCap : Nat) (sp : Option Addr) (sLen sCap : Nat) (m t : Nat) (f f' : Nat → Value)
    (hu : P.underlying dT = some (.slice elem)) (hs : (P.info? elem).map (·.size) = some size) (hle : sLen ≤ dLen) (hrow : RowF w g m t f) (hm : dLen * size ≤ m)
    (hsrc : Sl w sp (sLen * size) f') (h1 : ∀ j, j < sLen * size → (f' j).oneCell' = true) (hnil : sp = none → sLen = 0) :
    ∃ w', (Builtin.copy_ #[dT, sT] ty #[.slice (some ⟨g, 0, none⟩) dLen dCap, .slice sp sLen sCap]).run P w = .ok (goInt sLen) w' ∧
      RowF w' g m t (fun j => if j < sLen * size then f' j else f j) ∧ w.grownBy w' (some g) ∧ w'.heap.size = w.heap.size := by
  have hmin : Nat.min sLen dLen = sLen := Nat.min_eq_left hle
  cases hq : P.info? elem with
  | none => simp [hq] at hs
  | some i =>
    have hi : i.size = size := by simpa [hq] using hs
    rcases hsrc with hm0 | ⟨b, off, rfl, hc⟩
    · refine ⟨w, ?_, hrow.congr (fun j _ => by simp [hm0]), World.grownBy.refl _ _, rfl⟩
      cases sp with
      | none =>
        have h0 := hnil rfl
        subst h0
        simp [Builtin.copy_, run_underlying hu, Builtin.lenOf, Builtin.firstCells, sizeOf, typeInfo, hq, storeCells]
      | some q =>
        have hl : (loadCells q 0).run P w = .ok #[] w := by
          have := run_loadCells_list (P := P) w q [] (fun j v hv => by simp at hv)
          simpa using this
        simp [Builtin.copy_, run_underlying hu, Builtin.lenOf, Builtin.firstCells, sizeOf, typeInfo, hq, hi, hmin, hm0, hl, storeCells]
    · obtain ⟨cs, hg, hcs, hf⟩ := hrow
      have hl : (loadCells ⟨b, off, none⟩ (sLen * size)).run P w = .ok ((List.range (sLen * size)).map f').toArray w := by
        have := run_loadCells_list (P := P) w ⟨b, off, none⟩ ((List.range (sLen * size)).map f') (fun j v hv => by
          rw [Addr.add_lit]
          have hj : j < sLen * size := by have := (List.getElem?_eq_some_iff.1 hv).1; simpa using this
          rw [hc j hj]
          rw [← hv]
          simp [hj])
        simpa using this
      have hle2 : sLen * size ≤ m := Nat.le_trans (Nat.mul_le_mul_right _ hle) hm
      have hst := run_storeCells_at P g 0 t ((List.range (sLen * size)).map f') 0 cs w hg (by simp [hcs]; omega) (fun v hv => by
        obtain ⟨j, hj, rfl⟩ := List.mem_map.1 hv
        exact h1 j (by simpa using hj))
      have hst' : (storeCells ⟨g, 0, none⟩ ((List.range (sLen * size)).map f')).run P w = .ok () (w.setRow g ((List.range (sLen * size)).map f' ++ cs.toList.drop (sLen * size)).toArray) := by
        simpa using hst
      refine ⟨w.setRow g ((List.range (sLen * size)).map f' ++ cs.toList.drop (sLen * size)).toArray, ?_, ⟨((List.range (sLen * size)).map f' ++ cs.toList.drop (sLen * size)).toArray, setRow_heap w g cs _ t _ hg, ?_, ?_⟩, ⟨rfl, rfl, rfl, by simp, fun k _ hk => setRow_other w g k _ (fun e => hk (by simp [e]))⟩, by simp⟩
      · simp [Builtin.copy_, run_underlying hu, Builtin.lenOf, Builtin.firstCells, sizeOf, typeInfo, hq, hi, hmin, hl, hst']
      · simp [hcs]; omega
      · intro j hj
        by_cases hlt : j < sLen * size
        · simp [hlt, List.getElem?_append]
        · have := hf j hj
          simp only [hlt, if_false]
          rw [← this]
          simp [List.getElem?_append, hlt]
          congr 1
          omega

theorem wpList_copy_rowF {P : Program} {w : World} {ops : Array Oper} {rest : List Oper} {o : Oper} {a : Act} {Q : Exit → Act → World → Prop} (hgd : o.guard = none) (d s : Operand) (dT sT : TypeId)
    (ho : o.op = .call { callee := .builtin .copy, args := #[d, s], argTypes := #[dT, sT] }) (elem : TypeId) (zv : Value) (size bytes : Nat) (hu : P.underlying dT = some (.slice elem)) (hinfo : (P.info? elem).map (fun i => (i.zero, i.size, i.bytes)) = some (some zv, size, bytes))
    (g dLen dCap : Nat) (sp : Option Addr) (sLen sCap : Nat) (hd : a.eval d = .slice (some ⟨g, 0, none⟩) dLen dCap) (hs : a.eval s = .slice sp sLen sCap)
    (m t : Nat) (f f' : Nat → Value) (hle : sLen ≤ dLen) (hrow : RowF w g m t f) (hm : dLen * size ≤ m)
    (hsrc : Sl w sp (sLen * size) f') (h1 : ∀ j, j < sLen * size → (f' j).oneCell' = true) (hnil : sp = none → sLen = 0)
    (h : ∀ w', RowF w' g m t (fun j => if j < sLen * size then f' j else f j) → w.grownBy w' (some g) → w'.heap.size = w.heap.size → wpList P ops Q rest (a.put o.dst (goInt sLen)) w') :
    wpList P ops Q (o :: rest) a w := by
  refine wpList_plain hgd fun K hK => ?_
  have hsz : (P.info? elem).map (·.size) = some size := by
    obtain ⟨i, h2, _, h4, _⟩ := info_parts hinfo
    simp [h2, h4]
  obtain ⟨w', hrun, r1, r2, r3⟩ := run_copy_rowF (P := P) w dT sT o.type elem size g dLen dCap sp sLen sCap m t f f' hu hsz hle hrow hm hsrc h1 hnil
  unfold Oper.wp
  simp [execOp, ho, resolve, invoke, builtin, hd, hs, hrun, Result.andThen]
  exact hK _ _ (h w' r1 r2 r3)

theorem wpList_make_rowF {P : Program} (w : World) {ops : Array Oper} {rest : List Oper} {o : Oper} {a : Act} {Q : Exit → Act → World → Prop}
    (hg : o.guard = none) (l c : Operand) (t : TypeId) (hop : o.op = Op.makeSlice t l c)
    (e : TypeId) (z : Value) (size bytes : Nat) (ht : P.underlying t = some (.slice e)) (hinfo : (P.info? e).map (fun i => (i.zero, i.size, i.bytes)) = some (some z, size, bytes))
    (kl kc : IntKind) (L C : Int) (n : Nat) (hl : a.eval l = .int kl L) (hc : a.eval c = .int kc C) (hL : L = (n : Int)) (hC : C = (n : Int)) (b2 : bytes * n ≤ 281474976710656) (b3 : n ≤ maxLen)
    (f : Nat → Value) (hf : ∀ j, j < n * size → z.cells[j % z.cells.size]! = f j)
    (hK : ∀ w', RowF w' w.heap.size (n * size) e f → w'.heap.size = w.heap.size + 1 → Below w.heap.size w w' → wpList P ops Q rest (a.put o.dst (.slice (some ⟨w.heap.size, 0, none⟩) n n)) w') :
    wpList P ops Q (o :: rest) a w := by
  refine wpList_plain hg fun K hK' => ?_
  obtain ⟨i, h2, h3, h4, h5⟩ := info_parts hinfo
  subst hL
  subst hC
  subst h4
  subst h5
  have h63' : (n : Int) ≤ 9223372036854775807 := by
    have h := b3
    simp [maxLen] at h
    omega
  have hb' : (i.bytes : Int) * (n : Int) ≤ 281474976710656 := by
    have h : ((i.bytes * n : Nat) : Int) ≤ 281474976710656 := by omega
    rwa [Int.natCast_mul] at h
  have hr := run_make (P := P) w t e i z ht h2 h3 kl kc n n (by omega) (Int.le_refl _) hb' h63'
  simp only [Int.toNat_natCast] at hr
  unfold Oper.wp
  simp [execOp, hop, hl, hc, hr, Result.andThen]
  refine hK' _ _ (hK _ ?_ (by simp) ((Below.refl _ _).alloc (Nat.le_refl _) _))
  have := RowF.new w (madeCells z.cells (n * i.size)) e f (fun j hj => by
    rw [size_madeCells] at hj
    rw [← hf j hj]
    simp [madeCells, hj])
  rwa [size_madeCells] at this

theorem zero_cells1 (j : Nat) : (Value.int .i64 0).cells[j % (Value.int .i64 0).cells.size]! = Value.int .i64 0 := by
  have h : (Value.int .i64 0).cells = #[.int .i64 0] := rfl
  rw [h]
  have : j % 1 = 0 := by omega
  simp [this]

theorem zero_cells2 (j : Nat) : (Value.agg #[.int .i64 0, .int .i64 0]).cells[j % (Value.agg #[.int .i64 0, .int .i64 0]).cells.size]! = Value.int .i64 0 := by
  have h : (Value.agg #[.int .i64 0, .int .i64 0]).cells = #[.int .i64 0, .int .i64 0] := rfl
  rw [h]
  have : j % 2 = 0 ∨ j % 2 = 1 := by omega
  rcases this with e | e <;> simp [e]

theorem zero_cells3 (j : Nat) : (Value.agg #[.int .i64 0, .int .i64 0, .int .i64 0]).cells[j % (Value.agg #[.int .i64 0, .int .i64 0, .int .i64 0]).cells.size]! = Value.int .i64 0 := by
  have h : (Value.agg #[.int .i64 0, .int .i64 0, .int .i64 0]).cells = #[.int .i64 0, .int .i64 0, .int .i64 0] := rfl
  rw [h]
  have : j % 3 = 0 ∨ j % 3 = 1 ∨ j % 3 = 2 := by omega
  rcases this with e | e | e <;> simp [e]

theorem zero_cells4 (j : Nat) : (Value.agg #[.int .i64 0, .int .i64 0, .int .i64 0, .int .i64 0]).cells[j % (Value.agg #[.int .i64 0, .int .i64 0, .int .i64 0, .int .i64 0]).cells.size]! = Value.int .i64 0 := by
  have h : (Value.agg #[.int .i64 0, .int .i64 0, .int .i64 0, .int .i64 0]).cells = #[.int .i64 0, .int .i64 0, .int .i64 0, .int .i64 0] := rfl
  rw [h]
  have : j % 4 = 0 ∨ j % 4 = 1 ∨ j % 4 = 2 ∨ j % 4 = 3 := by omega
  rcases this with e | e | e | e <;> simp [e]

theorem padstep1 (k n j : Nat) (z : Nat → Int) (hk : n ≤ k) : (if j = k then Value.int .i64 (-77) else Value.int .i64 (if j < n then z j else if j < k then (if j % 1 = 0 then -77 else 0) else 0)) =
    Value.int .i64 (if j < n then z j else if j < k + 1 then (if j % 1 = 0 then -77 else 0) else 0) := by
  repeat' split
  all_goals first
    | rfl
    | (exfalso; omega)

theorem padstep2 (k n j : Nat) (z : Nat → Int) (hk : n ≤ k) : (if j = k * 2 + 1 then Value.int .i64 0 else if j = k * 2 then Value.int .i64 (-77) else Value.int .i64 (if j < n * 2 then z j else if j < k * 2 then (if j % 2 = 0 then -77 else 0) else 0)) =
    Value.int .i64 (if j < n * 2 then z j else if j < (k + 1) * 2 then (if j % 2 = 0 then -77 else 0) else 0) := by
  repeat' split
  all_goals first
    | rfl
    | (exfalso; omega)

theorem padstep3 (k n j : Nat) (z : Nat → Int) (hk : n ≤ k) : (if j = k * 3 + 2 then Value.int .i64 0 else if j = k * 3 + 1 then Value.int .i64 0 else if j = k * 3 then Value.int .i64 (-77) else Value.int .i64 (if j < n * 3 then z j else if j < k * 3 then (if j % 3 = 0 then -77 else 0) else 0)) =
    Value.int .i64 (if j < n * 3 then z j else if j < (k + 1) * 3 then (if j % 3 = 0 then -77 else 0) else 0) := by
  repeat' split
  all_goals first
    | rfl
    | (exfalso; omega)

theorem padstep4 (k n j : Nat) (z : Nat → Int) (hk : n ≤ k) : (if j = k * 4 + 3 then Value.int .i64 0 else if j = k * 4 + 2 then Value.int .i64 0 else if j = k * 4 + 1 then Value.int .i64 0 else if j = k * 4 then Value.int .i64 (-77) else Value.int .i64 (if j < n * 4 then z j else if j < k * 4 then (if j % 4 = 0 then -77 else 0) else 0)) =
    Value.int .i64 (if j < n * 4 then z j else if j < (k + 1) * 4 then (if j % 4 = 0 then -77 else 0) else 0) := by
  repeat' split
  all_goals first
    | rfl
    | (exfalso; omega)

theorem size_setCell (w : World) (a : Addr) (v : Value) : (w.setCell a v).heap.size = w.heap.size := by simp [World.setCell]

end Go.Proofs.Ytdoghgnifkgfdaa
