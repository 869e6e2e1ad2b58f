/-
  cells.New: one cell of its own, made of a program: here that it comes back, and that nothing old turns.
-/
import Derived.Test.YtdoghgnifkgfdaaClones
import Derived.Test.YtdoghgnifkgfdaaRefNew
import Derived.Deep.MidRow
namespace Go.Proofs.Ytdoghgnifkgfdaa
open Go.RowKit

/-- A call of a Go function of one argument, as one step of a region that draws its order. -/
theorem step_call_go1 {P : Program} {ops : Array Oper} {o : Oper} {a : Act} {w : World} {K : Act → World → Prop} {Q : Exit → Act → World → Prop} {E : Prop} (hgd : o.guard = none) (f : FuncId) (s : Operand) (t : TypeId)
    (ho : o.op = .call { callee := .value (.func f), args := #[s], argTypes := #[t] }) (v : Value) (hv : a.eval s = v)
    (fn : Func) (hf : P.funcs[f]? = some fn) (hn : (fn.name == "runtime.NumGoroutine") = false) (hb : fn.body.isNone = false) (R : Value → World → Prop)
    (h : Calls P f #[v] w (fun e w' => ∃ r, e = .returned r ∧ R r w')) (hk : ∀ r w', R r w' → K (a.put o.dst r) w') :
    if Region.wanted o (yielded ops a.tmps) = true then Oper.wp P o a w K Q else E := by
  have hw : Region.wanted o (yielded ops a.tmps) = true := by simp [Region.wanted, hgd]
  rw [if_pos hw]
  unfold Oper.wp
  have hr : (execOp a.eval o).run P w = .ok (.enter f #[v]) w := by
    have e : a.eval (.func f) = .func (.func f) #[] #[] := rfl
    have hn' : ¬ fn.name = "runtime.NumGoroutine" := by simpa using hn
    have hb' : ¬ fn.body = none := by intro e; rw [e] at hb; cases hb
    simp [execOp, ho, resolve, invoke, hv, e, Deferred.ofValue, callFunc, hf, hn', hb']
  rw [hr]
  refine h.mono ?_
  rintro e w' ⟨r, rfl, hR⟩
  exact hk r w' hR

/-- copy into a part of a block. -/
theorem run_copy_at {P : Program} (w : World) (dT sT ty elem : TypeId) (size g o dLen dCap : Nat) (sp : Option Addr) (sLen sCap : Nat) (m t : Nat) (f f' : Nat → Value)
    (hu : P.underlying dT = some (.slice elem)) (hs : (P.info? elem).map (·.size) = some size) (hle : sLen ≤ dLen) (hrow : RowF w g m t f) (hm : o + dLen * size ≤ m)
    (hsrc : Sl w sp (sLen * size) f') (h1 : ∀ j, j < sLen * size → (f' j).oneCell' = true) (hnil : sp = none → sLen = 0) :
    ∃ w', (Builtin.copy_ #[dT, sT] ty #[.slice (some ⟨g, o, none⟩) dLen dCap, .slice sp sLen sCap]).run P w = .ok (goInt sLen) w' ∧
      RowF w' g m t (fun j => if o ≤ j ∧ j < o + sLen * size then f' (j - o) else f j) ∧ w.grownBy w' (some g) ∧ w'.heap.size = w.heap.size := by
  have hmin : Nat.min sLen dLen = sLen := Nat.min_eq_left hle
  cases hq : P.info? elem with
  | none => simp [hq] at hs
  | some i =>
    have hi : i.size = size := by simpa [hq] using hs
    rcases hsrc with hm0 | ⟨b, off, rfl, hc⟩
    · refine ⟨w, ?_, hrow.congr (fun j _ => by rw [hm0, if_neg]; omega), World.grownBy.refl _ _, rfl⟩
      cases sp with
      | none =>
        have h0 := hnil rfl
        subst h0
        simp [Builtin.copy_, run_underlying hu, Builtin.lenOf, Builtin.firstCells, sizeOf, typeInfo, hq, storeCells]
      | some q =>
        have hl : (loadCells q 0).run P w = .ok #[] w := by
          have := run_loadCells_list (P := P) w q [] (fun j v hv => by simp at hv)
          simpa using this
        simp [Builtin.copy_, run_underlying hu, Builtin.lenOf, Builtin.firstCells, sizeOf, typeInfo, hq, hi, hmin, hm0, hl, storeCells]
    · obtain ⟨cs, hg, hcs, hf⟩ := hrow
      have hl : (loadCells ⟨b, off, none⟩ (sLen * size)).run P w = .ok ((List.range (sLen * size)).map f').toArray w := by
        have := run_loadCells_list (P := P) w ⟨b, off, none⟩ ((List.range (sLen * size)).map f') (fun j v hv => by
          rw [Addr.add_lit]
          have hj : j < sLen * size := by have := (List.getElem?_eq_some_iff.1 hv).1; simpa using this
          rw [hc j hj]
          rw [← hv]
          simp [hj])
        simpa using this
      have hle2 : sLen * size ≤ dLen * size := Nat.mul_le_mul_right _ hle
      have hst := run_storeCells_at P g o t ((List.range (sLen * size)).map f') 0 cs w hg (by simp [hcs]; omega) (fun v hv => by
        obtain ⟨j, hj, rfl⟩ := List.mem_map.1 hv
        exact h1 j (by simpa using hj))
      have hst' : (storeCells ⟨g, o, none⟩ ((List.range (sLen * size)).map f')).run P w = .ok () (w.setRow g (cs.toList.take o ++ ((List.range (sLen * size)).map f' ++ cs.toList.drop (o + sLen * size))).toArray) := by
        simpa using hst
      refine ⟨w.setRow g (cs.toList.take o ++ ((List.range (sLen * size)).map f' ++ cs.toList.drop (o + sLen * size))).toArray, ?_, ⟨(cs.toList.take o ++ ((List.range (sLen * size)).map f' ++ cs.toList.drop (o + sLen * size))).toArray, setRow_heap w g cs _ t _ hg, ?_, ?_⟩, ⟨rfl, rfl, rfl, by simp, fun k _ hk => setRow_other w g k _ (fun e => hk (by simp [e]))⟩, by simp⟩
      · simp [Builtin.copy_, run_underlying hu, Builtin.lenOf, Builtin.firstCells, sizeOf, typeInfo, hq, hi, hmin, hl, hst']
      · simp [hcs]; omega
      · intro j hj
        show _ = some (if o ≤ j ∧ j < o + sLen * size then f' (j - o) else f j)
        have ho : (cs.toList.take o).length = o := by simp [hcs]; omega
        by_cases h2 : j < o
        · rw [if_neg (by omega), ← hf j hj]
          simp only [List.getElem?_toArray]
          rw [List.getElem?_append_left (by omega), List.getElem?_take_of_lt h2]
          simp
        · by_cases hlt : j < o + sLen * size
          · rw [if_pos ⟨by omega, hlt⟩]
            simp only [List.getElem?_toArray]
            rw [List.getElem?_append_right (by omega), List.getElem?_append_left (by simp only [List.length_map, List.length_range]; omega), ho]
            have h3 : j - o < sLen * size := by omega
            simp [h3]
          · rw [if_neg (by omega), ← hf j hj]
            simp only [List.getElem?_toArray]
            rw [List.getElem?_append_right (by omega), List.getElem?_append_right (by simp only [List.length_map, List.length_range]; omega), ho]
            simp only [List.length_map, List.length_range, List.getElem?_drop]
            rw [show o + sLen * size + (j - o - sLen * size) = j by omega]
            simp

theorem step_copy_at {P : Program} {w : World} {ops : Array Oper} {o : Oper} {a : Act} {K : Act → World → Prop} {Q : Exit → Act → World → Prop} {E : Prop} (hgd : o.guard = none) (d s : Operand) (dT sT : TypeId)
    (ho : o.op = .call { callee := .builtin .copy, args := #[d, s], argTypes := #[dT, sT] }) (elem : TypeId) (zv : Value) (size bytes : Nat) (hu : P.underlying dT = some (.slice elem)) (hinfo : (P.info? elem).map (fun i => (i.zero, i.size, i.bytes)) = some (some zv, size, bytes))
    (g off dLen dCap : Nat) (sp : Option Addr) (sLen sCap : Nat) (hd : a.eval d = .slice (some ⟨g, off, none⟩) dLen dCap) (hs : a.eval s = .slice sp sLen sCap)
    (m t : Nat) (f f' : Nat → Value) (hle : sLen ≤ dLen) (hrow : RowF w g m t f) (hm : off + dLen * size ≤ m)
    (hsrc : Sl w sp (sLen * size) f') (h1 : ∀ j, j < sLen * size → (f' j).oneCell' = true) (hnil : sp = none → sLen = 0)
    (h : ∀ w', RowF w' g m t (fun j => if off ≤ j ∧ j < off + sLen * size then f' (j - off) else f j) → w.grownBy w' (some g) → w'.heap.size = w.heap.size → K (a.put o.dst (goInt sLen)) w') :
    if Region.wanted o (yielded ops a.tmps) = true then Oper.wp P o a w K Q else E := by
  have hw : Region.wanted o (yielded ops a.tmps) = true := by simp [Region.wanted, hgd]
  rw [if_pos hw]
  have hsz : (P.info? elem).map (·.size) = some size := by
    obtain ⟨i, h2, _, h4, _⟩ := info_parts hinfo
    simp [h2, h4]
  obtain ⟨w', hrun, r1, r2, r3⟩ := run_copy_at (P := P) w dT sT o.type elem size g off dLen dCap sp sLen sCap m t f f' hu hsz hle hrow hm hsrc h1 hnil
  unfold Oper.wp
  simp [execOp, ho, resolve, invoke, builtin, hd, hs, hrun, Result.andThen]
  exact h w' r1 r2 r3

/-- What a cell's block holds: its number, its net, its code, and numbers: limit, first state, present state, steps, breaks. -/
def cellV (num : Int) (net code : Value) (z : Nat → Int) (j : Nat) : Value := if j = 0 then .int .i64 num else if j = 1 then net else if j = 2 then code else .int .i64 (z j)

/-- The numbers of a new cell: 3: the limit; 4 to 24: the first state (4 registers, 16 words, next); 25 to 45: the present one; 46: steps; 47: breaks. -/
def newZ (lim : Int) (m : Nat) (img : Nat → Int) (j : Nat) : Int := if j = 3 then lim else if 8 ≤ j ∧ j < 8 + m then img (j - 8) else if 29 ≤ j ∧ j < 29 + m then img (j - 29) else 0

theorem row48 (w : World) (t : Nat) (a b c d : Value) : RowF (w.alloc (.cells (List.toArray (a :: b :: c :: d :: .int .i64 0 :: .int .i64 0 :: .int .i64 0 :: .int .i64 0 :: .int .i64 0 :: .int .i64 0 :: .int .i64 0 :: .int .i64 0 :: .int .i64 0 :: .int .i64 0 :: .int .i64 0 :: .int .i64 0 :: .int .i64 0 :: .int .i64 0 :: .int .i64 0 :: .int .i64 0 :: .int .i64 0 :: .int .i64 0 :: .int .i64 0 :: .int .i64 0 :: .int .i64 0 :: .int .i64 0 :: .int .i64 0 :: .int .i64 0 :: .int .i64 0 :: .int .i64 0 :: .int .i64 0 :: .int .i64 0 :: .int .i64 0 :: .int .i64 0 :: .int .i64 0 :: .int .i64 0 :: .int .i64 0 :: .int .i64 0 :: .int .i64 0 :: .int .i64 0 :: .int .i64 0 :: .int .i64 0 :: .int .i64 0 :: .int .i64 0 :: .int .i64 0 :: .int .i64 0 :: .int .i64 0 :: .int .i64 0 :: [])) t)) w.heap.size 48 t (fun j => if j = 0 then a else if j = 1 then b else if j = 2 then c else if j = 3 then d else .int .i64 0) := by
  refine RowF.new w _ t _ (fun j hj => ?_)
  have e : ((List.toArray (a :: b :: c :: d :: .int .i64 0 :: .int .i64 0 :: .int .i64 0 :: .int .i64 0 :: .int .i64 0 :: .int .i64 0 :: .int .i64 0 :: .int .i64 0 :: .int .i64 0 :: .int .i64 0 :: .int .i64 0 :: .int .i64 0 :: .int .i64 0 :: .int .i64 0 :: .int .i64 0 :: .int .i64 0 :: .int .i64 0 :: .int .i64 0 :: .int .i64 0 :: .int .i64 0 :: .int .i64 0 :: .int .i64 0 :: .int .i64 0 :: .int .i64 0 :: .int .i64 0 :: .int .i64 0 :: .int .i64 0 :: .int .i64 0 :: .int .i64 0 :: .int .i64 0 :: .int .i64 0 :: .int .i64 0 :: .int .i64 0 :: .int .i64 0 :: .int .i64 0 :: .int .i64 0 :: .int .i64 0 :: .int .i64 0 :: .int .i64 0 :: .int .i64 0 :: .int .i64 0 :: .int .i64 0 :: .int .i64 0 :: .int .i64 0 :: [])) : Array Value) = ([a, b, c, d] ++ List.replicate 44 (Value.int .i64 0)).toArray := rfl
  rw [e] at hj ⊢
  rcases j with _ | _ | _ | _ | j
  · rfl
  · rfl
  · rfl
  · rfl
  · simp only [List.size_toArray, List.length_append, List.length_cons, List.length_nil, List.length_replicate] at hj
    show ([a, b, c, d] ++ List.replicate 44 (Value.int .i64 0)).toArray[j + 1 + 1 + 1 + 1]? = some (.int .i64 0)
    rw [List.getElem?_toArray, List.getElem?_append_right (by simp), List.getElem?_replicate, if_pos (by simp only [List.length_cons, List.length_nil]; omega)]

theorem size_state : (Try.prog.info? 161).map (·.size) = some 21 := by kernel_rfl

theorem row48_range {w : World} {g t : Nat} {a b c : Value} {G : Nat → Int} (h : RowF w g 48 t (fun j => if j = 0 then a else if j = 1 then b else if j = 2 then c else .int .i64 (G j))) : w.rangeAt g 4 ((List.range 21).map (fun j => .int .i64 (G (4 + j)))) := fun j v hv => by
  rw [List.getElem?_map] at hv
  obtain ⟨y, hy, rfl⟩ := Option.map_eq_some_iff.1 hv
  have hj : j < 21 := by
    have := (List.getElem?_eq_some_iff.1 hy).1
    simpa using this
  rw [List.getElem?_range hj] at hy
  cases hy
  have := h.cell (j := 4 + j) (by omega)
  rw [this, if_neg (by omega), if_neg (by omega), if_neg (by omega)]

theorem row48_there {w : World} {g t : Nat} {f : Nat → Value} {L : List Value} (h : RowF w g 48 t f) (hL : L.length = 21) : w.there g 25 L.toArray.size := fun j hj => by
  have hj' : j < 21 := by rw [List.size_toArray, hL] at hj; exact hj
  rw [h.cell (j := 25 + j) (by omega)]
  exact ⟨rfl, h.frozen _⟩

theorem below_setCells {B : Nat} {w0 w : World} {b : Nat} (h : Below B w0 w) (hb : B ≤ b) : ∀ (o : Nat) (vs : List Value), Below B w0 (w.setCells b o vs) := by
  intro o vs
  induction vs generalizing o w with
  | nil => exact h
  | cons v vs ih => exact ih (h.setCell hb _) _

/-- A stretch of a block written anew. -/
theorem RowF.setCells {w : World} {g m t : Nat} {f : Nat → Value} (h : RowF w g m t f) : ∀ (vs : List Value) (o : Nat), RowF (w.setCells g o vs) g m t (fun j => if o ≤ j ∧ j < o + vs.length then vs.getD (j - o) undef else f j) := by
  intro vs
  induction vs generalizing w f with
  | nil => exact fun o => h.congr fun j _ => by rw [if_neg (by simp)]
  | cons v vs ih =>
    intro o
    refine (ih (h.set o v) (o + 1)).congr fun j _ => ?_
    simp only [List.length_cons]
    by_cases h1 : o + 1 ≤ j ∧ j < o + 1 + vs.length
    · rw [if_pos h1, if_pos (by omega), show j - o = (j - (o + 1)) + 1 by omega]
      rfl
    · rw [if_neg h1]
      by_cases h2 : j = o
      · subst h2
        rw [if_pos rfl, if_pos (by omega), Nat.sub_self]
        rfl
      · rw [if_neg h2, if_neg (by omega)]

theorem nameCloneIns : (Try.f63.name == "runtime.NumGoroutine") = false := by kernel_rfl
theorem bodyCloneIns : Try.f63.body.isNone = false := by kernel_rfl

/-- A new cell, laid at kb. -/
def CellNew (w : World) (num : Int) (np : Option Addr) (lim : Int) (m0 m1 : Nat) (z0 z1 : Nat → Int) (kb : Nat) (w' : World) : Prop :=
  ∃ q cc, w.heap.size ≤ kb ∧ RowF w' kb 48 163 (cellV num (.pointer np) (.slice q m0 cc) (newZ lim m1 z1)) ∧ Sl w' q (m0 * 4) (fun j => .int .i64 (z0 j)) ∧ ∀ b o, q = some ⟨b, o, none⟩ → m0 ≠ 0 → w.heap.size ≤ b ∧ b ≠ kb

set_option maxRecDepth 100000 in
set_option maxHeartbeats 4000000 in
theorem cellsNew_any (num : Int) (np : Option Addr) (v0 v1 : Value) (n0 n1 : Bool) (m0 m1 : Nat) (z0 z1 : Nat → Int) (lim : Int) (w : World) (h0 : SlZ w v0 n0 m0 4 z0 32) (h1 : SlZ w v1 n1 m1 1 z1 8) (h16 : m1 ≤ 16) :
    Calls Try.prog 44 #[.int .i64 num, .agg #[v0, v1, .int .i64 lim], .pointer np] w fun e w' => ∃ kb, e = .returned (.pointer (some ⟨kb, 0, none⟩)) ∧ Below w.heap.size w w' ∧ CellNew w num np lim m0 m1 z0 z1 kb w' := by
  obtain ⟨p0, cap0, rfl, -, -, y0, b0, s0⟩ := h0
  obtain ⟨p1, cap1, rfl, -, -, y1, b1, s1⟩ := h1
  have HB : Hid (∀ o, Below w.heap.size w (w.alloc o)) := fun o => (Below.refl _ _).alloc (Nat.le_refl _) _
  have HX : Hid (RowF (w.alloc (.cells #[.slice p0 m0 cap0, .slice p1 m1 cap1, .int .i64 lim] 70)) w.heap.size 3 70 (cells3 (.slice p0 m0 cap0) (.slice p1 m1 cap1) (.int .i64 lim))) := row3 w _ _ _ _
  have S0 : Hid (Sl w p0 (m0 * 4) (fun j => .int .i64 (z0 j))) := s0
  have S1 : Hid (Sl w p1 (m1 * 1) (fun j => .int .i64 (z1 j))) := s1
  have Y0 : Hid (p0 = none → m0 = 0 ∧ cap0 = 0) := y0
  have B0 : Hid (32 * m0 ≤ 140737488355328) := b0
  clear s0 s1 y0 b0
  go_enter Try.func44, Try.ntmps44
  go_wp2_with fail
  go_region_law
    (first
      | (refine step_call_go1 rfl 63 _ _ rfl _ rfl Try.f63 Try.func63 nameCloneIns bodyCloneIns (fun r w' => ∃ q cc, r = .slice q m0 cc ∧ Below (w.heap.size + 1) (w.alloc (.cells #[.slice p0 m0 cap0, .slice p1 m1 cap1, .int .i64 lim] 70)) w' ∧ Sl w' q (m0 * 4) (fun j => .int .i64 (z0 j)) ∧ ∀ b o, q = some ⟨b, o, none⟩ → w.heap.size + 1 ≤ b) ?_ ?_
         · exact (cloneIns_any p0 m0 cap0 z0 (w.alloc (.cells #[.slice p0 m0 cap0, .slice p1 m1 cap1, .int .i64 lim] 70)).drew (S0.out.below (HB.out _).drew) Y0.out B0.out).mono (fun e w' ⟨q, cc, h1, h2, h3, _, h5⟩ => ⟨_, h1, q, cc, rfl, ⟨h2.os, h2.tape, h2.output, by simpa using h2.size, fun j hj => h2.block j (by simpa using hj)⟩, h3, fun b o e => by simpa using h5 b o e⟩)
         rintro r wl ⟨q, cc, rfl, hbl, hql, hqb⟩
         have HBl : Hid (Below (w.heap.size + 1) (w.alloc (.cells #[.slice p0 m0 cap0, .slice p1 m1 cap1, .int .i64 lim] 70)) wl) := hbl
         have HQl : Hid (Sl wl q (m0 * 4) (fun j => .int .i64 (z0 j))) := hql
         have HQb : Hid (∀ b o, q = some ⟨b, o, none⟩ → w.heap.size + 1 ≤ b) := hqb
         obtain ⟨j0, j1, j2⟩ := (HX.out.below HBl.out (by omega)).at3
         clear hbl hql hqb))
  all_goals
    have HQlt : Hid (Sl wl q (m0 * 4) (fun j => .int .i64 (z0 j)) ∧ ∀ b o, q = some ⟨b, o, none⟩ → m0 ≠ 0 → b < wl.heap.size) := ⟨HQl.out, fun b o e hm => by
      rcases HQl.out with h | ⟨b', o', e', hc⟩
      · omega
      · rw [e] at e'
        cases e'
        exact block_lt_of_cell (hc 0 (by omega))⟩
    have HC : Hid (RowF (wl.alloc (.cells (List.toArray (.int .i64 num :: .pointer np :: .slice q m0 cc :: .int .i64 lim :: .int .i64 0 :: .int .i64 0 :: .int .i64 0 :: .int .i64 0 :: .int .i64 0 :: .int .i64 0 :: .int .i64 0 :: .int .i64 0 :: .int .i64 0 :: .int .i64 0 :: .int .i64 0 :: .int .i64 0 :: .int .i64 0 :: .int .i64 0 :: .int .i64 0 :: .int .i64 0 :: .int .i64 0 :: .int .i64 0 :: .int .i64 0 :: .int .i64 0 :: .int .i64 0 :: .int .i64 0 :: .int .i64 0 :: .int .i64 0 :: .int .i64 0 :: .int .i64 0 :: .int .i64 0 :: .int .i64 0 :: .int .i64 0 :: .int .i64 0 :: .int .i64 0 :: .int .i64 0 :: .int .i64 0 :: .int .i64 0 :: .int .i64 0 :: .int .i64 0 :: .int .i64 0 :: .int .i64 0 :: .int .i64 0 :: .int .i64 0 :: .int .i64 0 :: .int .i64 0 :: .int .i64 0 :: .int .i64 0 :: [])) 163)) wl.heap.size 48 163 (fun j => if j = 0 then .int .i64 num else if j = 1 then .pointer np else if j = 2 then .slice q m0 cc else .int .i64 (if j = 3 then lim else 0))) := (row48 wl _ _ _ _ _).congr fun j _ => by
      by_cases h0 : j = 0
      · simp [h0]
      · by_cases h1 : j = 1
        · simp [h1]
        · by_cases h2 : j = 2
          · simp [h2]
          · by_cases h3 : j = 3
            · simp [h3]
            · simp [h0, h1, h2, h3]
    have HBw : Hid (Below w.heap.size w (wl.alloc (.cells (List.toArray (.int .i64 num :: .pointer np :: .slice q m0 cc :: .int .i64 lim :: .int .i64 0 :: .int .i64 0 :: .int .i64 0 :: .int .i64 0 :: .int .i64 0 :: .int .i64 0 :: .int .i64 0 :: .int .i64 0 :: .int .i64 0 :: .int .i64 0 :: .int .i64 0 :: .int .i64 0 :: .int .i64 0 :: .int .i64 0 :: .int .i64 0 :: .int .i64 0 :: .int .i64 0 :: .int .i64 0 :: .int .i64 0 :: .int .i64 0 :: .int .i64 0 :: .int .i64 0 :: .int .i64 0 :: .int .i64 0 :: .int .i64 0 :: .int .i64 0 :: .int .i64 0 :: .int .i64 0 :: .int .i64 0 :: .int .i64 0 :: .int .i64 0 :: .int .i64 0 :: .int .i64 0 :: .int .i64 0 :: .int .i64 0 :: .int .i64 0 :: .int .i64 0 :: .int .i64 0 :: .int .i64 0 :: .int .i64 0 :: .int .i64 0 :: .int .i64 0 :: .int .i64 0 :: .int .i64 0 :: [])) 163))) := (((HB.out _).trans (HBl.out.mono (by omega))).alloc (by have := HBl.out.size; simp at this; omega) _)
    have HBq : Hid (Below wl.heap.size wl (wl.alloc (.cells (List.toArray (.int .i64 num :: .pointer np :: .slice q m0 cc :: .int .i64 lim :: .int .i64 0 :: .int .i64 0 :: .int .i64 0 :: .int .i64 0 :: .int .i64 0 :: .int .i64 0 :: .int .i64 0 :: .int .i64 0 :: .int .i64 0 :: .int .i64 0 :: .int .i64 0 :: .int .i64 0 :: .int .i64 0 :: .int .i64 0 :: .int .i64 0 :: .int .i64 0 :: .int .i64 0 :: .int .i64 0 :: .int .i64 0 :: .int .i64 0 :: .int .i64 0 :: .int .i64 0 :: .int .i64 0 :: .int .i64 0 :: .int .i64 0 :: .int .i64 0 :: .int .i64 0 :: .int .i64 0 :: .int .i64 0 :: .int .i64 0 :: .int .i64 0 :: .int .i64 0 :: .int .i64 0 :: .int .i64 0 :: .int .i64 0 :: .int .i64 0 :: .int .i64 0 :: .int .i64 0 :: .int .i64 0 :: .int .i64 0 :: .int .i64 0 :: .int .i64 0 :: .int .i64 0 :: .int .i64 0 :: [])) 163))) := (Below.refl _ _).alloc (Nat.le_refl _) _
    have hwl : w.heap.size < wl.heap.size := by have := HBl.out.size; simp at this; omega
    have hk1 : (wl.alloc (.cells (List.toArray (.int .i64 num :: .pointer np :: .slice q m0 cc :: .int .i64 lim :: .int .i64 0 :: .int .i64 0 :: .int .i64 0 :: .int .i64 0 :: .int .i64 0 :: .int .i64 0 :: .int .i64 0 :: .int .i64 0 :: .int .i64 0 :: .int .i64 0 :: .int .i64 0 :: .int .i64 0 :: .int .i64 0 :: .int .i64 0 :: .int .i64 0 :: .int .i64 0 :: .int .i64 0 :: .int .i64 0 :: .int .i64 0 :: .int .i64 0 :: .int .i64 0 :: .int .i64 0 :: .int .i64 0 :: .int .i64 0 :: .int .i64 0 :: .int .i64 0 :: .int .i64 0 :: .int .i64 0 :: .int .i64 0 :: .int .i64 0 :: .int .i64 0 :: .int .i64 0 :: .int .i64 0 :: .int .i64 0 :: .int .i64 0 :: .int .i64 0 :: .int .i64 0 :: .int .i64 0 :: .int .i64 0 :: .int .i64 0 :: .int .i64 0 :: .int .i64 0 :: .int .i64 0 :: .int .i64 0 :: [])) 163)).cell? ⟨w.heap.size, 1, none⟩ = some (.slice p1 m1 cap1) := (((Below.refl _ wl).alloc (Nat.le_refl _) _).cell (p := ⟨w.heap.size, 1, none⟩) hwl).trans j1
    have hZ : (wl.alloc (.cells (List.toArray (.int .i64 num :: .pointer np :: .slice q m0 cc :: .int .i64 lim :: .int .i64 0 :: .int .i64 0 :: .int .i64 0 :: .int .i64 0 :: .int .i64 0 :: .int .i64 0 :: .int .i64 0 :: .int .i64 0 :: .int .i64 0 :: .int .i64 0 :: .int .i64 0 :: .int .i64 0 :: .int .i64 0 :: .int .i64 0 :: .int .i64 0 :: .int .i64 0 :: .int .i64 0 :: .int .i64 0 :: .int .i64 0 :: .int .i64 0 :: .int .i64 0 :: .int .i64 0 :: .int .i64 0 :: .int .i64 0 :: .int .i64 0 :: .int .i64 0 :: .int .i64 0 :: .int .i64 0 :: .int .i64 0 :: .int .i64 0 :: .int .i64 0 :: .int .i64 0 :: .int .i64 0 :: .int .i64 0 :: .int .i64 0 :: .int .i64 0 :: .int .i64 0 :: .int .i64 0 :: .int .i64 0 :: .int .i64 0 :: .int .i64 0 :: .int .i64 0 :: .int .i64 0 :: .int .i64 0 :: [])) 163)).heap.size = wl.heap.size + 1 := by simp
    clear HBl j0 j1 j2 HX HQl
    generalize (wl.alloc (.cells (List.toArray (.int .i64 num :: .pointer np :: .slice q m0 cc :: .int .i64 lim :: .int .i64 0 :: .int .i64 0 :: .int .i64 0 :: .int .i64 0 :: .int .i64 0 :: .int .i64 0 :: .int .i64 0 :: .int .i64 0 :: .int .i64 0 :: .int .i64 0 :: .int .i64 0 :: .int .i64 0 :: .int .i64 0 :: .int .i64 0 :: .int .i64 0 :: .int .i64 0 :: .int .i64 0 :: .int .i64 0 :: .int .i64 0 :: .int .i64 0 :: .int .i64 0 :: .int .i64 0 :: .int .i64 0 :: .int .i64 0 :: .int .i64 0 :: .int .i64 0 :: .int .i64 0 :: .int .i64 0 :: .int .i64 0 :: .int .i64 0 :: .int .i64 0 :: .int .i64 0 :: .int .i64 0 :: .int .i64 0 :: .int .i64 0 :: .int .i64 0 :: .int .i64 0 :: .int .i64 0 :: .int .i64 0 :: .int .i64 0 :: .int .i64 0 :: .int .i64 0 :: .int .i64 0 :: .int .i64 0 :: [])) 163)) = wc at *
    generalize (Value.agg (List.toArray (.int .i64 num :: .pointer np :: .slice q m0 cc :: .int .i64 lim :: .int .i64 0 :: .int .i64 0 :: .int .i64 0 :: .int .i64 0 :: .int .i64 0 :: .int .i64 0 :: .int .i64 0 :: .int .i64 0 :: .int .i64 0 :: .int .i64 0 :: .int .i64 0 :: .int .i64 0 :: .int .i64 0 :: .int .i64 0 :: .int .i64 0 :: .int .i64 0 :: .int .i64 0 :: .int .i64 0 :: .int .i64 0 :: .int .i64 0 :: .int .i64 0 :: .int .i64 0 :: .int .i64 0 :: .int .i64 0 :: .int .i64 0 :: .int .i64 0 :: .int .i64 0 :: .int .i64 0 :: .int .i64 0 :: .int .i64 0 :: .int .i64 0 :: .int .i64 0 :: .int .i64 0 :: .int .i64 0 :: .int .i64 0 :: .int .i64 0 :: .int .i64 0 :: .int .i64 0 :: .int .i64 0 :: .int .i64 0 :: .int .i64 0 :: .int .i64 0 :: .int .i64 0 :: .int .i64 0 :: []))) = V
    go_wp2_with fail
    go_region_law
      (refine step_copy_at rfl _ _ 56 56 rfl 2 _ 1 8 Try.underlying56 info_numbers wl.heap.size 8 16 16 p1 m1 cap1 rfl rfl 48 163 (fun j => if j = 0 then .int .i64 num else if j = 1 then .pointer np else if j = 2 then .slice q m0 cc else .int .i64 (if j = 3 then lim else 0)) (fun j => .int .i64 (z1 j)) h16 ?_ (by omega) ?_ (fun _ _ => rfl) (fun h => (y1 h).1) ?_
       · exact HC.out
       · exact (S1.out.below HBw.out.drew)
       intro w2 hr2 hg2 hs2
       have HG2 : Hid (World.grownBy _ w2 (some wl.heap.size)) := hg2
       have HE : Hid (RowF w2 wl.heap.size 48 163 (fun j => if j = 0 then .int .i64 num else if j = 1 then .pointer np else if j = 2 then .slice q m0 cc else .int .i64 (if j = 3 then lim else if 8 ≤ j ∧ j < 8 + m1 * 1 then z1 (j - 8) else 0))) := hr2.congr (fun j hj => by
         show (if 8 ≤ j ∧ j < 8 + m1 * 1 then (.int .i64 (z1 (j - 8)) : Value) else if j = 0 then _ else if j = 1 then _ else if j = 2 then _ else _) = _
         by_cases h : 8 ≤ j ∧ j < 8 + m1 * 1
         · rw [if_pos h, if_neg (by omega), if_neg (by omega), if_neg (by omega), if_neg (by omega), if_pos h]
         · rw [if_neg h]
           by_cases h3 : j = 3
           · simp [h3]
           · simp only [h3, if_false, h])
       clear hr2 hg2 hs2)
  all_goals
    have HF : Hid (Below w.heap.size w w2) := HBw.out.drew.grown HG2.out (by show w.heap.size ≤ wc.heap.size; omega) (fun j hj => by simp at hj; omega)
    have HFq : Hid (Below wl.heap.size wl w2) := HBq.out.drew.grown HG2.out (by show wl.heap.size ≤ wc.heap.size; omega) (fun j hj => by simp at hj; omega)
    clear HC HG2 hk1 HBq
    have hL1 : ((List.range 21).map (fun j => Value.int .i64 (if 4 + j = 3 then lim else if 8 ≤ 4 + j ∧ 4 + j < 8 + m1 * 1 then z1 (4 + j - 8) else 0))).length = 21 := by simp
    have hL2 : ∀ v ∈ (List.range 21).map (fun j => Value.int .i64 (if 4 + j = 3 then lim else if 8 ≤ 4 + j ∧ 4 + j < 8 + m1 * 1 then z1 (4 + j - 8) else 0)), v.oneCell' = true := fun v hv => by obtain ⟨y, _, rfl⟩ := List.mem_map.1 hv; rfl
    have hL3 := row48_range HE.out
    have HEL : Hid (∀ j, j < 21 → ((List.range 21).map (fun j => Value.int .i64 (if 4 + j = 3 then lim else if 8 ≤ 4 + j ∧ 4 + j < 8 + m1 * 1 then z1 (4 + j - 8) else 0))).getD j undef = .int .i64 (if 4 + j = 3 then lim else if 8 ≤ 4 + j ∧ 4 + j < 8 + m1 * 1 then z1 (4 + j - 8) else 0)) := fun j hj => by simp [hj]
    generalize (List.range 21).map (fun j => Value.int .i64 (if 4 + j = 3 then lim else if 8 ≤ 4 + j ∧ 4 + j < 8 + m1 * 1 then z1 (4 + j - 8) else 0)) = L at *
    have HL1 : Hid (L.length = 21) := hL1
    have HL2 : Hid (∀ v ∈ L, v.oneCell' = true) := hL2
    have HL3 : Hid (w2.rangeAt wl.heap.size 4 L) := hL3
    have HSZ : Hid (Option.map (fun x => x.size) (Try.prog.info? 161) = some L.length) := by show _ = _; rw [hL1]; exact size_state
    clear hL1 hL2 hL3
    go_wp2_with (first | (refine wpList_load_mid rfl 161 _ rfl wl.heap.size 4 rfl L _ HL3.out Try.underlying161 rfl HSZ.out ?_) | (refine wpList_store_mid rfl 161 _ _ rfl wl.heap.size 25 L.toArray rfl rfl ?_ ?_ ?_ ?_))
    · exact row48_there HE.out HL1.out
    · rw [List.size_toArray]; exact HSZ.out
    · exact all_oneCell_toArray HL2.out
    have HF2 : Hid (Below w.heap.size w (w2.setCells wl.heap.size 25 L)) := below_setCells HF.out (by omega) _ _
    have HF3 : Hid (Below wl.heap.size wl (w2.setCells wl.heap.size 25 L)) := below_setCells HFq.out (Nat.le_refl _) _ _
    have HN : Hid (CellNew w num np lim m0 m1 z0 z1 wl.heap.size (w2.setCells wl.heap.size 25 L)) := by
      refine ⟨q, cc, by omega, (HE.out.setCells L 25).congr fun j _ => ?_, HQlt.out.1.below HF3.out, fun b o e hm => ?_⟩
      · rw [HL1.out]
        unfold cellV newZ
        by_cases h : 25 ≤ j ∧ j < 25 + 21
        · rw [if_pos h, HEL.out (j - 25) (by omega)]
          repeat' split
          all_goals first
            | rfl
            | (exfalso; omega)
            | (congr 2; omega)
        · rw [if_neg h]
          repeat' split
          all_goals first
            | rfl
            | (exfalso; omega)
            | (congr 2; omega)
      · exact ⟨by have := HQb.out b o e; omega, by have := HQlt.out.2 b o e hm; omega⟩
    go_wp2_with fail
    go_ret
    exact ⟨_, rfl, HF2.out, HN.out⟩

end Go.Proofs.Ytdoghgnifkgfdaa
