/-
  slices.Clone of windows and of instructions: a list of its own that reads the same.
-/
import Derived.Test.YtdoghgnifkgfdaaLent
namespace Go.Proofs.Ytdoghgnifkgfdaa
open Go.RowKit

/-- What a copy of a list is: as long, the same cells, its own memory (or none). -/
def Cloned (w : World) (n m : Nat) (f : Nat → Value) (e : Ending) (w' : World) : Prop :=
  ∃ q cc, e = .returned (.slice q n cc) ∧ Below w.heap.size w w' ∧ Sl w' q m f ∧ n ≤ cc ∧ ∀ b o, q = some ⟨b, o, none⟩ → w.heap.size ≤ b

theorem own_empty (w : World) (t k : Nat) : (w.alloc (.cells #[] t)).ownsRow w.heap.size t k (.slice (some ⟨w.heap.size, 0, none⟩) 0 0) 0 [] :=
  ⟨by simp, .inr ⟨w.heap.size, 0, #[], rfl, Nat.le_refl _, heap_alloc_new w _, Nat.le_refl _, Nat.zero_le _, by simp, by simp⟩⟩

theorem own_list {w : World} {base e size g n n' cap : Nat} {xs : List Value} {f : Nat → Value} {m : Nat} (h : w.ownsRow base e size (.slice (some ⟨g, 0, none⟩) n' cap) n xs) (hm : xs.length = m) (hx : ∀ j, j < m → xs[j]? = some (f j)) : Sl w (some ⟨g, 0, none⟩) m f ∧ base ≤ g ∧ n ≤ cap := by
  rcases h with ⟨hl, ⟨hv, hn⟩ | ⟨g', cap', cur, hv, hbg, hh, hc1, hc2, hc3, hc4⟩⟩
  · cases hv
  · simp only [Value.slice.injEq, Option.some.injEq, Addr.mk.injEq] at hv
    obtain ⟨⟨rfl, -⟩, rfl, rfl⟩ := hv
    refine ⟨.inr ⟨g, 0, rfl, fun j hj => ?_⟩, hbg, hc1⟩
    have h1 := hx j hj
    rw [← hc4] at h1
    have h2 : j < n' * size := by omega
    rw [List.getElem?_take_of_lt h2] at h1
    rw [Nat.zero_add]
    unfold World.cell?
    simp only [hh]
    simpa using h1

/-- append(dst, src...) of a list of numbers or of structs of numbers. -/
theorem wpList_append_many {P : Program} (w : World) {ops : Array Oper} {rest : List Oper} {o : Oper} {a : Act} {Q : Exit → Act → World → Prop} (hgd : o.guard = none) (s x : Operand) (t : TypeId)
    (ho : o.op = .call { callee := .builtin .append, args := #[s, x], argTypes := #[t, t] })
    (base : Nat) (e : TypeId) (z : Value) (size bytes : Nat) (ht : P.underlying t = some (.slice e)) (hinfo : (P.info? e).map (fun i => (i.zero, i.size, i.bytes)) = some (some z, size, bytes))
    (hzs : z.cells.size = size) (hsz : 0 < size) (v : Value) (n : Nat) (xs : List Value) (hs : a.eval s = v) (hown : w.ownsRow base e size v n xs)
    (b off m c : Nat) (f : Nat → Value) (hx : a.eval x = .slice (some ⟨b, off, none⟩) m c) (hc : ∀ j, j < m * size → w.cell? ⟨b, off + j, none⟩ = some (f j)) (h1 : ∀ j, (f j).oneCell' = true)
    (hm : 0 < m) (h63 : n + m ≤ maxLen) (hbytes : (n + m) * bytes ≤ 140737488355328) (hbase : base ≤ w.heap.size)
    (h : ∀ g cap w', w'.ownsRow base e size (.slice (some ⟨g, 0, none⟩) (n + m) cap) (n + m) (xs ++ (List.range (m * size)).map f) → w.grownBy w' v.ownBlock → (v.ownBlock = some g ∨ g = w.heap.size) → g < w'.heap.size → wpList P ops Q rest (a.put o.dst (.slice (some ⟨g, 0, none⟩) (n + m) cap)) w') : wpList P ops Q (o :: rest) a w := by
  obtain ⟨i, h2, h3, h4, h5⟩ := info_parts hinfo
  refine wpList_append_lies w hgd s x t ho base e i z size bytes ht h2 h3 h4 h5 hzs hsz v n xs hs hown ⟨b, off, none⟩ m c ((List.range (m * size)).map f) hx (by simp) (fun j u hu => ?_) (fun u hu => ?_) hm h63 hbytes hbase _ rfl h
  · rw [List.getElem?_map] at hu
    obtain ⟨y, hy, rfl⟩ := Option.map_eq_some_iff.1 hu
    have hj : j < m * size := by
      have := (List.getElem?_eq_some_iff.1 hy).1
      simpa using this
    rw [List.getElem?_range hj] at hy
    cases hy
    have e1 : (⟨b, off, none⟩ : Addr).add j = ⟨b, off + j, none⟩ := by
      unfold Addr.add
      split
      · rename_i h0; simp_all
      · rfl
    rw [e1]
    exact hc j hj
  · obtain ⟨y, _, rfl⟩ := List.mem_map.1 hu
    exact h1 y

set_option maxRecDepth 100000 in
set_option maxHeartbeats 1000000 in
theorem cloneWin_any (p : Option Addr) (n cap : Nat) (z : Nat → Int) (w : World) (hs : Sl w p (n * 2) (fun j => .int .i64 (z j))) (hz : p = none → n = 0 ∧ cap = 0) (hb : 16 * n ≤ 140737488355328) :
    Calls Try.prog 43 #[.slice p n cap] w (Cloned w n (n * 2) (fun j => .int .i64 (z j))) := by
  cases p with
  | none =>
    obtain ⟨rfl, rfl⟩ := hz rfl
    have heq := fun W a n c => Go.Lib.run_eql_slice_nil (P := Try.prog) W 63 65 a n c 0 0 Try.underlying63
    go_enter Try.func43, Try.ntmps43
    go_wp2_with fail
    go_ret
    exact ⟨none, 0, rfl, Below.refl _ _, .inl (by simp), Nat.le_refl _, fun b o e => by cases e⟩
  | some ad =>
    by_cases h0 : n = 0
    · subst h0
      have heq := fun W a n c => Go.Lib.run_eql_slice_nil (P := Try.prog) W 63 65 a n c 0 0 Try.underlying63
      go_enter Try.func43, Try.ntmps43
      go_wp2_with fail
      go_ret
      exact ⟨_, _, rfl, (Below.refl _ _).alloc (Nat.le_refl _) _, .inr ⟨_, _, rfl, fun j hj => absurd hj (by omega)⟩, Nat.le_refl _, fun b o e => by
        simp only [Option.some.injEq, Addr.mk.injEq] at e
        omega⟩
    · obtain ⟨b, o, e, hc⟩ := hs.at (by omega)
      obtain rfl : ad = ⟨b, o, none⟩ := Option.some.inj e
      have heq := fun W a n c => Go.Lib.run_eql_slice_nil (P := Try.prog) W 63 65 a n c 0 0 Try.underlying63
      have HC : Hid (∀ j, j < n * 2 → w.cell? ⟨b, o + j, none⟩ = some (.int .i64 (z j))) := hc
      have HBn : Hid (16 * n ≤ 140737488355328) := hb
      have HH : Hid (b < w.heap.size) := block_lt_of_cell (hc 0 (by omega))
      have hn0 : 0 < n := by omega
      clear hc hs hz e h0 hb
      go_enter Try.func43, Try.ntmps43
      go_wp2_with (at_builtin; refine wpList_append_many _ rfl _ _ 63 rfl w.heap.size 65 _ 2 16 Try.underlying63 info_windows rfl (by omega) (.slice (some ⟨w.heap.size, 0, none⟩) 0 0) 0 [] rfl (by exact own_empty w 65 2) b o n cap (fun j => .int .i64 (z j)) rfl (fun j hj => by
        refine (Below.cell ((Below.refl _ w).alloc (Nat.le_refl _) _) HH.out).trans (HC.out j hj)) (fun j => rfl) hn0 (by simp only [maxLen]; have := HBn.out; omega) (by have := HBn.out; omega) (by simp) ?_)
      intro g cc w1 hown hg hat hlt
      obtain ⟨s1, s2, s3⟩ := own_list hown (m := n * 2) (by simp) (f := fun j => .int .i64 (z j)) (fun j hj => by simp [hj])
      have HF : Hid (Cloned w n (n * 2) (fun j => .int .i64 (z j)) (.returned (.slice (some ⟨g, 0, none⟩) n cc)) w1) :=
        ⟨_, _, rfl, ((Below.refl _ w).alloc (Nat.le_refl _) _).grown hg (by simp) (fun j hj => by simp [Value.ownBlock] at hj; omega), s1, by omega, fun b' o' e => by
          simp only [Option.some.injEq, Addr.mk.injEq] at e
          omega⟩
      clear hown hg hat hlt s1 s2 s3
      go_wp2_with fail
      go_ret
      simpa using HF.out

set_option maxRecDepth 100000 in
set_option maxHeartbeats 1000000 in
theorem cloneIns_any (p : Option Addr) (n cap : Nat) (z : Nat → Int) (w : World) (hs : Sl w p (n * 4) (fun j => .int .i64 (z j))) (hz : p = none → n = 0 ∧ cap = 0) (hb : 32 * n ≤ 140737488355328) :
    Calls Try.prog 63 #[.slice p n cap] w (Cloned w n (n * 4) (fun j => .int .i64 (z j))) := by
  cases p with
  | none =>
    obtain ⟨rfl, rfl⟩ := hz rfl
    have heq := fun W a n c => Go.Lib.run_eql_slice_nil (P := Try.prog) W 68 73 a n c 0 0 Try.underlying68
    go_enter Try.func63, Try.ntmps63
    go_wp2_with fail
    go_ret
    exact ⟨none, 0, rfl, Below.refl _ _, .inl (by simp), Nat.le_refl _, fun b o e => by cases e⟩
  | some ad =>
    by_cases h0 : n = 0
    · subst h0
      have heq := fun W a n c => Go.Lib.run_eql_slice_nil (P := Try.prog) W 68 73 a n c 0 0 Try.underlying68
      go_enter Try.func63, Try.ntmps63
      go_wp2_with fail
      go_ret
      exact ⟨_, _, rfl, (Below.refl _ _).alloc (Nat.le_refl _) _, .inr ⟨_, _, rfl, fun j hj => absurd hj (by omega)⟩, Nat.le_refl _, fun b o e => by
        simp only [Option.some.injEq, Addr.mk.injEq] at e
        omega⟩
    · obtain ⟨b, o, e, hc⟩ := hs.at (by omega)
      obtain rfl : ad = ⟨b, o, none⟩ := Option.some.inj e
      have heq := fun W a n c => Go.Lib.run_eql_slice_nil (P := Try.prog) W 68 73 a n c 0 0 Try.underlying68
      have HC : Hid (∀ j, j < n * 4 → w.cell? ⟨b, o + j, none⟩ = some (.int .i64 (z j))) := hc
      have HBn : Hid (32 * n ≤ 140737488355328) := hb
      have HH : Hid (b < w.heap.size) := block_lt_of_cell (hc 0 (by omega))
      have hn0 : 0 < n := by omega
      clear hc hs hz e h0 hb
      go_enter Try.func63, Try.ntmps63
      go_wp2_with (at_builtin; refine wpList_append_many _ rfl _ _ 68 rfl w.heap.size 73 _ 4 32 Try.underlying68 info_codes rfl (by omega) (.slice (some ⟨w.heap.size, 0, none⟩) 0 0) 0 [] rfl (by exact own_empty w 73 4) b o n cap (fun j => .int .i64 (z j)) rfl (fun j hj => by
        refine (Below.cell ((Below.refl _ w).alloc (Nat.le_refl _) _) HH.out).trans (HC.out j hj)) (fun j => rfl) hn0 (by simp only [maxLen]; have := HBn.out; omega) (by have := HBn.out; omega) (by simp) ?_)
      intro g cc w1 hown hg hat hlt
      obtain ⟨s1, s2, s3⟩ := own_list hown (m := n * 4) (by simp) (f := fun j => .int .i64 (z j)) (fun j hj => by simp [hj])
      have HF : Hid (Cloned w n (n * 4) (fun j => .int .i64 (z j)) (.returned (.slice (some ⟨g, 0, none⟩) n cc)) w1) :=
        ⟨_, _, rfl, ((Below.refl _ w).alloc (Nat.le_refl _) _).grown hg (by simp) (fun j hj => by simp [Value.ownBlock] at hj; omega), s1, by omega, fun b' o' e => by
          simp only [Option.some.injEq, Addr.mk.injEq] at e
          omega⟩
      clear hown hg hat hlt s1 s2 s3
      go_wp2_with fail
      go_ret
      simpa using HF.out

end Go.Proofs.Ytdoghgnifkgfdaa
