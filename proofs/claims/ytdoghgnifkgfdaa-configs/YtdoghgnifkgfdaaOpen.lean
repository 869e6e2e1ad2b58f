/-
  A list of configs that came in, opened: how it lies in memory, and that its numbers fit.
-/
import Derived.Test.YtdoghgnifkgfdaaRules4
import Derived.ProofKit
import Derived.SizedLaws
import Derived.Deep.Slices
import Derived.Lib.SmallJoins
namespace Go.Proofs.Ytdoghgnifkgfdaa
open Go.ChangeShapes Go.WideShapes Go.ChangeAt Go.RowKit Go.Deep Go.Joins

section
variable {H : Type} {enc : TypeId × Value → H} {P : Program} {w : World} {base : Nat} {spare : Nat → Bool} {held : Bool}

/-- A reading within the form's reach. -/
def Fit (P : Program) (t : TypeId) (d : DataW H) : Prop := ∀ n ∈ DataW.weights P t d, n ≤ reachBytes

theorem weightsAll_mem {e : TypeId} : ∀ {l : List (DataW H)} {d : DataW H}, d ∈ l → ∀ n ∈ d.weights P e, n ∈ DataW.weightsAll P e l
  | x :: l, d, hd, n, hn => by
    simp only [DataW.weightsAll, List.mem_append]
    rcases List.mem_cons.1 hd with rfl | h
    · exact .inl hn
    · exact .inr (weightsAll_mem h n hn)

theorem fit_slice {t e : TypeId} {elems sp : List (DataW H)} (hu : P.underlying t = some (.slice e)) (h : Fit P t (.slice elems sp)) :
    (elems.length + sp.length) * P.bytesOf e ≤ reachBytes ∧ ∀ d ∈ elems, Fit P e d := by
  unfold Fit at h
  simp only [DataW.weights, hu, List.mem_cons, List.mem_append] at h
  exact ⟨h _ (.inl rfl), fun d hd n hn => h n (.inr (.inl (weightsAll_mem hd n hn)))⟩

theorem fit_struct {t t' : TypeId} {fs : Array Field} {parts : List (DataW H)} {j : Nat} {d : DataW H} (hu : P.underlying t = some (.struct fs)) (h : Fit P t (.agg parts)) (ht : (fs.toList.map (·.type))[j]? = some t') (hd : parts[j]? = some d) : Fit P t' d := by
  unfold Fit at h
  simp only [DataW.weights, hu] at h
  exact fun n hn => h n (DataW.weights_mem_each ht hd n hn)

/-- A slice opened, whatever its elements are. -/
theorem open_sl {t e k bn fuel : Nat} {v : Value} {x : DataW H × List MemPlace} (ht : P.underlying t = some (.slice e)) (hce : P.cellsOf e = k) (hk : 0 < k) (hbe : P.bytesOf e = bn)
    (h : DataW.trod enc P w base spare held fuel t [v] = some x) (hfit : Fit P t x.1) :
    ∃ (nl : Bool) (p : Option Addr) (n cap : Nat) (F : Nat → Value) (D : Nat → DataW H × List MemPlace) (m : Nat), v = .slice p n cap ∧ n ≤ cap ∧ (p = none ↔ nl = true) ∧ (p = none → n = 0 ∧ cap = 0) ∧ bn * n ≤ 140737488355328 ∧ Sl w p (n * k) F ∧
      ∀ i, i < n → DataW.trod enc P w base spare held m e ((List.range k).map fun r => F (i * k + r)) = some (D i) ∧ Fit P e (D i).1 := by
  rcases open_slice ht h with ⟨hcs, rfl⟩ | ⟨a, len, cap, m, n, D, Pl, hcs, -, hl, -, hmm, rfl, hel⟩
  · obtain rfl : v = .slice none 0 0 := by simpa using hcs
    exact ⟨true, none, 0, 0, fun _ => undef, fun _ => (.nil, []), 0, rfl, Nat.le_refl _, by simp, by simp, by simp, .inl (by simp), fun i hi => absurd hi (by omega)⟩
  · obtain rfl : v = .slice (some a) len cap := by simpa using hcs
    have hlm : len ≤ m := by rw [hmm]; split <;> omega
    obtain ⟨hw1, hw2⟩ := fit_slice ht hfit
    rw [hbe] at hw1
    simp only [List.length_map, List.length_range, reachBytes] at hw1
    have hb : bn * len ≤ 140737488355328 := by
      have h1 : len * bn ≤ (len + (m - len)) * bn := Nat.mul_le_mul_right _ (by omega)
      rw [Nat.mul_comm]
      omega
    rw [hce] at hel
    obtain ⟨CS, hCS⟩ := choose_lt (α := List Value) (n := len) (p := fun i cs => w.cells? base (a.add (i * k)) k = some cs ∧ DataW.trod enc P w base spare held n e cs = some (D i, Pl i)) (fun i hi => hel i (by omega))
    have hdm : ∀ i r, r < k → (i * k + r) / k = i ∧ (i * k + r) % k = r := fun i r hr => ⟨by rw [Nat.mul_comm, Nat.mul_add_div hk, Nat.div_eq_of_lt hr, Nat.add_zero], by rw [Nat.mul_comm, Nat.mul_add_mod, Nat.mod_eq_of_lt hr]⟩
    have hcell : ∀ j, j < len * k → w.cell? (a.add j) = some ((CS (j / k))[j % k]!) := fun j hj => by
      have hi : j / k < len := (Nat.div_lt_iff_lt_mul hk).2 hj
      have hr : j % k < k := Nat.mod_lt _ hk
      obtain ⟨_, hlen, hc⟩ := World.cells?_some (hCS (j / k) hi).1
      have h3 := hc (j % k) hr
      rw [add_add, show j / k * k + j % k = j by rw [Nat.mul_comm]; exact Nat.div_add_mod j k] at h3
      rw [h3]
      simp [hlen, hr]
    refine ⟨false, some a, len, cap, fun j => (CS (j / k))[j % k]!, fun i => (D i, Pl i), n, rfl, hl, by simp, by simp, hb, ?_, fun i hi => ⟨?_, hw2 _ (List.mem_map.2 ⟨i, List.mem_range.2 hi, rfl⟩)⟩⟩
    · by_cases h0 : len * k = 0
      · exact .inl h0
      · obtain ⟨b, off, spot⟩ := a
        have hspot : spot = none := by simpa [Addr.add] using World.cell?_spot (hcell 0 (by omega))
        subst hspot
        exact .inr ⟨b, off, rfl, fun j hj => by rw [← add_plain]; exact hcell j hj⟩
    · obtain ⟨h1, h2⟩ := hCS i hi
      obtain ⟨_, hlen, _⟩ := World.cells?_some h1
      rw [← h2]
      congr 1
      apply List.ext_getElem?
      intro r
      by_cases hr : r < k
      · have := hdm i r hr
        simp [hr, this.1, Nat.mod_eq_of_lt hr, hlen]
      · simp [hr, hlen]

/-- Every element is k numbers. -/
def Nums (enc : TypeId × Value → H) (P : Program) (w : World) (base : Nat) (spare : Nat → Bool) (held : Bool) (e k : Nat) : Prop :=
  ∀ fuel cs x, DataW.trod enc P w base spare held fuel e cs = some x → ∀ r, r < k → ∃ n : Int, cs[r]? = some (.int .i64 n) ∧ -9223372036854775808 ≤ n ∧ n ≤ 9223372036854775807

theorem open_z {t e k bn fuel : Nat} {v : Value} {x : DataW H × List MemPlace} (ht : P.underlying t = some (.slice e)) (hce : P.cellsOf e = k) (hk : 0 < k) (hbe : P.bytesOf e = bn) (hn : Nums enc P w base spare held e k)
    (h : DataW.trod enc P w base spare held fuel t [v] = some x) (hfit : Fit P t x.1) :
    ∃ (nl : Bool) (n : Nat) (z : Nat → Int), SlZ w v nl n k z bn ∧ ∀ j, j < n * k → -9223372036854775808 ≤ z j ∧ z j ≤ 9223372036854775807 := by
  obtain ⟨nl, p, n, cap, F, D, m, h1, h2, h3, h4, h5, h6, h7⟩ := open_sl ht hce hk hbe h hfit
  obtain ⟨z, hz⟩ := choose_lt (α := Int) (n := n * k) (p := fun j y => F j = .int .i64 y ∧ -9223372036854775808 ≤ y ∧ y ≤ 9223372036854775807) (fun j hj => by
    have hi : j / k < n := (Nat.div_lt_iff_lt_mul hk).2 hj
    have hr : j % k < k := Nat.mod_lt _ hk
    obtain ⟨y, hy, hb⟩ := hn _ _ _ (h7 (j / k) hi).1 (j % k) hr
    rw [List.getElem?_map, List.getElem?_range hr] at hy
    simp only [Option.map_some, Option.some.injEq] at hy
    rw [show j / k * k + j % k = j by rw [Nat.mul_comm]; exact Nat.div_add_mod j k] at hy
    exact ⟨y, hy, hb⟩)
  exact ⟨nl, n, z, ⟨p, cap, h1, h2, h3, h4, h5, h6.congr (fun j hj => (hz j hj).1)⟩, fun j hj => (hz j hj).2⟩
end

section
variable {H : Type} {enc : TypeId × Value → H} {w : World} {base : Nat} {spare : Nat → Bool} {held : Bool}

theorem c_int : Try.prog.cellsOf 3 = 1 := by kernel_rfl
theorem c_int64 : Try.prog.cellsOf 2 = 1 := by kernel_rfl
theorem c_ins : Try.prog.cellsOf 73 = 4 := by kernel_rfl
theorem c_win : Try.prog.cellsOf 65 = 2 := by kernel_rfl
theorem c_chan : Try.prog.cellsOf 75 = 3 := by kernel_rfl
theorem c_cell : Try.prog.cellsOf 70 = 3 := by kernel_rfl
theorem c_row : Try.prog.cellsOf 63 = 1 := by kernel_rfl
theorem c_cfg : Try.prog.cellsOf 39 = 4 := by kernel_rfl
theorem c_code : Try.prog.cellsOf 68 = 1 := by kernel_rfl
theorem c_img : Try.prog.cellsOf 56 = 1 := by kernel_rfl
theorem c_cells : Try.prog.cellsOf 34 = 1 := by kernel_rfl
theorem c_table : Try.prog.cellsOf 35 = 1 := by kernel_rfl
theorem c_chans : Try.prog.cellsOf 36 = 1 := by kernel_rfl
theorem c_devs : Try.prog.cellsOf 37 = 1 := by kernel_rfl
theorem y_int : Try.prog.bytesOf 3 = 8 := by kernel_rfl
theorem y_int64 : Try.prog.bytesOf 2 = 8 := by kernel_rfl
theorem y_ins : Try.prog.bytesOf 73 = 32 := by kernel_rfl
theorem y_win : Try.prog.bytesOf 65 = 16 := by kernel_rfl
theorem y_chan : Try.prog.bytesOf 75 = 24 := by kernel_rfl
theorem y_cell : Try.prog.bytesOf 70 = 56 := by kernel_rfl
theorem y_row : Try.prog.bytesOf 63 = 24 := by kernel_rfl
theorem y_cfg : Try.prog.bytesOf 39 = 96 := by kernel_rfl

theorem num1 {t : Nat} (ht : Try.prog.underlying t = some (.int .i64)) : Nums enc Try.prog w base spare held t 1 := by
  intro fuel cs x h r hr
  obtain rfl : r = 0 := by omega
  obtain ⟨n, rfl, -, hw⟩ := DataW.trod_int ht h
  exact ⟨n, rfl, bounds_i64 hw⟩

/-- One field, a number. -/
theorem num_field {fuel t off c : Nat} {cs : List Value} {y : DataW H × List MemPlace} (ht : Try.prog.underlying t = some (.int .i64)) (hc : Try.prog.cellsOf t = c) (h1 : c = 1)
    (h : DataW.trod enc Try.prog w base spare held fuel t ((cs.drop off).take (Try.prog.cellsOf t)) = some y) : ∃ n : Int, cs[off]? = some (.int .i64 n) ∧ -9223372036854775808 ≤ n ∧ n ≤ 9223372036854775807 := by
  obtain ⟨n, e, -, hw⟩ := DataW.trod_int ht h
  rw [hc, h1] at e
  refine ⟨n, ?_, bounds_i64 hw⟩
  have := congrArg (fun l => l[0]?) e
  simpa using this

theorem nums_ins : Nums enc Try.prog w base spare held 73 4 := by
  intro fuel cs x h r hr
  obtain ⟨y0, y1, y2, y3, n, -, -, h0, h1, h2, h3⟩ := trod_struct4 Try.underlying73 h
  have : r = 0 ∨ r = 1 ∨ r = 2 ∨ r = 3 := by omega
  rcases this with rfl | rfl | rfl | rfl
  · exact num_field Try.underlying3 c_int rfl h0
  · exact num_field Try.underlying3 c_int rfl h1
  · exact num_field Try.underlying3 c_int rfl h2
  · exact num_field Try.underlying2 c_int64 rfl h3
theorem nums_chan : Nums enc Try.prog w base spare held 75 3 := by
  intro fuel cs x h r hr
  obtain ⟨y0, y1, y2, n, -, -, h0, h1, h2⟩ := trod_struct3 Try.underlying75 h
  have : r = 0 ∨ r = 1 ∨ r = 2 := by omega
  rcases this with rfl | rfl | rfl
  · exact num_field Try.underlying3 c_int rfl h0
  · exact num_field Try.underlying3 c_int rfl h1
  · exact num_field Try.underlying3 c_int rfl h2
theorem nums_win : Nums enc Try.prog w base spare held 65 2 := by
  intro fuel cs x h r hr
  obtain ⟨y0, y1, n, -, -, h0, h1⟩ := trod_struct2 Try.underlying65 h
  have : r = 0 ∨ r = 1 := by omega
  rcases this with rfl | rfl
  · exact num_field Try.underlying3 c_int rfl h0
  · exact num_field Try.underlying3 c_int rfl h1

/-- One cell: its code, its image, its limit. -/
structure CellIn (w : World) (a b d : Value) (x : (Bool × Nat × (Nat → Int)) × (Bool × Nat × (Nat → Int)) × Int) : Prop where
  code : SlZ w a x.1.1 x.1.2.1 4 x.1.2.2 32
  fits : ∀ j, j < x.1.2.1 * 4 → -9223372036854775808 ≤ x.1.2.2 j ∧ x.1.2.2 j ≤ 9223372036854775807
  img : SlZ w b x.2.1.1 x.2.1.2.1 1 x.2.1.2.2 8
  lim : d = .int .i64 x.2.2

theorem open_cell {fuel : Nat} {a b d : Value} {x : DataW H × List MemPlace} (h : DataW.trod enc Try.prog w base spare held fuel 70 [a, b, d] = some x) (hf : Fit Try.prog 70 x.1) : ∃ y, CellIn w a b d y := by
  obtain ⟨y0, y1, y2, n, rfl, -, h0, h1, h2⟩ := trod_struct3 Try.underlying70 h
  have f0 := fit_struct (j := 0) Try.underlying70 hf rfl rfl
  have f1 := fit_struct (j := 1) Try.underlying70 hf rfl rfl
  rw [c_code] at h0
  rw [c_img] at h1
  rw [c_int] at h2
  obtain ⟨nl, k, z, hz, hw⟩ := open_z Try.underlying68 c_ins (by omega) y_ins nums_ins h0 f0
  obtain ⟨nl2, k2, z2, hz2, _⟩ := open_z Try.underlying56 c_int64 (by omega) y_int64 (num1 Try.underlying2) h1 f1
  obtain ⟨l, e, -, -⟩ := DataW.trod_int Try.underlying3 h2
  exact ⟨((nl, k, z), (nl2, k2, z2), l), hz, hw, hz2, by simpa using e⟩

/-- One config. -/
theorem open_cfg {fuel : Nat} {a b d f : Value} {x : DataW H × List MemPlace} (h : DataW.trod enc Try.prog w base spare held fuel 39 [a, b, d, f] = some x) (hf : Fit Try.prog 39 x.1) : ∃ c : Cfg, CfgR w a b d f c ∧ CfgW c := by
  obtain ⟨y0, y1, y2, y3, n, rfl, -, h0, h1, h2, h3⟩ := trod_struct4 Try.underlying39 h
  have f0 := fit_struct (j := 0) Try.underlying39 hf rfl rfl
  have f1 := fit_struct (j := 1) Try.underlying39 hf rfl rfl
  have f2 := fit_struct (j := 2) Try.underlying39 hf rfl rfl
  have f3 := fit_struct (j := 3) Try.underlying39 hf rfl rfl
  rw [c_cells] at h0
  rw [c_table] at h1
  rw [c_chans] at h2
  rw [c_devs] at h3
  obtain ⟨l0, p0, n0, cap0, F0, D0, m0, a1, a2, a3, a4, a5, a6, a7⟩ := open_sl Try.underlying34 c_cell (by omega) y_cell h0 f0
  obtain ⟨l1, p1, n1, cap1, F1, D1, m1, b1, b2, b3, b4, b5, b6, b7⟩ := open_sl Try.underlying35 c_row (by omega) y_row h1 f1
  obtain ⟨l2, n2, z2, hz2, _⟩ := open_z Try.underlying36 c_chan (by omega) y_chan nums_chan h2 f2
  obtain ⟨l3, n3, z3, hz3, _⟩ := open_z Try.underlying37 c_int (by omega) y_int (num1 Try.underlying3) h3 f3
  obtain ⟨Y, hY⟩ := choose_lt (α := (Bool × Nat × (Nat → Int)) × (Bool × Nat × (Nat → Int)) × Int) (n := n0) (p := fun i y => CellIn w (F0 (i * 3)) (F0 (i * 3 + 1)) (F0 (i * 3 + 2)) y) (fun i hi => by
    obtain ⟨q1, q2⟩ := a7 i hi
    exact open_cell q1 q2)
  obtain ⟨R, hR⟩ := choose_lt (α := Bool × Nat × (Nat → Int)) (n := n1) (p := fun i y => SlZ w (F1 i) y.1 y.2.1 2 y.2.2 16) (fun i hi => by
    obtain ⟨q1, q2⟩ := b7 i hi
    have q1' : DataW.trod enc Try.prog w base spare held m1 63 [F1 i] = some (D1 i) := by simpa using q1
    obtain ⟨nl, k, z, hz, _⟩ := open_z Try.underlying63 c_win (by omega) y_win nums_win q1' q2
    exact ⟨(nl, k, z), hz⟩)
  refine ⟨⟨l0, n0, fun i => (Y i).2.2, fun i => (Y i).1.1, fun i => (Y i).1.2.1, fun i => (Y i).1.2.2, fun i => (Y i).2.1.1, fun i => (Y i).2.1.2.1, fun i => (Y i).2.1.2.2, l1, n1, fun i => (R i).1, fun i => (R i).2.1, fun i => (R i).2.2, l2, n2, z2, l3, n3, z3⟩, ⟨⟨p0, cap0, F0, a1, a2, a3, a4, a5, a6, fun i hi => ⟨(hY i hi).code, (hY i hi).img, (hY i hi).lim⟩⟩, ⟨p1, cap1, F1, b1, b2, b3, b4, b5, by simpa using b6, fun i hi => hR i hi⟩, hz2, hz3⟩, fun i hi j hj => (hY i hi).fits j hj⟩

/-- A list of configs. -/
theorem open_cfgs {fuel : Nat} {v : Value} {x : DataW H × List MemPlace} (h : DataW.trod enc Try.prog w base spare held fuel 22 [v] = some x) (hf : Fit Try.prog 22 x.1) :
    ∃ (p : Option Addr) (n cap : Nat) (V : Nat → Value) (cf : Nat → Cfg), v = .slice p n cap ∧ 96 * n ≤ 140737488355328 ∧ Sl w p (n * 4) V ∧ (∀ i, i < n → CfgR w (V (i * 4)) (V (i * 4 + 1)) (V (i * 4 + 2)) (V (i * 4 + 3)) (cf i)) ∧ ∀ i, i < n → CfgW (cf i) := by
  obtain ⟨l0, p0, n0, cap0, F0, D0, m0, a1, a2, a3, a4, a5, a6, a7⟩ := open_sl Try.underlying22 c_cfg (by omega) y_cfg h hf
  haveI : Inhabited Cfg := ⟨⟨true, 0, fun _ => 0, fun _ => true, fun _ => 0, fun _ _ => 0, fun _ => true, fun _ => 0, fun _ _ => 0, true, 0, fun _ => true, fun _ => 0, fun _ _ => 0, true, 0, fun _ => 0, true, 0, fun _ => 0⟩⟩
  obtain ⟨C, hC⟩ := choose_lt (α := Cfg) (n := n0) (p := fun i c => CfgR w (F0 (i * 4)) (F0 (i * 4 + 1)) (F0 (i * 4 + 2)) (F0 (i * 4 + 3)) c ∧ CfgW c) (fun i hi => by
    obtain ⟨q1, q2⟩ := a7 i hi
    exact open_cfg q1 q2)
  exact ⟨p0, n0, cap0, F0, C, a1, a5, a6, fun i hi => (hC i hi).1, fun i hi => (hC i hi).2⟩
end

end Go.Proofs.Ytdoghgnifkgfdaa
