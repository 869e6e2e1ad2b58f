/-
  chans.New: the net of a kernel: the ends of each channel, an empty queue and a sample that shows nothing for each.
-/
import Derived.Test.YtdoghgnifkgfdaaCellsNew
namespace Go.Proofs.Ytdoghgnifkgfdaa
open Go.RowKit

def endsL (z : Nat → Int) : Nat → List Value
  | 0 => []
  | k + 1 => endsL z k ++ [.int .i64 (z (k * 3 + 1)), .int .i64 (z (k * 3 + 2))]
def queuesL : Nat → List Value
  | 0 => []
  | k + 1 => queuesL k ++ [.slice none 0 0, .slice none 0 0, .int .i64 0]
def samplesL : Nat → List Value
  | 0 => []
  | k + 1 => samplesL k ++ [.int .i64 0, .int .i64 (-1), .int .i64 0, .bool false]

/-- The net under way, at K: k channels. -/
def NetMade (w : World) (K : Nat) (z : Nat → Int) (k : Nat) (wr : World) : Prop :=
  ∃ ve vq vs, Below w.heap.size w wr ∧ RowF wr K 3 148 (cells3 ve vq vs) ∧ wr.ownsRow (K + 1) 158 2 ve k (endsL z k) ∧
    wr.ownsRow (K + 1) 150 3 vq k (queuesL k) ∧ wr.ownsRow (K + 1) 152 4 vs k (samplesL k)

theorem info_ends : (Try.prog.info? 158).map (fun i => (i.zero, i.size, i.bytes)) = some (some (.agg #[.int .i64 0, .int .i64 0]), 2, 16) := by kernel_rfl
theorem info_queue : (Try.prog.info? 150).map (fun i => (i.zero, i.size, i.bytes)) = some (some (.agg #[.slice none 0 0, .slice none 0 0, .int .i64 0]), 3, 56) := by kernel_rfl
theorem info_sample : (Try.prog.info? 152).map (fun i => (i.zero, i.size, i.bytes)) = some (some (.agg #[.int .i64 0, .int .i64 0, .int .i64 0, .bool false]), 4, 32) := by kernel_rfl

/-- Lists of other elements lie in other blocks. -/
theorem own_apart {w : World} {b1 b2 e1 e2 s1 s2 n1 n2 : Nat} {v1 v2 : Value} {x1 x2 : List Value} (h1 : w.ownsRow b1 e1 s1 v1 n1 x1) (h2 : w.ownsRow b2 e2 s2 v2 n2 x2) (he : e1 ≠ e2) : v1.ownBlock = none ∨ v1.ownBlock ≠ v2.ownBlock := by
  rcases h1.2 with ⟨rfl, _⟩ | ⟨g, cap, cur, rfl, hb, hg, _⟩
  · exact .inl rfl
  · rcases h2.2 with ⟨rfl, _⟩ | ⟨g', cap', cur', rfl, hb', hg', _⟩
    · exact .inr (by simp [Value.ownBlock])
    · refine .inr fun e => ?_
      have : g = g' := by simpa [Value.ownBlock] using e
      subst this
      rw [hg] at hg'
      exact he (by cases hg'; rfl)

/-- What an append of one list and a store of it into the net's block leave of all. -/
theorem net_step {w wr wA wg : World} {K i : Nat} {v x : Value} {b e s n : Nat} {xs : List Value} (hK : w.heap.size ≤ K) (hb : Below w.heap.size w wr) (hA : Below wr.heap.size wr wA) (ho : wr.ownsRow (K + 1) e s v n xs) (hg : wA.grownBy wg v.ownBlock) :
    Below w.heap.size w (wg.setCell ⟨K, i, none⟩ x) ∧ (∀ u e' s' n' ys, e' ≠ e → wr.ownsRow (K + 1) e' s' u n' ys → (wg.setCell ⟨K, i, none⟩ x).ownsRow (K + 1) e' s' u n' ys) ∧ (∀ m t f, RowF wr K m t f → RowF wg K m t f) ∧ (b < K → ∀ m t f, RowF wr b m t f → RowF (wg.setCell ⟨K, i, none⟩ x) b m t f) := by
  have hl : ∀ j, j < K + 1 → some j ≠ v.ownBlock := fun j hj => own_ge ho hj
  have hbl : ∀ j, j < wr.heap.size → j < K + 1 → wg.heap[j]? = wr.heap[j]? := fun j hj hj' => (hg.block j (Nat.lt_of_lt_of_le hj hA.size) (hl j hj')).trans (hA.block j hj)
  refine ⟨Below.setCell ⟨hg.os.trans (hA.os.trans hb.os), hg.tape.trans (hA.tape.trans hb.tape), hg.output.trans (hA.output.trans hb.output), Nat.le_trans hb.size (Nat.le_trans hA.size hg.size), fun j hj => (hbl j (Nat.lt_of_lt_of_le hj hb.size) (by omega)).trans (hb.block j hj)⟩ hK _, fun u e' s' n' ys he hu => ?_, fun m t f hr => hr.of_heap (hbl K hr.lt (by omega)), fun hbK m t f hr => (hr.of_heap (hbl b hr.lt (by omega))).other _ _ (by simp; omega)⟩
  exact ownsRow_setCell_below ((own_below hu hA).kept hg (own_apart (own_below hu hA) (own_below ho hA) he)) (by simp) _

set_option maxRecDepth 100000 in
set_option maxHeartbeats 4000000 in
theorem chansNew_any (p : Option Addr) (n cap : Nat) (z : Nat → Int) (w : World) (hs : Sl w p (n * 3) (fun j => .int .i64 (z j))) (hn : n ≤ 8) :
    Calls Try.prog 42 #[.slice p n cap] w fun e w' => ∃ kb, e = .returned (.pointer (some ⟨kb, 0, none⟩)) ∧ w.heap.size ≤ kb ∧ NetMade w kb z n w' := by
  have S0 : Hid (Sl w p (n * 3) (fun j => .int .i64 (z j))) := hs
  clear hs
  go_enter Try.func42, Try.ntmps42
  go_wp2_with fail
  have N0 : Hid (NetMade w w.heap.size z 0 (w.alloc (.cells #[.slice none 0 0, .slice none 0 0, .slice none 0 0] 148))) :=
    ⟨_, _, _, (Below.refl _ _).alloc (Nat.le_refl _) _, row3 w _ _ _ _, World.ownsRow_nil _ _ _ _, World.ownsRow_nil _ _ _ _, World.ownsRow_nil _ _ _ _⟩
  generalize (w.alloc (.cells #[.slice none 0 0, .slice none 0 0, .slice none 0 0] 148)) = w0 at *
  have hK : w.heap.size ≤ w.heap.size := Nat.le_refl _
  have S1 : Hid (Sl w p (n * 3) (fun j => .int .i64 (z j))) := S0.out
  clear S0
  have HW : Hid (∀ wr, Below w.heap.size w wr → Sl wr p (n * 3) (fun j => .int .i64 (z j))) := fun wr h => S1.out.below h
  generalize hKd : w.heap.size = K at *
  go_loopw [10] (fun i wr => ∃ k : Nat, k ≤ n ∧ i = .int .i64 k ∧ Hid (NetMade w K z k wr)) (fun i _ => n - (intOf i).toNat)
  case atStart => exact ⟨0, Nat.zero_le _, rfl, N0⟩
  case round =>
    obtain ⟨k, hk, rfl, HR⟩ := hrel
    obtain ⟨ve, vq, vs, hbr, hrow, ho1, ho2, ho3⟩ := HR.out
    have HBr : Hid (Below K w wr) := hKd ▸ hbr
    have HRo : Hid (RowF wr K 3 148 (cells3 ve vq vs)) := hrow
    have O1 : Hid (wr.ownsRow (K + 1) 158 2 ve k (endsL z k)) := ho1
    have O2 : Hid (wr.ownsRow (K + 1) 150 3 vq k (queuesL k)) := ho2
    have O3 : Hid (wr.ownsRow (K + 1) 152 4 vs k (samplesL k)) := ho3
    clear hbr hrow ho1 ho2 ho3 HR
    by_cases hlt : k < n
    · obtain ⟨b, off, rfl, hc⟩ := (HW.out wr (hKd ▸ HBr.out)).at (by omega)
      have c0 := hc (k * 3) (by omega)
      have c1 := hc (k * 3 + 1) (by omega)
      have c2 := hc (k * 3 + 2) (by omega)
      rw [← Nat.add_assoc] at c1 c2
      clear hc
      have hKr : K < wr.heap.size := HRo.out.lt
      obtain ⟨z0, z1, z2⟩ := HRo.out.at3
      go_wp2_with fail
      have HBp : Hid (Below wr.heap.size wr (wr.alloc (.cells #[.int .i64 (z (k * 3)), .int .i64 (z (k * 3 + 1)), .int .i64 (z (k * 3 + 2))] 75))) := (Below.refl _ _).alloc (Nat.le_refl _) _
      have hsp : (wr.alloc (.cells #[.int .i64 (z (k * 3)), .int .i64 (z (k * 3 + 1)), .int .i64 (z (k * 3 + 2))] 75)).heap.size = wr.heap.size + 1 := by simp
      obtain ⟨e0, e1, e2⟩ := (row3 wr (.int .i64 (z (k * 3))) (.int .i64 (z (k * 3 + 1))) (.int .i64 (z (k * 3 + 2))) 75).at3
      have eK := (HBp.out.cell (p := ⟨K, 0, none⟩) hKr).trans z0
      generalize (wr.alloc (.cells #[.int .i64 (z (k * 3)), .int .i64 (z (k * 3 + 1)), .int .i64 (z (k * 3 + 2))] 75)) = wp at *
      have hKp : K < wp.heap.size := by omega
      have eKa : (wp.alloc (.cells #[.int .i64 (z (k * 3 + 1)), .int .i64 (z (k * 3 + 2))] 158)).cell? ⟨K, 0, none⟩ = some ve := (((Below.refl _ wp).alloc (Nat.le_refl _) _).cell (p := ⟨K, 0, none⟩) hKp).trans eK
      go_region_law
        (refine step_append_info rfl _ _ 144 rfl (K + 1) 158 _ 2 16 Try.underlying144 info_ends rfl (by omega) ve k (endsL z k) rfl (own_below O1.out (by exact (HBp.out.drew.alloc (by show wr.heap.size ≤ wp.heap.size; omega) _))) (wr.heap.size + 1) [.int .i64 (z (k * 3 + 1)), .int .i64 (z (k * 3 + 2))] 158 rfl rfl (by exact alloc_at hsp) (by simp [Value.oneCell']) (by simp only [maxLen]; omega) (by omega) (by simp; omega) ?_
         intro g cap1 wg hown1 hgrow1 hat hlt1
         have HS : Hid _ := net_step (w := w) (wr := wr) (K := K) (i := 0) (x := .slice (some ⟨g, 0, none⟩) (k + 1 : Nat) cap1) (b := 0) (by omega) (hKd ▸ HBr.out) (by exact (HBp.out.drew.alloc (by show wr.heap.size ≤ wp.heap.size; omega) _)) O1.out hgrow1
         have HR1 : Hid (RowF wg K 3 148 (cells3 ve vq vs)) := HS.out.2.2.1 _ _ _ HRo.out
         have HO1 : Hid (wg.ownsRow (K + 1) 158 2 (.slice (some ⟨g, 0, none⟩) (k + 1 : Nat) cap1) (k + 1) (endsL z k ++ [.int .i64 (z (k * 3 + 1)), .int .i64 (z (k * 3 + 2))])) := hown1
         have q0 := HR1.out.at3.1
         have q0f := HR1.out.frozen 0
         clear hown1 hgrow1 hat hlt1 eK eKa)
      all_goals
        have B3 : Hid (Below K w (wg.setCell ⟨K, 0, none⟩ (.slice (some ⟨g, 0, none⟩) (k + 1 : Nat) cap1))) := hKd ▸ HS.out.1
        have R3 : Hid (RowF (wg.setCell ⟨K, 0, none⟩ (.slice (some ⟨g, 0, none⟩) (k + 1 : Nat) cap1)) K 3 148 (cells3 (.slice (some ⟨g, 0, none⟩) (k + 1 : Nat) cap1) vq vs)) := (HR1.out.set3 _).1
        have P1 : Hid ((wg.setCell ⟨K, 0, none⟩ (.slice (some ⟨g, 0, none⟩) (k + 1 : Nat) cap1)).ownsRow (K + 1) 158 2 (.slice (some ⟨g, 0, none⟩) (k + 1 : Nat) cap1) (k + 1) (endsL z (k + 1))) := ownsRow_setCell_below HO1.out (by simp) _
        have P2 : Hid ((wg.setCell ⟨K, 0, none⟩ (.slice (some ⟨g, 0, none⟩) (k + 1 : Nat) cap1)).ownsRow (K + 1) 150 3 vq k (queuesL k)) := HS.out.2.1 _ _ _ _ _ (by decide) O2.out
        have P3 : Hid ((wg.setCell ⟨K, 0, none⟩ (.slice (some ⟨g, 0, none⟩) (k + 1 : Nat) cap1)).ownsRow (K + 1) 152 4 vs k (samplesL k)) := HS.out.2.1 _ _ _ _ _ (by decide) O3.out
        clear q0 q0f HS HR1 HO1 O1 O2 O3 HRo HBr z0 z1 z2 e0 e1 e2 HBp hsp c0 c1 c2 hKp hKr
        generalize wg.setCell ⟨K, 0, none⟩ (.slice (some ⟨g, 0, none⟩) (k + 1 : Nat) cap1) = w3 at *
        generalize (Value.slice (some ⟨g, 0, none⟩) (k + 1 : Nat) cap1) = ve at *
        clear wg
        obtain ⟨z0, z1, z2⟩ := R3.out.at3
        have hK3 : K < w3.heap.size := R3.out.lt
        have A3 : Hid (Below w3.heap.size w3 (w3.alloc (.cells #[.slice none 0 0, .slice none 0 0, .int .i64 0] 150))) := (Below.refl _ _).alloc (Nat.le_refl _) _
        go_wp2_with
          (first
            | (refine wpList_append_info _ rfl _ _ 145 rfl (K + 1) 150 _ 3 56 Try.underlying145 info_queue rfl (by omega) vq k (queuesL k) rfl (own_below P2.out A3.out) w3.heap.size [.slice none 0 0, .slice none 0 0, .int .i64 0] 150 rfl rfl (by exact alloc_at rfl) (by simp [Value.oneCell']) (by simp only [maxLen]; omega) (by omega) (by simp; omega) ?_
               intro g2 cap2 wh hown1 hgrow1 hat hlt1
               have HS : Hid _ := net_step (w := w) (wr := w3) (K := K) (i := 1) (x := .slice (some ⟨g2, 0, none⟩) (k + 1 : Nat) cap2) (b := 0) (by omega) (hKd ▸ B3.out) A3.out P2.out hgrow1
               have HR1 : Hid (RowF wh K 3 148 (cells3 ve vq vs)) := HS.out.2.2.1 _ _ _ R3.out
               have HO1 : Hid (wh.ownsRow (K + 1) 150 3 (.slice (some ⟨g2, 0, none⟩) (k + 1 : Nat) cap2) (k + 1) (queuesL k ++ [.slice none 0 0, .slice none 0 0, .int .i64 0])) := hown1
               have q0 := HR1.out.at3.2.1
               have q0f := HR1.out.frozen 1
               have q2 := HR1.out.at3.2.2
               have hKh : K < wh.heap.size := HR1.out.lt
               have B4 : Hid (Below K w (wh.setCell ⟨K, 1, none⟩ (.slice (some ⟨g2, 0, none⟩) (k + 1 : Nat) cap2))) := hKd ▸ HS.out.1
               have R4 : Hid (RowF (wh.setCell ⟨K, 1, none⟩ (.slice (some ⟨g2, 0, none⟩) (k + 1 : Nat) cap2)) K 3 148 (cells3 ve (.slice (some ⟨g2, 0, none⟩) (k + 1 : Nat) cap2) vs)) := (HR1.out.set3 _).2.1
               have T2 : Hid ((wh.setCell ⟨K, 1, none⟩ (.slice (some ⟨g2, 0, none⟩) (k + 1 : Nat) cap2)).ownsRow (K + 1) 150 3 (.slice (some ⟨g2, 0, none⟩) (k + 1 : Nat) cap2) (k + 1) (queuesL (k + 1))) := ownsRow_setCell_below HO1.out (by simp) _
               have T1 : Hid ((wh.setCell ⟨K, 1, none⟩ (.slice (some ⟨g2, 0, none⟩) (k + 1 : Nat) cap2)).ownsRow (K + 1) 158 2 ve (k + 1) (endsL z (k + 1))) := HS.out.2.1 _ _ _ _ _ (by decide) P1.out
               have T3 : Hid ((wh.setCell ⟨K, 1, none⟩ (.slice (some ⟨g2, 0, none⟩) (k + 1 : Nat) cap2)).ownsRow (K + 1) 152 4 vs k (samplesL k)) := HS.out.2.1 _ _ _ _ _ (by decide) P3.out
               have A4 : Hid (Below (wh.setCell ⟨K, 1, none⟩ (.slice (some ⟨g2, 0, none⟩) (k + 1 : Nat) cap2)).heap.size (wh.setCell ⟨K, 1, none⟩ (.slice (some ⟨g2, 0, none⟩) (k + 1 : Nat) cap2)) ((wh.setCell ⟨K, 1, none⟩ (.slice (some ⟨g2, 0, none⟩) (k + 1 : Nat) cap2)).alloc (.cells #[.int .i64 0, .int .i64 (-1), .int .i64 0, .bool false] 152))) := (Below.refl _ _).alloc (Nat.le_refl _) _
               clear hown1 hgrow1 hat hlt1)
            | (refine wpList_append_info _ rfl _ _ 146 rfl (K + 1) 152 _ 4 32 Try.underlying146 info_sample rfl (by omega) vs k (samplesL k) rfl (own_below T3.out A4.out) wh.heap.size [.int .i64 0, .int .i64 (-1), .int .i64 0, .bool false] 152 rfl rfl (by exact alloc_at (size_setCell _ _ _)) (by simp [Value.oneCell']) (by simp only [maxLen]; omega) (by omega) (by simp; omega) ?_
               intro g3 cap3 wi hown1 hgrow1 hat hlt1
               have HS3 : Hid _ := net_step (w := w) (wr := (wh.setCell ⟨K, 1, none⟩ (.slice (some ⟨g2, 0, none⟩) (k + 1 : Nat) cap2))) (K := K) (i := 2) (x := .slice (some ⟨g3, 0, none⟩) (k + 1 : Nat) cap3) (b := 0) (by omega) (hKd ▸ B4.out) A4.out T3.out hgrow1
               have HR3 : Hid (RowF wi K 3 148 (cells3 ve (.slice (some ⟨g2, 0, none⟩) (k + 1 : Nat) cap2) vs)) := HS3.out.2.2.1 _ _ _ R4.out
               have HO3 : Hid (wi.ownsRow (K + 1) 152 4 (.slice (some ⟨g3, 0, none⟩) (k + 1 : Nat) cap3) (k + 1) (samplesL k ++ [.int .i64 0, .int .i64 (-1), .int .i64 0, .bool false])) := hown1
               have HN : Hid (NetMade w K z (k + 1) (wi.setCell ⟨K, 2, none⟩ (.slice (some ⟨g3, 0, none⟩) (k + 1 : Nat) cap3))) :=
                 ⟨_, _, _, HS3.out.1, (HR3.out.set3 _).2.2, HS3.out.2.1 _ _ _ _ _ (by decide) T1.out, HS3.out.2.1 _ _ _ _ _ (by decide) T2.out, ownsRow_setCell_below HO3.out (by simp) _⟩
               clear q0 q0f q2
               have q0 := HR3.out.at3.2.2
               have q0f := HR3.out.frozen 2
               clear hown1 hgrow1 hat hlt1))
        exact ⟨⟨k + 1, by omega, by go_num, HN⟩, by simp [intOf]; omega⟩
    · obtain rfl : k = n := by omega
      clear hlt hk
      go_wp2_with fail
      go_ret
      exact ⟨_, rfl, by omega, _, _, _, hKd ▸ HBr.out, HRo.out, O1.out, O2.out, O3.out⟩
end Go.Proofs.Ytdoghgnifkgfdaa
