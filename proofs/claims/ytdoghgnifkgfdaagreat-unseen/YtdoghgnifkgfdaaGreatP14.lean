import Derived.Test.YtdoghgnifkgfdaaGreatP12
import Derived.Test.YtdoghgnifkgfdaaGreatP13
set_option maxRecDepth 100000
set_option maxHeartbeats 16000000
namespace Go.Proofs.YtdoghgnifkgfdaaGreat
open Go.RowKit
def YbX (L:List Int) (j:Nat):Value:=.int .i64 (L.getD j 0)
theorem Yd8 (w:World) (L:List Int) (t:Nat):RowF (w.alloc (.cells (L.map (Value.int .i64 ·)).toArray t)) w.heap.size L.length t (YbX L):=by
 have h:=RowF.new w (L.map (Value.int .i64 ·)).toArray t (YbX L) (fun j hj=>by
  have hj:j<L.length:=by simpa using hj
  unfold YbX;simp [hj])
 simpa using h
def Yck (b:Nat) (j:Nat):Value:=if j=0 then .slice (some ⟨b,0,none⟩) 4 4 else if j=1 then .slice (some ⟨b+1,0,none⟩) 3 3 else .slice (some ⟨b+1+1,0,none⟩) 4 4
theorem table_any (w:World):
  Calls Tryz.prog 24 #[] w fun e w'=>e=.returned (.slice (some ⟨w.heap.size+1+1+1,0,none⟩) 3 3)∧Below w.heap.size w w'∧w'.heap.size=w.heap.size+1+1+1+1∧RowF w' w.heap.size 8 102 (YbX (tabL 0))∧RowF w' (w.heap.size+1) 6 102 (YbX (tabL 1))∧RowF w' (w.heap.size+1+1) 8 102 (YbX (tabL 2))∧RowF w' (w.heap.size+1+1+1) 3 100 (Yck w.heap.size):=by
 go_enter Tryz.func24,Tryz.ntmps24
 go_wp2_with fail
 go_ret;have x0:=(((Yd8 w (tabL 0) 102).alloc (.cells #[.int .i64 3,.int .i64 5,.int .i64 1,.int .i64 1,.int .i64 0,.int .i64 30] 102)).alloc (.cells #[.int .i64 2,.int .i64 40,.int .i64 0,.int .i64 2,.int .i64 3,.int .i64 7,.int .i64 2,.int .i64 6] 102)).alloc (.cells #[.slice (some ⟨w.heap.size,0,none⟩) 4 4,.slice (some ⟨w.heap.size+1,0,none⟩) 3 3,.slice (some ⟨w.heap.size+1+1,0,none⟩) 4 4] 100);have x1:=((Yd8 (w.alloc (.cells #[.int .i64 0,.int .i64 9,.int .i64 1,.int .i64 14,.int .i64 2,.int .i64 3,.int .i64 3,.int .i64 20] 102)) (tabL 1) 102).alloc (.cells #[.int .i64 2,.int .i64 40,.int .i64 0,.int .i64 2,.int .i64 3,.int .i64 7,.int .i64 2,.int .i64 6] 102)).alloc (.cells #[.slice (some ⟨w.heap.size,0,none⟩) 4 4,.slice (some ⟨w.heap.size+1,0,none⟩) 3 3,.slice (some ⟨w.heap.size+1+1,0,none⟩) 4 4] 100);have x2:=(Yd8 ((w.alloc (.cells #[.int .i64 0,.int .i64 9,.int .i64 1,.int .i64 14,.int .i64 2,.int .i64 3,.int .i64 3,.int .i64 20] 102)).alloc (.cells #[.int .i64 3,.int .i64 5,.int .i64 1,.int .i64 1,.int .i64 0,.int .i64 30] 102)) (tabL 2) 102).alloc (.cells #[.slice (some ⟨w.heap.size,0,none⟩) 4 4,.slice (some ⟨w.heap.size+1,0,none⟩) 3 3,.slice (some ⟨w.heap.size+1+1,0,none⟩) 4 4] 100);have x3:=RowF.new (((w.alloc (.cells #[.int .i64 0,.int .i64 9,.int .i64 1,.int .i64 14,.int .i64 2,.int .i64 3,.int .i64 3,.int .i64 20] 102)).alloc (.cells #[.int .i64 3,.int .i64 5,.int .i64 1,.int .i64 1,.int .i64 0,.int .i64 30] 102)).alloc (.cells #[.int .i64 2,.int .i64 40,.int .i64 0,.int .i64 2,.int .i64 3,.int .i64 7,.int .i64 2,.int .i64 6] 102)) #[.slice (some ⟨w.heap.size,0,none⟩) 4 4,.slice (some ⟨w.heap.size+1,0,none⟩) 3 3,.slice (some ⟨w.heap.size+1+1,0,none⟩) 4 4] 100 (Yck w.heap.size) (fun j hj=>by
  have:j=0∨j=1∨j=2:=by simp at hj;omega
  rcases this with rfl|rfl|rfl<;>rfl)
 simp only [World.size_alloc] at x1 x2 x3;exact ⟨rfl,((((Below.refl _ _).alloc (Nat.le_refl _) _).alloc (by simp) _).alloc (by simp;omega) _).alloc (by simp;omega) _,by simp,x0,x1,x2,x3⟩
def insL (z:Nat→Int) (k:Nat):List Value:=(List.range (k*2)).map fun j=>.int .i64 (if j % 2=0 then ((j / 2:Nat):Int) else z (j / 2))
theorem Yel (z:Nat→Int) (k:Nat):insL z (k+1)=insL z k++[.int .i64 (k:Int),.int .i64 (z k)]:=by
 unfold insL;rw [show (k+1)*2=k*2+1+1 by omega,List.range_succ,List.range_succ];simp only [List.map_append,List.map_cons,List.map_nil,List.append_assoc,List.cons_append,List.nil_append];rw [show k*2 % 2=0 by omega,show (k*2+1) % 2=1 by omega,show k*2 / 2=k by omega,show (k*2+1) / 2=k by omega];rfl
theorem ownL {w:World} {b e size n:Nat} {v:Value} {xs:List Value} (h:w.ownsRow (b+1) e size v n xs):w.ownsRow b e size v n xs:=by
 rcases h with ⟨hl,hv|⟨g,cap,cur,hv,hg,r⟩⟩
 ·exact ⟨hl,.inl hv⟩
 ·exact ⟨hl,.inr ⟨g,cap,cur,hv,by omega,r⟩⟩
theorem Yf5:(Tryz.prog.info? 59).map (fun i=>(i.zero,i.size,i.bytes))=some (some (.agg #[.int .i64 0,.int .i64 0]),2,16):=by kernel_rfl
theorem Yeu (p:Option Addr) (n c:Nat) (z:Nat→Int) (w:World) (hs:Sl w p n (fun j=>.int .i64 (z j))):
  Calls Tryz.prog 14 #[.agg #[.slice p n c]] w fun e w'=>∃v,e=.returned v∧Below w.heap.size w w'∧w'.ownsRow w.heap.size 59 2 v (min n 4) (insL z (min n 4)):=by
 have HS:Hid (Sl w p n (fun j=>.int .i64 (z j))):=hs;clear hs
 go_enter Tryz.func14,Tryz.ntmps14
 go_wp2_with fail
 go_loopw [3,4] (fun l i wr=>∃(k:Nat) (pl:Option Addr) (cl:Nat),k≤n∧k≤4∧i=.int .i64 k∧l=.slice pl k cl∧Hid (wr.ownsRow (w.heap.size+1) 59 2 (.slice pl k cl) k (insL z k))∧Hid (Below w.heap.size w wr∧w.heap.size+1≤wr.heap.size∧wr.cell? ⟨w.heap.size,0,none⟩=some (.slice p n c))) (fun _ i _=>4-(intOf i).toNat)
 case atStart=>exact ⟨0,none,0,Nat.zero_le _,Nat.zero_le _,rfl,rfl,World.ownsRow_nil _ _ _ _,(Below.refl _ _).alloc (Nat.le_refl _) _,by simp,by simp⟩
 case round=>
  obtain ⟨k,pl,cl,hk,hk4,rfl,rfl,HO,HB⟩:=hrel;obtain ⟨hB,hsz,hcl⟩:=HB.out;have HBB:Hid (Below w.heap.size w wr):=hB;clear hB;by_cases hlt:k<n
  ·have hli:(k:Int)<(n:Int):=by omega
   by_cases h4:k<4
   ·have h4i:(k:Int)<4:=by omega
    obtain ⟨b,o,rfl,hc⟩:=(HS.out.below HBB.out).at (by omega);have c0:=hc k hlt;clear hc;obtain ⟨zk,HZK⟩:∃zk,Hid (z k=zk):=⟨_,rfl⟩;rw [HZK.out] at c0;have OW:Hid (∀a,(wr.alloc a).ownsRow (w.heap.size+1) 59 2 (.slice pl k cl) k (insL z k)):=fun a=>own_below HO.out ((Below.refl _ _).alloc (Nat.le_refl _) a);have HSz:Hid (∀a,w.heap.size+1≤(wr.alloc a).heap.size):=fun a=>by simp;omega
    go_wp2_with (at_builtin;refine YX _ rfl _ _ 29 rfl (w.heap.size+1) 59 _ 2 16 Tryz.underlying29 Yf5 rfl (by omega) (.slice pl k cl) k (insL z k) rfl (by exact OW.out _) wr.heap.size [_,_] 59 rfl rfl (by exact alloc_at rfl) (by intro u hu;simp at hu;rcases hu with rfl|rfl<;>rfl) (by simp only [maxLen];omega) (by omega) (by exact HSz.out _) ?_)
    intro g cp w1 hown hgrow _ _;rw [←HZK.out,←Yel] at hown;have HO2:Hid (w1.ownsRow (w.heap.size+1) 59 2 (.slice (some ⟨g,0,none⟩) (k+1) cp) (k+1) (insL z (k+1))):=hown;have hne:some w.heap.size≠(Value.slice pl k cl).ownBlock:=fun e=>by have:=(HO.out.lt _ e.symm).1;omega
    have HB2:Hid (Below w.heap.size w w1∧w.heap.size+1≤w1.heap.size∧w1.cell? ⟨w.heap.size,0,none⟩=some (.slice (some ⟨b,o,none⟩) n c)):=⟨(HBB.out.alloc HBB.out.size _).grown hgrow (by simp;omega) (fun j hj=>by have:=(HO.out.lt j hj).1;omega),by have:=hgrow.size;simp at this;omega,(hgrow.cell_far ⟨w.heap.size,0,none⟩ (by show w.heap.size<_;simp;omega) hne).trans (((((Below.refl wr.heap.size wr).alloc (Nat.le_refl _) _).cell (p:=⟨w.heap.size,0,none⟩) (by show w.heap.size<wr.heap.size;omega))).trans hcl)⟩;clear hown hgrow hne hcl;go_wp2_with fail
    exact ⟨⟨k+1,some ⟨g,0,none⟩,cp,by omega,by omega,by go_num,by simp,HO2,HB2⟩,by simp [intOf];omega⟩
   ·obtain rfl:k=4:=by omega
    have e:min n 4=4:=by omega
    have HO2:Hid (wr.ownsRow (w.heap.size+1) 59 2 (.slice pl 4 cl) (min n 4) (insL z (min n 4))):=by rw [e];exact HO.out
    clear e;go_wp2_with fail
    go_ret;exact ⟨_,rfl,HBB.out,ownL HO2.out⟩
  ·obtain rfl:k=n:=by omega
   have e:min k 4=k:=by omega
   have HO2:Hid (wr.ownsRow (w.heap.size+1) 59 2 (.slice pl k cl) (min k 4) (insL z (min k 4))):=by rw [e];exact HO.out
   clear e;go_wp2_with fail
   go_ret;exact ⟨_,rfl,HBB.out,ownL HO2.out⟩
structure CfW (w wx:World) (V:Nat→Value) (B3 BT:Nat) (v0 vw vd:Value) (z:Nat→Int) (k:Nat):Prop where
 bel:Below w.heap.size w wx
 r0:RowF wx w.heap.size 14 39 V
 r1:RowF wx (w.heap.size+1) 4 28 (Yc (.slice none 0 0) (.slice none 0 0) (.slice none 0 0) (.slice none 0 0))
 r3:RowF wx B3 4 28 (Yc v0 (.slice (some ⟨BT+1+1+1,0,none⟩) 3 3) vw vd)
 t0:RowF wx BT 8 102 (YbX (tabL 0))
 t1:RowF wx (BT+1) 6 102 (YbX (tabL 1))
 t2:RowF wx (BT+1+1) 8 102 (YbX (tabL 2))
 t3:RowF wx (BT+1+1+1) 3 100 (Yck BT)
 ch:wx.ownsRow (w.heap.size+2) 138 3 vw k (YbZ z k)
 hb:w.heap.size+2≤B3∧w.heap.size+2≤BT
structure CfP (w wx:World) (V:Nat→Value) (BT:Nat) (vw:Value) (z:Nat→Int) (k:Nat):Prop where
 bel:Below w.heap.size w wx
 r0:RowF wx w.heap.size 14 39 V
 r1:RowF wx (w.heap.size+1) 4 28 (Yc (.slice none 0 0) (.slice none 0 0) (.slice none 0 0) (.slice none 0 0))
 t0:RowF wx BT 8 102 (YbX (tabL 0))
 t1:RowF wx (BT+1) 6 102 (YbX (tabL 1))
 t2:RowF wx (BT+1+1) 8 102 (YbX (tabL 2))
 t3:RowF wx (BT+1+1+1) 3 100 (Yck BT)
 ch:wx.ownsRow (w.heap.size+2) 138 3 vw k (YbZ z k)
 hb:w.heap.size+2≤BT
section
variable {w wx:World} {V:Nat→Value} {B3 BT k:Nat} {v0 vw vd:Value} {z:Nat→Int}
theorem CfP.keep {wy:World} (h:CfP w wx V BT vw z k) (hk:∀b,b<wx.heap.size→b≠B3→wy.heap[b]?=wx.heap[b]?) (hB:Below w.heap.size w wy) (hb:w.heap.size+2≤B3) {a b c d:Value} (hr:RowF wx B3 4 28 (Yc a b c d)∨wx.heap.size≤B3) (hr3:RowF wy B3 4 28 (Yc v0 (.slice (some ⟨BT+1+1+1,0,none⟩) 3 3) vw vd)):CfW w wy V B3 BT v0 vw vd z k:=by
 have ne:∀{g m t:Nat} {f:Nat→Value},RowF wx g m t f→t≠28→g≠B3:=fun {g m t f} hg ht e=>by
  subst e;rcases hr with hr|hr
  ·obtain ⟨cs,h1,_⟩:=hg;obtain ⟨cs',h2,_⟩:=hr;rw [h1] at h2;injection h2 with h2
   injection h2 with _ h2
   exact ht h2
  ·have:=hg.lt;omega
 have own:wy.ownsRow (w.heap.size+2) 138 3 vw k (YbZ z k):=Yc6 h.ch fun g hg=>hk g (h.ch.lt g hg).2 (fun e=>by
  subst e;rcases hr with hr|hr
  ·exact YbW h.ch hr (by decide) hg
  ·have:=(h.ch.lt _ hg).2;omega)
 exact ⟨hB,h.r0.of_heap (hk _ h.r0.lt (by omega)),h.r1.of_heap (hk _ h.r1.lt (by omega)),hr3,h.t0.of_heap (hk _ h.t0.lt (ne h.t0 (by decide))),h.t1.of_heap (hk _ h.t1.lt (ne h.t1 (by decide))),h.t2.of_heap (hk _ h.t2.lt (ne h.t2 (by decide))),h.t3.of_heap (hk _ h.t3.lt (ne h.t3 (by decide))),own,hb,h.hb⟩
theorem CfP.last (h:CfP w wx V BT vw z k) (hb:w.heap.size+2≤wx.heap.size):CfW w (wx.alloc (.cells #[v0,.slice (some ⟨BT+1+1+1,0,none⟩) 3 3,vw,vd] 28)) V wx.heap.size BT v0 vw vd z k:=
 h.keep (a:=v0) (b:=v0) (c:=v0) (d:=v0) (fun _ hb _=>heap_alloc_old wx _ hb) (h.bel.alloc h.bel.size _) hb (.inr (Nat.le_refl _)) (row4 wx _ _ _ _ _)
theorem CfP.set {a b c d:Value} (h:CfP w wx V BT vw z k) (hr:RowF wx B3 4 28 (Yc a b c d)) (hb:w.heap.size+2≤B3):CfW w ((((wx.setCell ⟨B3,0,none⟩ v0).setCell ⟨B3,1,none⟩ (.slice (some ⟨BT+1+1+1,0,none⟩) 3 3)).setCell ⟨B3,2,none⟩ vw).setCell ⟨B3,3,none⟩ vd) V B3 BT v0 vw vd z k:=
 h.keep (fun b _ hn=>Y0W wx B3 _ _ _ _ b hn) (Y0b h.bel (by omega) _ _ _ _) hb (.inl hr) (((((hr.set 0 v0).set 1 (.slice (some ⟨BT+1+1+1,0,none⟩) 3 3)).set 2 vw).set 3 vd).congr fun j hj=>by
  have:j=0∨j=1∨j=2∨j=3:=by omega
  rcases this with rfl|rfl|rfl|rfl<;>rfl)
end
theorem Yds {w w':World} {A:Nat→Option Addr} {P:Pl} (h:Yc4 w A P) (hb:Below w.heap.size w w'):Yc4 w' A P:=
 ⟨fun i hi=>⟨(h.code i hi).1.below hb,(h.code i hi).2⟩,⟨h.ways.1.below hb,h.ways.2⟩,⟨h.devs.1.below hb,h.devs.2⟩,h.lim⟩
theorem YcB {n m:Nat} {a b c:World} (h:Below n a b) (k:Below m b c) (hn:n≤m):Below n a c:=
 ⟨k.os.trans h.os,k.tape.trans h.tape,k.output.trans h.output,Nat.le_trans h.size k.size,fun x hx=>(k.block x (by omega)).trans (h.block x hx)⟩
theorem Yd4 {w W1 wt X ww:World} {V:Nat→Value} {vw:Value} {z:Nat→Int} {k BT:Nat} (hB:Below w.heap.size w W1) (hBT:W1.heap.size=BT) (hs:w.heap.size+2≤BT) (r0:RowF W1 w.heap.size 14 39 V) (r1:RowF W1 (w.heap.size+1) 4 28 (Yc (.slice none 0 0) (.slice none 0 0) (.slice none 0 0) (.slice none 0 0)))
  (hT:Below W1.heap.size W1 wt∧wt.heap.size=W1.heap.size+1+1+1+1∧RowF wt W1.heap.size 8 102 (YbX (tabL 0))∧RowF wt (W1.heap.size+1) 6 102 (YbX (tabL 1))∧RowF wt (W1.heap.size+1+1) 8 102 (YbX (tabL 2))∧RowF wt (W1.heap.size+1+1+1) 3 100 (Yck W1.heap.size))
  (hX:Below wt.heap.size wt X) (hW:Below X.heap.size X ww) (how:ww.ownsRow X.heap.size 138 3 vw k (YbZ z k)):CfP w ww V BT vw z k:=by
 subst hBT;obtain ⟨hb,hz,t0,t1,t2,t3⟩:=hT;have hx:=hX.size;have k1:Below wt.heap.size wt ww:=YcB hX hW hx;have k2:Below W1.heap.size W1 ww:=YcB hb k1 hb.size;refine ⟨YcB hB k2 hB.size,r0.below k2 r0.lt,r1.below k2 r1.lt,t0.below k1 t0.lt,t1.below k1 t1.lt,t2.below k1 t2.lt,t3.below k1 t3.lt,?_,hs⟩;exact YcV how (by omega)
section
variable {w wr W wg:World} {V:Nat→Value} {B3 BT k e s n:Nat} {v0 vw vd v nv:Value} {z:Nat→Int} {xs:List Value}
theorem CfW.grow (h:CfW w wr V B3 BT v0 vw vd z k) (ho:wr.ownsRow (w.heap.size+2) e s v n xs) (he:e≠28∧e≠102∧e≠100∧e≠138) (hW:Below wr.heap.size wr W) (hg:W.grownBy wg v.ownBlock):CfW w wg V B3 BT v0 vw vd z k:=by
 have old:∀j,j<wr.heap.size→v.ownBlock≠some j→wg.heap[j]?=wr.heap[j]?:=fun j hj hne=>(hg.block j (Nat.lt_of_lt_of_le hj hW.size) (fun e=>hne e.symm)).trans (hW.block j hj);have low:∀j,j<w.heap.size+2→v.ownBlock≠some j:=fun j hj e=>by have:=(ho.lt j e).1;omega
 have hsz:=h.bel.size;have hB1:Below w.heap.size w wg:=⟨(hg.os.trans hW.os).trans h.bel.os,(hg.tape.trans hW.tape).trans h.bel.tape,(hg.output.trans hW.output).trans h.bel.output,Nat.le_trans hsz (Nat.le_trans hW.size hg.size),fun j hj=>(old j (by omega) (low j (by omega))).trans (h.bel.block j hj)⟩;have own2:wg.ownsRow (w.heap.size+2) 138 3 vw k (YbZ z k):=Yc6 h.ch fun g hgg=>old g (h.ch.lt g hgg).2 fun hv=>by
  rcases ho.2 with ⟨rfl,_⟩|⟨g',cap,cur,rfl,hb,hh,_⟩
  ·cases hv
  ·obtain rfl:g'=g:=by simpa [Value.ownBlock] using hv
   rcases h.ch.2 with ⟨rfl,_⟩|⟨g2,cap2,cur2,rfl,hb2,hh2,_⟩
   ·cases hgg
   ·obtain rfl:g2=g':=by simpa [Value.ownBlock] using hgg
    rw [hh] at hh2;injection hh2 with hh2
    injection hh2 with _ hh2
    exact he.2.2.2 hh2
 exact ⟨hB1,h.r0.of_heap (old _ h.r0.lt (low _ (by omega))),h.r1.of_heap (old _ h.r1.lt (low _ (by omega))),h.r3.of_heap (old _ h.r3.lt (YbW ho h.r3 he.1)),h.t0.of_heap (old _ h.t0.lt (YbW ho h.t0 he.2.1)),h.t1.of_heap (old _ h.t1.lt (YbW ho h.t1 he.2.1)),h.t2.of_heap (old _ h.t2.lt (YbW ho h.t2 he.2.1)),h.t3.of_heap (old _ h.t3.lt (YbW ho h.t3 he.2.2.1)),own2,h.hb⟩
theorem CfW.far (h:CfW w wr V B3 BT v0 vw vd z k) (c:Nat) (nv:Value) {v0' vd':Value} (hr3:RowF (wr.setCell ⟨B3,c,none⟩ nv) B3 4 28 (Yc v0' (.slice (some ⟨BT+1+1+1,0,none⟩) 3 3) vw vd')):CfW w (wr.setCell ⟨B3,c,none⟩ nv) V B3 BT v0' vw vd' z k:=by
 have hb:=h.hb;have ne:∀{g m t:Nat} {f:Nat→Value},RowF wr g m t f→t≠28→(wr.setCell ⟨B3,c,none⟩ nv).heap[g]?=wr.heap[g]?:=fun {g m t f} hg ht=>heap_setCell_other _ _ _ _ fun e=>by
  subst e;obtain ⟨cs,h1,_⟩:=hg;obtain ⟨cs',h2,_⟩:=h.r3;rw [h1] at h2;injection h2 with h2
  injection h2 with _ h2
  exact ht h2
 exact ⟨h.bel.setCell (by simp;omega) _,h.r0.other _ _ (by simp;omega),h.r1.other _ _ (by simp;omega),hr3,h.t0.of_heap (ne h.t0 (by decide)),h.t1.of_heap (ne h.t1 (by decide)),h.t2.of_heap (ne h.t2 (by decide)),h.t3.of_heap (ne h.t3 (by decide)),Yc6 h.ch fun g hg=>heap_setCell_other _ _ _ _ fun e=>YbW h.ch h.r3 (by decide) (hg.trans (by rw [show g=B3 from e])),h.hb⟩
theorem CfW.put3 (h:CfW w wr V B3 BT v0 vw vd z k) (nv:Value):CfW w (wr.setCell ⟨B3,3,none⟩ nv) V B3 BT v0 vw nv z k:=h.far 3 nv ((h.r3.set 3 nv).congr fun j hj=>by
 have:j=0∨j=1∨j=2∨j=3:=by omega
 rcases this with rfl|rfl|rfl|rfl<;>rfl)
theorem CfW.put0 (h:CfW w wr V B3 BT v0 vw vd z k) (nv:Value):CfW w (wr.setCell ⟨B3,0,none⟩ nv) V B3 BT nv vw vd z k:=h.far 0 nv ((h.r3.set 0 nv).congr fun j hj=>by
 have:j=0∨j=1∨j=2∨j=3:=by omega
 rcases this with rfl|rfl|rfl|rfl<;>rfl)
theorem CfW.own (h:CfW w wr V B3 BT v0 vw vd z k) (ho:wr.ownsRow (w.heap.size+2) e s v n xs) (he:e≠28) (c:Nat) (nv:Value):(wr.setCell ⟨B3,c,none⟩ nv).ownsRow (w.heap.size+2) e s v n xs:=
 Yc6 ho fun g hg=>heap_setCell_other _ _ _ _ fun e=>YbW ho h.r3 he (hg.trans (by rw [show g=B3 from e]))
end
theorem Yeq {P:Program} {ops:Array Oper} {o:Oper} {a:Act} {w:World} {K:Act→World→Prop} {Q:Exit→Act→World→Prop} {E:Prop} (hgd:o.guard=none) (f:FuncId) (s0 s1:Operand) (t0 t1:TypeId)
  (ho:o.op=.call {callee:=.value (.func f),args:=#[s0,s1],argTypes:=#[t0,t1]}) (v0 v1:Value) (hv0:a.eval s0=v0) (hv1:a.eval s1=v1)
  (fn : Func) (hf : P.funcs[f]? = some fn) (hn : (fn.name == "runtime.NumGoroutine") = false) (hb : fn.body.isNone = false) (R : Value → World → Prop)
  (h:Calls P f #[v0,v1] w (fun e w'=>∃r,e=.returned r∧R r w')) (hk:∀r w',R r w'→K (a.put o.dst r) w'):
  if Region.wanted o (yielded ops a.tmps)=true then Oper.wp P o a w K Q else E:=by
 have hw:Region.wanted o (yielded ops a.tmps)=true:=by simp [Region.wanted,hgd]
 rw [if_pos hw];unfold Oper.wp;have hr:(execOp a.eval o).run P w=.ok (.enter f #[v0,v1]) w:=by
  have e:a.eval (.func f)=.func (.func f) #[] #[]:=rfl;have hn' : ¬ fn.name = "runtime.NumGoroutine" := by simpa using hn
  have hb':¬fn.body=none:=by intro e;rw [e] at hb;cases hb
  simp [execOp,ho,resolve,invoke,hv0,hv1,e,Deferred.ofValue,callFunc,hf,hn',hb']
 rw [hr];refine h.mono ?_;rintro e w' ⟨r,rfl,hR⟩;exact hk r w' hR
theorem Yez : (Tryz.f9.name == "runtime.NumGoroutine") = false := by kernel_rfl
theorem Yf8:Tryz.f9.body.isNone=false:=by kernel_rfl
theorem YgT:(Tryz.prog.info? 3).map (fun i=>(i.zero,i.size,i.bytes))=some (some (.int .i64 0),1,8):=by kernel_rfl
def devL (z:Nat→Int) (m:Nat):List Value:=(List.range m).map fun j=>.int .i64 (pk (z j) 4)
theorem Yh5 (z:Nat→Int) (m:Nat):devL z (m+1)=devL z m++[.int .i64 (pk (z m) 4)]:=by
 unfold devL;rw [List.range_succ];simp
theorem Yd2 {w:World} {b b2 e e2 s s2 n n2 g:Nat} {v v2:Value} {xs xs2:List Value} (h:w.ownsRow b e s v n xs) (h2:w.ownsRow b2 e2 s2 v2 n2 xs2) (he:e≠e2) (hg:v2.ownBlock=some g):v.ownBlock≠some g:=fun hv=>by
 rcases h.2 with ⟨rfl,_⟩|⟨g',cap,cur,rfl,hb,hh,_⟩
 ·cases hv
 ·obtain rfl:g'=g:=by simpa [Value.ownBlock] using hv
  rcases h2.2 with ⟨rfl,_⟩|⟨g2,cap2,cur2,rfl,hb2,hh2,_⟩
  ·cases hg
  ·obtain rfl:g2=g':=by simpa [Value.ownBlock] using hg
   rw [hh] at hh2;injection hh2 with hh2
   injection hh2 with _ hh2
   exact he hh2
def Ydi (P:Pl) (cv:Nat→Value) (gi:Nat→Nat) (j:Nat):Value:=if j % 3=0 then cv (j / 3) else if j % 3=1 then .slice (some ⟨gi (j / 3),0,none⟩) 2 2 else .int .i64 (pk (P.lim (j / 3)) 6)
def Ycw (P:Pl) (cv:Nat→Value) (gi:Nat→Nat) (n:Nat):List Value:=(List.range (n*3)).map (Ydi P cv gi)
def setV (cv:Nat→Value) (n:Nat) (v:Value) (i:Nat):Value:=if i<n then cv i else v
theorem Ygl (P:Pl) (cv:Nat→Value) (gi:Nat→Nat) (n:Nat) (v:Value) (g:Nat):Ycw P (setV cv n v) (setAt gi n g) (n+1)=Ycw P cv gi n++[v,.slice (some ⟨g,0,none⟩) 2 2,.int .i64 (pk (P.lim n) 6)]:=by
 unfold Ycw;rw [Yea];congr 1
 ·apply List.map_congr_left;intro j hj;have hj:j<n*3:=by simpa using hj
  have hj3:j / 3<n:=by omega
  unfold Ydi setV setAt;simp only [if_pos hj3]
 ·have e0:n*3 / 3=n:=by omega
  have e1:(n*3+1) / 3=n:=by omega
  have e2:(n*3+2) / 3=n:=by omega
  have m0:n*3 % 3=0:=by omega
  have m1:(n*3+1) % 3=1:=by omega
  have m2:(n*3+2) % 3=2:=by omega
  unfold Ydi setV setAt;simp [e0,e1,e2,m0,m1,m2]
structure Ycn (w wx:World) (P:Pl) (v0:Value) (cv:Nat→Value) (gi:Nat→Nat) (n:Nat):Prop where
 own:wx.ownsRow (w.heap.size+2) 53 3 v0 n (Ycw P cv gi n)
 code:∀i,i<n→wx.ownsRow (w.heap.size+2) 97 4 (cv i) (plN P i+1) (Yc1 (YbV (plK P) (plCh P) (plD P) (plDv P) P i) (plN P i+1))
 img:∀i,i<n→RowF wx (gi i) 2 2 (twoF (P.img i))∧w.heap.size+2≤gi i
section
variable {w wr W wg:World} {V:Nat→Value} {B3 BT k n nd:Nat} {v0 vw vd nv:Value} {z zd:Nat→Int} {P:Pl} {cv:Nat→Value} {gi:Nat→Nat}
theorem Ycn.step {v u:Value} {g m:Nat} {xs:List Value} (hc:CfW w wr V B3 BT v0 vw vd z k) (h:Ycn w wr P v0 cv gi n) (hd:wr.ownsRow (w.heap.size+2) 3 1 vd m xs)
  (hW:Below wr.heap.size wr W) (ho:W.ownsRow wr.heap.size 97 4 v (plN P n+1) (Yc1 (YbV (plK P) (plCh P) (plD P) (plDv P) P n) (plN P n+1))) (hi:RowF W g 2 2 (twoF (P.img n))) (hg:wr.heap.size≤g)
  (ho2:wg.ownsRow (w.heap.size+2) 53 3 u (n+1) (Ycw P cv gi n++[v,.slice (some ⟨g,0,none⟩) 2 2,.int .i64 (pk (P.lim n) 6)])) (hgr:W.grownBy wg v0.ownBlock):
  CfW w (wg.setCell ⟨B3,0,none⟩ u) V B3 BT u vw vd z k∧Ycn w (wg.setCell ⟨B3,0,none⟩ u) P u (setV cv n v) (setAt gi n g) (n+1)∧(wg.setCell ⟨B3,0,none⟩ u).ownsRow (w.heap.size+2) 3 1 vd m xs:=by
 have hc2:=hc.grow h.own (by decide) hW hgr;have hsz:w.heap.size+2≤wr.heap.size:=by have:=hc.r1.lt;omega
 have old:∀j,j<wr.heap.size→v0.ownBlock≠some j→wg.heap[j]?=wr.heap[j]?:=fun j hj hne=>(hgr.block j (Nat.lt_of_lt_of_le hj hW.size) (fun e=>hne e.symm)).trans (hW.block j hj);have new:∀j,wr.heap.size≤j→j<W.heap.size→wg.heap[j]?=W.heap[j]?:=fun j hj hjw=>hgr.block j hjw (fun e=>by have:=(h.own.lt j e.symm).2;omega);have far:∀{b m t:Nat} {f:Nat→Value},RowF wg b m t f→t≠28→(wg.setCell ⟨B3,0,none⟩ u).heap[b]?=wg.heap[b]?:=fun {b m t f} hb ht=>heap_setCell_other _ _ _ _ fun e=>by
  subst e;obtain ⟨cs,h1,_⟩:=hb;obtain ⟨cs',h2,_⟩:=hc2.r3;rw [h1] at h2;injection h2 with h2
  injection h2 with _ h2
  exact ht h2
 refine ⟨hc2.put0 _,⟨?_,fun i hi=>?_,fun i hi=>?_⟩,?_⟩
 ·rw [Ygl];exact hc2.own ho2 (by decide) _ _
 ·unfold setV;split
  ·rename_i hlt
   exact hc2.own (Yc6 (h.code i hlt) fun j hj=>old j ((h.code i hlt).lt j hj).2 (Yd2 h.own (h.code i hlt) (by decide) hj)) (by decide) _ _
  ·obtain rfl:i=n:=by omega
   exact hc2.own (YcV (Yc6 ho fun j hj=>new j (ho.lt j hj).1 (ho.lt j hj).2) hsz) (by decide) _ _
 ·unfold setAt;split
  ·rename_i hlt
   have hr:=(h.img i hlt).1.of_heap (old _ (h.img i hlt).1.lt (YbW h.own (h.img i hlt).1 (by decide)));exact ⟨hr.of_heap (far hr (by decide)),(h.img i hlt).2⟩
  ·obtain rfl:i=n:=by omega
   rename_i hi2 _
   have hr:=hi2.of_heap (new _ hg hi2.lt);exact ⟨hr.of_heap (far hr (by decide)),by omega⟩
 ·exact hc2.own (Yc6 hd fun j hj=>old j (hd.lt j hj).2 (Yd2 h.own hd (by decide) hj)) (by decide) _ _
end
theorem Yda {w:World} {b e s n:Nat} {v:Value} {z:Nat→Int} {nl:Bool} {bn:Nat} (h:w.ownsRow b e s v n ((List.range (n*s)).map fun j=>.int .i64 (z j))) (hb:bn*n≤140737488355328) (hn:nl=decide (n=0)) (h0:n=0→v=.slice none 0 0):SlZ w v nl n s z bn:=by
 obtain ⟨p,cap,rfl,h1,h2,h3⟩:=Zk h;refine ⟨p,cap,rfl,h1,?_,h2,hb,h3⟩;subst hn;simp only [decide_eq_true_eq];exact ⟨fun h=>(h2 h).1,fun h=>by
  have:=h0 h;injection this⟩
structure CfO (w wx:World) (P:Pl) (BT:Nat) (v0 vw vd:Value) (cv:Nat→Value) (gi:Nat→Nat):Prop where
 cells:Ycn w wx P v0 cv gi 4
 t0:RowF wx BT 8 102 (YbX (tabL 0))
 t1:RowF wx (BT+1) 6 102 (YbX (tabL 1))
 t2:RowF wx (BT+1+1) 8 102 (YbX (tabL 2))
 t3:RowF wx (BT+1+1+1) 3 100 (Yck BT)
 ch:wx.ownsRow (w.heap.size+2) 138 3 vw (plK P) (YbZ P.ways (plK P))
 dv:wx.ownsRow (w.heap.size+2) 3 1 vd (plD P) (devL P.devs (plD P))
 hw:P.nW=0→vw=.slice none 0 0
 hn:P.nD=0→vd=.slice none 0 0
 lo:w.heap.size+2≤BT
theorem YfW {w wx:World} {V:Nat→Value} {B3 BT:Nat} {v0 vw vd:Value} {P:Pl} {cv:Nat→Value} {gi:Nat→Nat} (hc:CfW w wx V B3 BT v0 vw vd P.ways (plK P)) (h:Ycn w wx P v0 cv gi 4) (hd:wx.ownsRow (w.heap.size+2) 3 1 vd (plD P) (devL P.devs (plD P))) (hw:P.nW=0→vw=.slice none 0 0) (hn:P.nD=0→vd=.slice none 0 0):
  ((((wx.setCell ⟨w.heap.size+1,0,none⟩ v0).setCell ⟨w.heap.size+1,1,none⟩ (.slice (some ⟨BT+1+1+1,0,none⟩) 3 3)).setCell ⟨w.heap.size+1,2,none⟩ vw).setCell ⟨w.heap.size+1,3,none⟩ vd).heap[w.heap.size+1]?=some (.cells #[v0,.slice (some ⟨BT+1+1+1,0,none⟩) 3 3,vw,vd] 28 (0,0))∧
  Below w.heap.size w ((((wx.setCell ⟨w.heap.size+1,0,none⟩ v0).setCell ⟨w.heap.size+1,1,none⟩ (.slice (some ⟨BT+1+1+1,0,none⟩) 3 3)).setCell ⟨w.heap.size+1,2,none⟩ vw).setCell ⟨w.heap.size+1,3,none⟩ vd)∧
  CfO w ((((wx.setCell ⟨w.heap.size+1,0,none⟩ v0).setCell ⟨w.heap.size+1,1,none⟩ (.slice (some ⟨BT+1+1+1,0,none⟩) 3 3)).setCell ⟨w.heap.size+1,2,none⟩ vw).setCell ⟨w.heap.size+1,3,none⟩ vd) P BT v0 vw vd cv gi:=by
 have hb:=hc.hb.2;have far:∀b,b≠w.heap.size+1→((((wx.setCell ⟨w.heap.size+1,0,none⟩ v0).setCell ⟨w.heap.size+1,1,none⟩ (.slice (some ⟨BT+1+1+1,0,none⟩) 3 3)).setCell ⟨w.heap.size+1,2,none⟩ vw).setCell ⟨w.heap.size+1,3,none⟩ vd).heap[b]?=wx.heap[b]?:=fun b hb=>Y0W wx _ _ _ _ _ b hb;refine ⟨JY (((((hc.r1.set 0 v0).set 1 (.slice (some ⟨BT+1+1+1,0,none⟩) 3 3)).set 2 vw).set 3 vd).congr fun j hj=>?_),Y0b hc.bel (by omega) _ _ _ _,?_⟩
 ·have:j=0∨j=1∨j=2∨j=3:=by omega
  rcases this with rfl|rfl|rfl|rfl<;>rfl
 ·exact ⟨⟨Yc6 h.own fun g hg=>far _ (by have:=(h.own.lt g hg).1;omega),fun i hi=>Yc6 (h.code i hi) fun g hg=>far _ (by have:=((h.code i hi).lt g hg).1;omega),fun i hi=>⟨(h.img i hi).1.of_heap (far _ (by have:=(h.img i hi).2;omega)),(h.img i hi).2⟩⟩,
   hc.t0.of_heap (far _ (by omega)),hc.t1.of_heap (far _ (by omega)),hc.t2.of_heap (far _ (by omega)),hc.t3.of_heap (far _ (by omega)),Yc6 hc.ch fun g hg=>far _ (by have:=(hc.ch.lt g hg).1;omega),
   Yc6 hd fun g hg=>far _ (by have:=(hd.lt g hg).1;omega),hw,hn,hb⟩
def ZQ (Q:Nat→Pl) (cv:Nat→Value) (gi:Nat→Nat) (j:Nat):Value:=if j % 3=0 then cv (j / 3) else if j % 3=1 then .slice (some ⟨gi (j / 3),0,none⟩) 2 2 else .int .i64 (pk ((Q (j / 3)).lim (j / 3)) 6)
structure Yet (w wx:World) (P:Pl) (Q:Nat→Pl) (v0:Value) (cv:Nat→Value) (gi:Nat→Nat):Prop where
 own:wx.ownsRow (w.heap.size+2) 53 3 v0 4 ((List.range (4*3)).map (ZQ Q cv gi))
 code:∀i,i<4→wx.ownsRow (w.heap.size+2) 97 4 (cv i) (plN (Q i) i+1) (Yc1 (YbV (plK P) (plCh P) (plD P) (plDv P) (Q i) i) (plN (Q i) i+1))
 img:∀i,i<4→RowF wx (gi i) 2 2 (twoF ((Q i).img i))∧w.heap.size+2≤gi i
structure CfU (w wx:World) (P:Pl) (Q:Nat→Pl) (BT:Nat) (v0 vw vd:Value) (cv:Nat→Value) (gi:Nat→Nat):Prop where
 cells:Yet w wx P Q v0 cv gi
 t0:RowF wx BT 8 102 (YbX (tabL 0))
 t1:RowF wx (BT+1) 6 102 (YbX (tabL 1))
 t2:RowF wx (BT+1+1) 8 102 (YbX (tabL 2))
 t3:RowF wx (BT+1+1+1) 3 100 (Yck BT)
 ch:wx.ownsRow (w.heap.size+2) 138 3 vw (plK P) (YbZ P.ways (plK P))
 dv:wx.ownsRow (w.heap.size+2) 3 1 vd (plD P) (devL P.devs (plD P))
 hw:P.nW=0→vw=.slice none 0 0
 hn:P.nD=0→vd=.slice none 0 0
section
variable {w wx wy:World} {P:Pl} {Q:Nat→Pl} {BT:Nat} {v0 vw vd:Value} {cv:Nat→Value} {gi:Nat→Nat}
theorem CfO.u (h:CfO w wx P BT v0 vw vd cv gi):CfU w wx P (fun _=>P) BT v0 vw vd cv gi:=⟨⟨h.cells.own,h.cells.code,h.cells.img⟩,h.t0,h.t1,h.t2,h.t3,h.ch,h.dv,h.hw,h.hn⟩
theorem CfU.below (h:CfU w wx P Q BT v0 vw vd cv gi) (hb:Below wx.heap.size wx wy):CfU w wy P Q BT v0 vw vd cv gi:=
 ⟨⟨own_below h.cells.own hb,fun i hi=>own_below (h.cells.code i hi) hb,fun i hi=>⟨(h.cells.img i hi).1.below hb (h.cells.img i hi).1.lt,(h.cells.img i hi).2⟩⟩,h.t0.below hb h.t0.lt,h.t1.below hb h.t1.lt,h.t2.below hb h.t2.lt,h.t3.below hb h.t3.lt,own_below h.ch hb,own_below h.dv hb,h.hw,h.hn⟩
theorem CfU.cfg (h:CfU w wx P Q BT v0 vw vd cv gi):CfgR wx v0 (.slice (some ⟨BT+1+1+1,0,none⟩) 3 3) vw vd (cfgP P Q):=by
 obtain ⟨p,cap,rfl,h1,h2,h3⟩:=Zk h.cells.own;refine ⟨⟨p,cap,ZQ Q cv gi,rfl,h1,?_,h2,by show 56*4≤_;omega,h3,fun i hi=>?_⟩,⟨_,3,Yck BT,rfl,Nat.le_refl _,by simp [cfgP],fun h=>(by cases h),by show 24*3≤_;omega,.inr ⟨_,0,rfl,fun j hj=>by rw [Nat.zero_add];exact h.t3.cell hj⟩,fun i hi=>?_⟩,?_,?_⟩
 ·constructor
  ·intro e;have:=(h2 e).1;omega
  ·intro e;cases e
 ·have hi:i<4:=hi;have e0:i*3 / 3=i:=by omega
  have e1:(i*3+1) / 3=i:=by omega
  have e2:(i*3+2) / 3=i:=by omega
  have m0:i*3 % 3=0:=by omega
  have m1:(i*3+1) % 3=1:=by omega
  have m2:(i*3+2) % 3=2:=by omega
  have hN:plN (Q i) i≤47:=by unfold plN;omega
  refine ⟨?_,?_,?_⟩
  ·unfold ZQ;rw [m0,e0,if_pos rfl];exact Yda (h.cells.code i hi) (by show 32*(plN (Q i) i+1)≤_;omega) (by show false=decide (plN (Q i) i+1=0);simp) (fun h=>by have h:plN (Q i) i+1=0:=h;omega)
  ·unfold ZQ;rw [m1,e1,if_neg (by omega),if_pos rfl];exact ⟨_,2,rfl,Nat.le_refl _,by simp [cfgP],fun h=>(by cases h),by show 8*2≤_;omega,.inr ⟨_,0,rfl,fun j hj=>by
    have hj:j<2:=hj;rw [Nat.zero_add,(h.cells.img i hi).1.cell hj];have:j=0∨j=1:=by omega
    rcases this with rfl|rfl<;>rfl⟩⟩
  ·unfold ZQ;rw [m2,e2,if_neg (by omega),if_neg (by omega)];rfl
 ·have hi:i<3:=hi;have:i=0∨i=1∨i=2:=by omega
  rcases this with rfl|rfl|rfl
  ·exact ⟨_,4,rfl,Nat.le_refl _,by simp [cfgP],fun h=>(by cases h),by show 16*4≤_;omega,.inr ⟨_,0,rfl,fun j hj=>by rw [Nat.zero_add];exact h.t0.cell hj⟩⟩
  ·exact ⟨_,3,rfl,Nat.le_refl _,by simp [cfgP],fun h=>(by cases h),by show 16*3≤_;omega,.inr ⟨_,0,rfl,fun j hj=>by rw [Nat.zero_add];exact h.t1.cell hj⟩⟩
  ·exact ⟨_,4,rfl,Nat.le_refl _,by simp [cfgP],fun h=>(by cases h),by show 16*4≤_;omega,.inr ⟨_,0,rfl,fun j hj=>by rw [Nat.zero_add];exact h.t2.cell hj⟩⟩
 ·refine Yda (s:=3) h.ch (by show 24*plK P≤_;unfold plK;omega) (by show decide (P.nW=0)=decide (plK P=0);unfold plK;congr 1;apply propext;omega) (fun e=>h.hw (by have e:plK P=0:=e;unfold plK at e;omega))
 ·have hd2:wx.ownsRow (w.heap.size+2) 3 1 vd (plD P) ((List.range (plD P*1)).map fun j=>.int .i64 (plDv P j)):=by rw [Nat.mul_one];exact h.dv
  exact Yda (s:=1) hd2 (by show 8*plD P≤_;unfold plD;omega) (by show decide (P.nD=0)=decide (plD P=0);unfold plD;congr 1;apply propext;omega) (fun e=>h.hn (by have e:plD P=0:=e;unfold plD at e;omega))
end
theorem Ydt {w:World} {base e size n cap g j:Nat} {xs:List Value} (h:w.ownsRow base e size (.slice (some ⟨g,0,none⟩) n cap) n xs) (u:Value):(w.setCell ⟨g,j,none⟩ u).ownsRow base e size (.slice (some ⟨g,0,none⟩) n cap) n (xs.set j u):=by
 rcases h with ⟨hl,⟨hv,_⟩|⟨g0,cap0,cur,hv,hb,hh,h1,h2,h3,h4⟩⟩
 ·cases hv
 ·injection hv with hv1 _ hv2
  injection hv1 with hv1
  injection hv1 with hv1
  subst hv1 hv2;refine ⟨by rw [List.length_set];exact hl,.inr ⟨g,cap,cur.setIfInBounds j u,rfl,hb,?_,h1,h2,by rw [Array.size_setIfInBounds];exact h3,?_⟩⟩
  ·unfold World.setCell;show (w.heap.modify g _)[g]?=_;rw [Array.getElem?_modify,if_pos rfl,hh];rfl
  ·rw [←h4,Array.toList_setIfInBounds,List.take_set]
theorem Yem (Q:Nat→Pl) (R:Pl) (cv:Nat→Value) (gi:Nat→Nat) (n gn:Nat) (v:Value) (_hn:n<4):((((List.range (4*3)).map (ZQ Q cv gi)).set (n*3) v).set (n*3+1) (.slice (some ⟨gn,0,none⟩) 2 2)).set (n*3+2) (.int .i64 (pk (R.lim n) 6))=(List.range (4*3)).map (ZQ (fun i=>if i=n then R else Q i) (fun i=>if i=n then v else cv i) (fun i=>if i=n then gn else gi i)):=by
 apply List.ext_getElem?;intro j;by_cases hj:j<4*3
 ·rw [List.getElem?_map,List.getElem?_range hj,List.getElem?_set,List.getElem?_set,List.getElem?_set,List.getElem?_map,List.getElem?_range hj];have hl:∀a b,((((List.range (4*3)).map (ZQ Q cv gi)).set (n*3) a).set (n*3+1) b).length=12:=fun a b=>by simp
  have hl1:∀a,(((List.range (4*3)).map (ZQ Q cv gi)).set (n*3) a).length=12:=fun a=>by simp
  have hl0:((List.range (4*3)).map (ZQ Q cv gi)).length=12:=by simp
  rw [hl,hl1,hl0];unfold ZQ;by_cases e2:n*3+2=j
  ·subst e2;rw [if_pos rfl,if_pos (by omega)];have m:(n*3+2) % 3=2:=by omega
   have d:(n*3+2) / 3=n:=by omega
   simp [m,d]
  ·rw [if_neg e2];by_cases e1:n*3+1=j
   ·subst e1;rw [if_pos rfl,if_pos (by omega)];have m:(n*3+1) % 3=1:=by omega
    have d:(n*3+1) / 3=n:=by omega
    simp [m,d]
   ·rw [if_neg e1];by_cases e0:n*3=j
    ·subst e0;rw [if_pos rfl,if_pos (by omega)];have m:n*3 % 3=0:=by omega
     have d:n*3 / 3=n:=by omega
     simp [m,d]
    ·rw [if_neg e0];have d:j / 3≠n:=by omega
     simp [d]
 ·have h1:((List.range (4*3)).map (ZQ (fun i=>if i=n then R else Q i) (fun i=>if i=n then v else cv i) (fun i=>if i=n then gn else gi i)))[j]?=none:=by simp;omega
  rw [h1];simp;omega
theorem CfU.put {w wx:World} {P R:Pl} {Q:Nat→Pl} {BT g cap n gn:Nat} {vw vd v:Value} {cv:Nat→Value} {gi:Nat→Nat} (h:CfU w wx P Q BT (.slice (some ⟨g,0,none⟩) 4 cap) vw vd cv gi) (hn4:n<4) (hv:wx.ownsRow (w.heap.size+2) 97 4 v (plN R n+1) (Yc1 (YbV (plK P) (plCh P) (plD P) (plDv P) R n) (plN R n+1))) (hi:RowF wx gn 2 2 (twoF (R.img n))) (hgn:w.heap.size+2≤gn):
  CfU w (((wx.setCell ⟨g,n*3,none⟩ v).setCell ⟨g,n*3+1,none⟩ (.slice (some ⟨gn,0,none⟩) 2 2)).setCell ⟨g,n*3+2,none⟩ (.int .i64 (pk (R.lim n) 6))) P (fun i=>if i=n then R else Q i) BT (.slice (some ⟨g,0,none⟩) 4 cap) vw vd (fun i=>if i=n then v else cv i) (fun i=>if i=n then gn else gi i):=by
 have far:∀b,b≠g→(((wx.setCell ⟨g,n*3,none⟩ v).setCell ⟨g,n*3+1,none⟩ (.slice (some ⟨gn,0,none⟩) 2 2)).setCell ⟨g,n*3+2,none⟩ (.int .i64 (pk (R.lim n) 6))).heap[b]?=wx.heap[b]?:=fun b hb=>by
  rw [heap_setCell_other _ _ _ _ hb,heap_setCell_other _ _ _ _ hb,heap_setCell_other _ _ _ _ hb]
 have row:∀{b m t:Nat} {f:Nat→Value},RowF wx b m t f→53≠t→b≠g:=fun {b m t f} hr ht e=>YbW h.cells.own hr ht (by rw [e];rfl);have lst:∀{b e s m:Nat} {u:Value} {xs:List Value},wx.ownsRow b e s u m xs→53≠e→(((wx.setCell ⟨g,n*3,none⟩ v).setCell ⟨g,n*3+1,none⟩ (.slice (some ⟨gn,0,none⟩) 2 2)).setCell ⟨g,n*3+2,none⟩ (.int .i64 (pk (R.lim n) 6))).ownsRow b e s u m xs:=fun {b e s m u xs} ho he=>Yc6 ho fun j hj=>far j fun e2=>Yd2 h.cells.own ho he hj (by rw [e2];rfl);refine ⟨⟨?_,fun i hi4=>?_,fun i hi4=>?_⟩,h.t0.of_heap (far _ (row h.t0 (by decide))),h.t1.of_heap (far _ (row h.t1 (by decide))),h.t2.of_heap (far _ (row h.t2 (by decide))),h.t3.of_heap (far _ (row h.t3 (by decide))),lst h.ch (by decide),lst h.dv (by decide),h.hw,h.hn⟩
 ·rw [←Yem Q R cv gi n gn v hn4];exact Ydt (Ydt (Ydt h.cells.own _) _) _
 ·by_cases e:i=n
  ·subst e;simp only [if_true];exact lst hv (by decide)
  ·simp only [if_neg e];exact lst (h.cells.code i hi4) (by decide)
 ·by_cases e:i=n
  ·subst e;simp only [if_true];exact ⟨hi.of_heap (far _ (row hi (by decide))),hgn⟩
  ·simp only [if_neg e];exact ⟨(h.cells.img i hi4).1.of_heap (far _ (row (h.cells.img i hi4).1 (by decide))),(h.cells.img i hi4).2⟩
end Go.Proofs.YtdoghgnifkgfdaaGreat
