import Derived.Laws.ResultCell
import Derived.Laws.Rows
import Derived.Test.YtdoghgnifkgfdaaGreatP03
import Derived.Test.YtdoghgnifkgfdaaGreatP08
import Derived.Test.YtdoghgnifkgfdaaGreatP11
import Derived.Test.YtdoghgnifkgfdaaGreatP38
import Derived.Test.YtdoghgnifkgfdaaGreatP40
set_option maxRecDepth 100000
set_option maxHeartbeats 4000000
namespace Go.Proofs.YtdoghgnifkgfdaaGreat.Mute
open Go Go.Conc Go.RowKit
theorem choose_lt {α:Type} (d:α) {n:Nat} {P:Nat→α→Prop} (h:∀i,i<n→∃x,P i x):∃f:Nat→α,∀i,i<n→P i (f i):=
 ⟨fun i=>if hi:i<n then Classical.choose (h i hi) else d,fun i hi=>by
  simp only [hi,dite_true];exact Classical.choose_spec (h i hi)⟩
def s0 (c:Cfg):KSt:=⟨fun i=>newZ (c.lim i) (c.nImg i) (c.img i),fun _=>0,fun _=>[]⟩
def wnOf (c:Cfg) (i j:Nat):Nat×Nat:=((c.row i (j*2)).toNat,(c.row i (j*2+1)).toNat)
theorem Y2c {c:Cfg} {i:Nat} (h:X3 c i) (hch:c.nCh=0) (hd:c.nD=0):Xc (c.nCode i) (c.code i):=fun k hk=>by
 obtain ⟨-,-,-,h4⟩:=h;obtain ⟨h5,h6,h7,h8,h9,h10,h11,h12,h13⟩:=h4 k hk;have no:∀{n kind:Int} {ende:Nat},¬YA c i n kind ende:=fun ⟨a,b,_⟩=>by omega
 refine ⟨?_,h6,h7,h8⟩;have n10:c.code i (k*4)≠10:=fun e=>no (h9 e);have n11:c.code i (k*4)≠11:=fun e=>no (h10 e);have n12:c.code i (k*4)≠12:=fun e=>no (h11 (.inl e));have n16:c.code i (k*4)≠16:=fun e=>no (h11 (.inr e));have n13:c.code i (k*4)≠13:=fun e=>no (h12 e);have n14:c.code i (k*4)≠14:=fun e=>by have:=(h13 e).2.1;omega
 omega
theorem Y1M (lim:Int) (m:Nat) (img:Nat→Int) (n:Nat) (hm:m≤16):Zok n (newZ lim m img)∧IntKind.i64.wrap (newZ lim m img 46)=newZ lim m img 46:=by
 have e45:newZ lim m img 45=0:=by unfold newZ;rw [if_neg (by omega),if_neg (by omega),if_neg (by omega)]
 have e24:newZ lim m img 24=0:=by unfold newZ;rw [if_neg (by omega),if_neg (by omega),if_neg (by omega)]
 have e46:newZ lim m img 46=0:=by unfold newZ;rw [if_neg (by omega),if_neg (by omega),if_neg (by omega)]
 exact ⟨⟨by rw [e45];omega,by rw [e45];omega,e24⟩,by rw [e46];rfl⟩
theorem Y8.rowsAll {c:Cfg} (h:Y8 c 0 0):Yb (YU c) c.nT:=by
 unfold Y8 at h;rcases h with h|h|⟨_,_,i,_,h,_⟩|h|⟨_,_,_,_,i,_,h,_⟩|h|⟨_,_,_,_,_,_,i,_,h,_⟩|⟨_,_,_,_,_,_,_,i,_,h,_⟩|h
 ·exact absurd h.2.1 (by omega)
 ·exact absurd h.2.2.1 (by omega)
 ·exact absurd h (by omega)
 ·exact absurd h.2.2.2.2.1 (by omega)
 ·exact absurd h (by omega)
 ·exact absurd h.2.2.2.2.2.2.1 (by omega)
 ·exact absurd h (by omega)
 ·exact absurd h (by omega)
 ·exact h.2.2.1
theorem Y2v {c:Cfg} {i:Nat} (h:YU c i):c.nRow i≤6∧∀j,j<c.nRow i→((wnOf c i j).1:Int)=c.row i (j*2)∧((wnOf c i j).2:Int)=c.row i (j*2+1)∧(wnOf c i j).1<c.nC∧(wnOf c i j).2≤200:=by
 obtain ⟨h1,h2,h3⟩:=h;refine ⟨h1,fun j hj=>?_⟩;obtain ⟨a,b,d⟩:=h2 j hj;have hs:=(Y27 (c.row i) (c.nRow i) (fun k hk=>(h2 k hk).2.2)).2 j hj;unfold wnOf;omega
section
variable {w:World}
theorem Jb {a b:Nat} {ca cb:Array Value} {ta tb:Nat} {fa fb:Nat×Nat} (ha:w.heap[a]?=some (.cells ca ta fa)) (hb:w.heap[b]?=some (.cells cb tb fb)) (ht:ta≠tb):a≠b:=fun e=>by
 subst e;rw [ha] at hb;cases hb;exact ht rfl
theorem Zy {b e s n:Nat} {v:Value} {xs:List Value} (h:w.ownsRow b e s v n xs) {g:Nat} (hg:v.ownBlock=some g):∃cs,w.heap[g]?=some (.cells cs e (0,0)):=by
 rcases h.2 with ⟨hv,_⟩|⟨g',cap,cur,hv,_,hh,_⟩
 ·rw [hv] at hg;simp [Value.ownBlock] at hg
 ·rw [hv] at hg;have:g'=g:=by simpa [Value.ownBlock] using hg
  subst this;exact ⟨cur,hh⟩
theorem Ybc {c:Cfg} {B K nb:Nat} {v tr:Value} (h:J3 (X6 c) B K nb v tr w) (hBK:B≤K) (hck:Y8 c 0 0) (hch:c.nCh=0) (hd:c.nD=0):
  ∃k t f,X8 w k t (s0 c) f 0 (fun b=>B≤b∧b<w.heap.size)∧k.kb=K∧k.nC=c.nC∧k.n=c.nCode∧k.ci=c.code∧t.nT=c.nT∧t.nw=c.nRow∧t.wn=wnOf c:=by
 obtain ⟨u,xs,hK,hu,⟨⟨hnb,ve,vq,vs,hnet,⟨pe,ce,he⟩,⟨pq,cq,hq⟩,⟨ps,cs',hs⟩⟩,T,hT,htr,hTr⟩,⟨ys,hv,hrows⟩,kb,hinj,hcells⟩:=h;obtain ⟨⟨hn1,hn6⟩,⟨ht1,ht8⟩,hall⟩:=hck.sizes;have hra:=Y8.rowsAll hck;have hu:w.ownsRow (K+1) 143 1 u c.nC xs:=hu;have hv:w.ownsRow (K+1) 100 1 v c.nT ys:=hv;obtain ⟨C,cC,rfl,hCl,hClt⟩:=hu.form (by omega);obtain ⟨tb,cT,rfl,htl,htlt⟩:=hv.form (by omega);obtain ⟨cv,hcv⟩:=choose_lt (.slice none 0 0) hcells;have hcvf:∀i,i<c.nC→∃p:Nat×Nat,cv i=.slice (some ⟨p.1,0,none⟩) (c.nCode i) p.2∧B≤p.1∧p.1<w.heap.size:=fun i hi=>by
  obtain ⟨-,-,-,-,h5⟩:=hcv i hi;obtain ⟨g,cap,h6,h7,h8⟩:=h5.form (by have:=(hall i hi).2.2.1.1;exact this);exact ⟨(g,cap),h6,h7,h8⟩
 obtain ⟨cp,hcp⟩:=choose_lt (0,0) hcvf;obtain ⟨rp,hrp⟩:=choose_lt (α:=Nat×Nat) (0,0) (P:=fun i p=>ys[i]?=some (.slice (some ⟨p.1,0,none⟩) (c.nRow i) p.2)∧w.ownsRow B 102 2 (.slice (some ⟨p.1,0,none⟩) (c.nRow i) p.2) (c.nRow i) ((List.range (c.nRow i*2)).map fun j=>.int .i64 (c.row i j))) (fun i (hi:i<c.nT)=>by
  obtain ⟨g,cap,h1,h2⟩:=hrows i hi;exact ⟨(g,cap),h1,h2⟩)
 subst htr he hq hs;obtain ⟨csK,hKh,-⟩:=id hK;obtain ⟨csN,hNh,-⟩:=id hnet;obtain ⟨csC,hCh⟩:=Zy hu (g:=C) rfl;obtain ⟨csT,hTh⟩:=Zy hv (g:=tb) rfl;have hcode:∀i,i<c.nC→w.ownsRow B 97 4 (.slice (some ⟨(cp i).1,0,none⟩) (c.nCode i) (cp i).2) (c.nCode i) ((List.range (c.nCode i*4)).map fun j=>.int .i64 (c.code i j)):=fun i hi=>by
  have:=(hcv i hi).2.2.2.2;rwa [(hcp i hi).1] at this
 have hrowc:∀i,i<c.nC→RowF w (kb i) 48 186 (cellV i (.pointer (some ⟨nb,0,none⟩)) (.slice (some ⟨(cp i).1,0,none⟩) (c.nCode i) (cp i).2) (newZ (c.lim i) (c.nImg i) (c.img i))):=fun i hi=>by
  have:=(hcv i hi).2.2.2.1;rwa [(hcp i hi).1] at this
 have hwn:=fun i (hi:i<c.nT)=>Y2v (hra i hi)
 let k:Ker:=⟨K,C,T,c.nC,cC,nb,kb,fun i=>(cp i).1,fun _=>0,c.nCode,fun i=>(cp i).2,fun i=>i,c.code⟩
 let t:Tab:=⟨tb,cT,c.nT,fun i=>(rp i).1,fun _=>0,fun i=>(rp i).2,c.nRow,wnOf c⟩
 have hkn:KNow w k (s0 c).z (fun _=>.slice none 0 0) (s0 c).m (s0 c).xs:=by
  refine ⟨hK.cell (j:=2) (by omega),hK.cell (j:=4) (by omega),⟨csK,_,_,hKh,by decide,by decide,by decide⟩,⟨csC,_,_,hCh,by decide,by decide,by decide⟩,⟨csN,_,_,hNh,by decide,by decide,by decide⟩,fun i hi=>?_,fun i hi=>?_,hrowc,hTr,fun i hi=>World.ownsRow_nil _ _ _ _,fun i hi j hj=>?_,⟨_,_,by have:=hnet.cell (j:=0) (by omega);rw [show (X6 c).nCh=0 from hch] at this;exact this⟩,fun i hi=>(hall i hi).2.2.1.2,fun i hi=>Y2c (hall i hi) hch hd,fun i hi=>(Y1M _ _ _ _ (hall i hi).2.1).1,hinj,fun i j _ _ _ b hb=>by simp [Value.ownBlock] at hb⟩
  ·obtain ⟨cs,hh⟩:=Zy (hcode i hi) (g:=(cp i).1) rfl;exact ⟨cs,_,_,hh,by decide,by decide,by decide⟩
  ·exact XC hu (hcv i hi).1
  ·show w.cell? ⟨(cp i).1,0+j,none⟩=some (.int .i64 (c.code i j));rw [Nat.zero_add];exact XC (hcode i hi) (by simp [show j<c.nCode i*4 from hj])
 refine ⟨k,t,fun _=>.slice none 0 0,⟨hkn,fun i hi=>Y1M _ _ _ _ (hall i hi).2.1,hK,⟨csT,_,_,hTh,by decide,by decide,by decide⟩,fun i hi=>?_,fun i hi=>?_,fun i hi j hj=>?_,fun i hi j hj=>?_,by show 0<c.nT;omega,by show c.nT≤1000;omega,fun i hi=>(hwn i hi).1,fun i hi j hj=>((hwn i hi).2 j hj).2.2,⟨_,_,by have:=hnet.cell (j:=1) (by omega);rw [show (X6 c).nCh=0 from hch] at this;exact this⟩,⟨_,_,by have:=hnet.cell (j:=2) (by omega);rw [show (X6 c).nCh=0 from hch] at this;exact this⟩,fun b hb=>?_,fun b hb=>hb.2,fun b hb=>?_⟩,rfl,rfl,rfl,rfl,rfl,rfl,rfl⟩
 ·exact XC hv (hrp i hi).1
 ·obtain ⟨cs,hh⟩:=Zy (hrp i hi).2 (g:=(rp i).1) rfl;exact ⟨cs,_,_,hh,by decide,by decide,by decide⟩
 ·show w.cell? ⟨(rp i).1,0+j*2,none⟩=some (.int .i64 ((wnOf c i j).1:Int));have hj':j<c.nRow i:=hj;rw [Nat.zero_add,((hwn i hi).2 j hj).1];exact XC (hrp i hi).2 (by simp [show j*2<c.nRow i*2 by omega])
 ·show w.cell? ⟨(rp i).1,0+j*2+1,none⟩=some (.int .i64 ((wnOf c i j).2:Int));have hj':j<c.nRow i:=hj;rw [Nat.zero_add,((hwn i hi).2 j hj).2.1];exact XC (hrp i hi).2 (by simp [show j*2+1<c.nRow i*2 by omega])
 ·rcases hb with (hb|hb|hb|hb|⟨i,hi,hb|hb|hb⟩)|hb|⟨i,hi,hb⟩
  ·subst hb;exact ⟨hBK,hK.lt⟩
  ·subst hb;exact ⟨by omega,hClt⟩
  ·subst hb;exact ⟨hT,hTr.lt⟩
  ·subst hb;exact ⟨hnb,hnet.lt⟩
  ·subst hb;exact ⟨(hcv i hi).2.1,(hcv i hi).2.2.1⟩
  ·subst hb;exact (hcp i hi).2
  ·simp [Value.ownBlock] at hb
  ·subst hb;exact ⟨by omega,htlt⟩
  ·subst hb;exact (hrp i hi).2.lt _ rfl
 ·rcases hb with rfl|rfl|rfl|⟨i,hi,rfl⟩|⟨i,hi,rfl⟩
  ·exact Jb hCh hKh (by decide)
  ·exact Jb hNh hKh (by decide)
  ·exact Jb hTh hKh (by decide)
  ·obtain ⟨cs,hh⟩:=Zy (hcode i hi) (g:=(cp i).1) rfl;exact Jb hh hKh (by decide)
  ·obtain ⟨cs,hh⟩:=Zy (hrp i hi).2 (g:=(rp i).1) rfl;exact Jb hh hKh (by decide)
theorem Y7N {c:Cfg} {B Kb Gc L:Nat} {o0 o1 o2 o3:Value} {wl:World} (hl:X5 wl c B o0 o1 o2 o3) (hb:Below wl.heap.size wl w) (hr:RNew c wl o0 o1 o2 o3 Kb Gc L w) (hck:Y8 c 0 0) (hch:c.nCh=0) (hd:c.nD=0)
  (hcn:∀i,i<c.nC→c.codeN i=true→c.nCode i=0) (him:∀i,i<c.nC→c.imgN i=true→c.nImg i=0) {k:Ker} (hk1:k.nC=c.nC) (hk2:k.n=c.nCode) (hk3:k.ci=c.code):
  ∃r t to_ vs,YZ w k r t to_ (s0 c) vs 0 (fun b=>B≤b∧b<w.heap.size)∧r.Kb=Kb∧r.Gc=Gc∧t.nT=c.nT∧t.nw=c.nRow∧t.wn=wnOf c:=by
 obtain ⟨⟨cb,rb,hbl,dbl,p0,cap0,p1,cap1,hi,hi2,rfl,l0,z0,hs0,rfl,l1,z1,hs1,rfl,rfl,hin,hB1,hB2,hrow,hord,hchi,hdv,hh⟩,lo0,lo1⟩:=hl;obtain ⟨hK,hG,hne,hKr,hGr⟩:=hr;obtain ⟨⟨hn1,hn6⟩,⟨ht1,ht8⟩,hall⟩:=hck.sizes;have hra:=Y8.rowsAll hck;have hwn:=fun i (hi:i<c.nT)=>Y2v (hra i hi);rcases hs0 with e|⟨b0,f0,rfl,c0⟩
 ·omega
 rcases hs1 with e|⟨b1,f1,rfl,c1⟩
 ·omega
 have hB0:B≤b0:=lo0 b0 rfl;have hB1':B≤b1:=lo1 b1 rfl;have hb0:b0<wl.heap.size:=Jg (c0 0 (by omega));have hb1:b1<wl.heap.size:=Jg (c1 0 (by omega));have hws:wl.heap.size≤w.heap.size:=hb.size;have up:∀{b o:Nat} {v:Value},b<wl.heap.size→wl.cell? ⟨b,o,none⟩=some v→w.cell? ⟨b,o,none⟩=some v:=fun {b o v} h1 h2=>(cell_of_heap (a:=⟨b,o,none⟩) (hb.block b h1)).trans h2;have st:∀{b:Nat},b<wl.heap.size→b<w.heap.size∧b≠Gc∧w.heap.size≤w.heap.size:=fun {b} h=>⟨by omega,by omega,Nat.le_refl _⟩;have cf:∀i,i<c.nC→c.codeN i=false:=fun i hi=>by
  cases e:c.codeN i with
  |false=>rfl
  |true=>have h1:=hcn i hi e;have h2:=(hall i hi).2.2.1.1;omega
 have hcode:∀i,i<c.nC→∃ty,RowF wl (cb i) ((c.nCode i+2)*4) ty (fun j=>.int .i64 (padZ 4 (c.nCode i) (c.code i) j)):=fun i hi=>hin.code i hi (cf i hi);have hcl:∀i,i<c.nC→cb i<wl.heap.size:=fun i hi=>by obtain ⟨ty,h⟩:=hcode i hi;exact h.lt
 have hil:∀i,i<c.nC→c.imgN i=false→cb i+1<wl.heap.size:=fun i hi e=>by obtain ⟨ty,h⟩:=hin.img i hi e;exact h.lt
 have hrl:∀i,i<c.nT→rb i<wl.heap.size:=fun i hi=>by obtain ⟨ty,h⟩:=(hrow i hi).1 rfl;exact h.lt
 let r:RK:=⟨w.heap.size,Kb,Gc,b0,f0,cap0,cb,fun _=>0,fun i=>c.nCode i+2,fun i=>if c.imgN i then none else some ⟨cb i+1,0,none⟩,fun i=>if c.imgN i then 0 else c.nImg i+2,c.nImg,c.img,c.lim⟩
 let t:Tab:=⟨b1,cap1,c.nT,rb,fun _=>0,fun i=>c.nRow i+2,c.nRow,wnOf c⟩
 have hiq:∀i,i<c.nC→∀b o,r.iq i=some ⟨b,o,none⟩→c.imgN i=false∧b=cb i+1∧o=0:=fun i hi b o e=>by
  have e':(if c.imgN i=true then none else some (⟨cb i+1,0,none⟩:Addr))=some ⟨b,o,none⟩:=e;cases e2:c.imgN i with
  |true=>rw [e2] at e';simp at e'
  |false=>rw [e2] at e';simp at e';exact ⟨rfl,e'.1.symm,e'.2.symm⟩
 have hkn:RNow w k r (rcOf (s0 c) (fun _=>.slice none 0 0)) (s0 c).m (s0 c).xs:=by
  refine ⟨?_,?_,⟨hKr.lt,hne,Nat.le_refl _⟩,st hb0,fun i hi=>st (hcl i (by omega)),fun i hi b o e=>?_,fun i b hi e=>by simp [rcOf,Value.ownBlock] at e,fun i hi=>?_,fun i hi=>?_,fun i hi=>?_,fun i hi j hj=>?_,fun i hi=>?_,?_,fun i hi=>World.ownsRow_nil _ _ _ _,fun i j _ _ _ b e=>by simp [rcOf,Value.ownBlock] at e,fun i hi=>(hall i (by omega)).2.1,fun i hi=>?_,fun i hi=>?_,fun i hi j _ _=>rfl⟩
  ·rw [hk1];exact hKr.cell (j:=0) (by omega)
  ·rw [hk1];exact hKr.cell (j:=4) (by omega)
  ·obtain ⟨h1,h2,h3⟩:=hiq i (by omega) b o e;subst h2;exact st (hil i (by omega) h1)
  ·have:=up hb0 (c0 (i*3) (by omega));rw [(XP c cb i).1,cf i (by omega)] at this;rw [hk2];exact this
  ·have:=up hb0 (c0 (i*3+1) (by omega));rw [(XP c cb i).2.1,←Nat.add_assoc] at this;refine this.trans ?_;show some (Y6 (c.imgN i) (cb i+1) (c.nImg i))=some (.slice (if c.imgN i=true then none else some ⟨cb i+1,0,none⟩) (c.nImg i) (if c.imgN i=true then 0 else c.nImg i+2));cases e:c.imgN i with
   |true=>rw [him i (by omega) e];rfl
   |false=>rfl
  ·have:=up hb0 (c0 (i*3+2) (by omega));rw [(XP c cb i).2.2,←Nat.add_assoc] at this;exact this
  ·obtain ⟨ty,h⟩:=hcode i (by omega);rw [hk2] at hj;have:=up (hcl i (by omega)) (h.cell (j:=j) (by omega));rw [hk3];show w.cell? ⟨cb i,0+j,none⟩=some (.int .i64 (c.code i j));rw [Nat.zero_add];refine this.trans ?_;unfold padZ;rw [if_pos hj]
  ·show Sl w (if c.imgN i=true then none else some ⟨cb i+1,0,none⟩) (c.nImg i) (fun j=>.int .i64 (c.img i j));cases e:c.imgN i with
   |true=>exact .inl (him i (by omega) e)
   |false=>
    obtain ⟨ty,h⟩:=hin.img i (by omega) e;refine .inr ⟨cb i+1,0,rfl,fun j hj=>?_⟩;have:=up (hil i (by omega) e) (h.cell (j:=j) (by omega));rw [Nat.zero_add];refine this.trans ?_;unfold padZ;rw [if_pos (by omega)]
  ·rw [hk1];refine hGr.congr fun j hj=>?_;have hj26:j / 26<c.nC:=by omega
   unfold refC newR rcOf s0;rw [if_pos hj26];have e46:newZ (c.lim (j / 26)) (c.nImg (j / 26)) (c.img (j / 26)) 46=0:=by
    have:=(hall _ hj26).2.1;unfold newZ;rw [if_neg (by omega),if_neg (by omega),if_neg (by omega)]
   have e47:newZ (c.lim (j / 26)) (c.nImg (j / 26)) (c.img (j / 26)) 47=0:=by
    have:=(hall _ hj26).2.1;unfold newZ;rw [if_neg (by omega),if_neg (by omega),if_neg (by omega)]
   have e3:newZ (c.lim (j / 26)) (c.nImg (j / 26)) (c.img (j / 26)) 3=c.lim (j / 26):=rfl;have:=(hall _ hj26).1.1;simp only [e46,e47,e3];rw [decide_eq_false (by omega)]
  ·rw [hk2];exact (hall i (by omega)).2.2.1.2
  ·rw [hk2,hk3];exact Y2c (hall i (by omega)) hch hd
 refine ⟨r,t,f1,fun _=>.slice none 0 0,⟨hkn,fun i hi=>?_,⟨?_,fun i hi=>?_,fun i hi b o e=>?_⟩,?_,st hb1,?_,fun i hi=>?_,fun i hi=>st (hrl i hi),fun i hi=>?_,fun i hi j hj=>?_,fun i hi j hj=>?_,ht1,by show c.nT≤1000;omega,fun i hi=>(hwn i hi).1,fun i hi j hj=>?_,by omega,fun b hb'=>?_,fun b hb'=>hb'.2⟩,rfl,rfl,rfl,rfl,rfl⟩
 ·rw [hk2];exact Y1M _ _ _ _ (hall i (by omega)).2.1
 ·show b0≠Kb;omega
 ·show cb i≠Kb;have:=hcl i (by omega);omega
 ·obtain ⟨h1,h2,h3⟩:=hiq i (by omega) b o e;show b≠Kb;have:=hil i (by omega) h1;omega
 ·rw [hk1];rw [hch,hd] at hKr;cases e:c.dvN with
  |true=>rw [e] at hKr;exact ⟨_,_,_,_,_,_,hKr⟩
  |false=>rw [e] at hKr;exact ⟨_,_,_,_,_,_,hKr⟩
 ·show b1≠Kb;omega
 ·exact up hb1 (c1 i hi)
 ·show rb i≠Kb;have:=hrl i hi;omega
 ·obtain ⟨ty,h⟩:=(hrow i hi).1 rfl;have hj':j<c.nRow i:=hj;show w.cell? ⟨rb i,0+j*2,none⟩=some (.int .i64 ((wnOf c i j).1:Int));rw [Nat.zero_add,((hwn i hi).2 j hj).1];refine (up (hrl i hi) (h.cell (j:=j*2) (by omega))).trans ?_;unfold padZ;rw [if_pos (by omega)]
 ·obtain ⟨ty,h⟩:=(hrow i hi).1 rfl;have hj':j<c.nRow i:=hj;show w.cell? ⟨rb i,0+j*2+1,none⟩=some (.int .i64 ((wnOf c i j).2:Int));rw [Nat.zero_add,((hwn i hi).2 j hj).2.1];refine (up (hrl i hi) (h.cell (j:=j*2+1) (by omega))).trans ?_;unfold padZ;rw [if_pos (by omega)]
 ·have:=((hwn i hi).2 j hj).2.2;rw [hk1];exact this
 ·rcases hb' with (hb'|hb'|hb'|⟨i,hi',hb'|⟨o,hb'⟩|hb'⟩)|hb'|⟨i,hi',hb'⟩
  ·subst hb';exact ⟨by omega,hKr.lt⟩
  ·subst hb';exact ⟨by omega,hGr.lt⟩
  ·have e:b=b0:=hb';exact ⟨by omega,by omega⟩
  ·have e:b=cb i:=hb';have h1:=hcl i (by omega);have h2:=(hin.lo i (by omega)).1;exact ⟨by omega,by omega⟩
  ·obtain ⟨h1,h2,h3⟩:=hiq i (by omega) b o hb';have h4:=hil i (by omega) h1;have h5:=(hin.lo i (by omega)).1;exact ⟨by omega,by omega⟩
  ·simp [Value.ownBlock] at hb'
  ·have e:b=b1:=hb';exact ⟨by omega,by omega⟩
  ·have e:b=rb i:=hb';have h1:=hrl i hi';have h2:=(hrow i hi').2.1;exact ⟨by omega,by omega⟩
end
end Go.Proofs.YtdoghgnifkgfdaaGreat.Mute
namespace Go.Proofs.YtdoghgnifkgfdaaGreat
open Go.RowKit
theorem Yan {w:World} {g t:Nat} {a b c:Value} (h:RowF w g 3 t (cells3 a b c)):w.heap[g]?=some (.cells #[a,b,c] t (0,0)):=by
 obtain ⟨cs,h1,h2,h3⟩:=h;rw [h1];congr 2;apply Array.ext
 ·simp [h2]
 ·intro j hj hj';have:=h3 j (by omega);rw [Array.getElem?_eq_getElem hj] at this;have e:=Option.some.inj this;rw [e];have:j=0∨j=1∨j=2:=by omega
  rcases this with rfl|rfl|rfl<;>rfl
theorem Y1z:(Tryz.prog.info? 63).map (·.size)=some 3:=by kernel_rfl
theorem Y3O {P:Program} {fn:Func} {p u:Tmp} {ty:TypeId} (h:fn.results=#[.cell p ty,.tmp u]) (tmps:Array Value) (w:World) (g:Nat) (t:TypeId) (cs:Array Value) (fr:Nat×Nat) (d:TypeDesc)
  (hp:tmps.getD p undef=.pointer (some ⟨g,0,none⟩)) (hg:w.heap[g]?=some (.cells cs t fr))
  (hu:P.underlying ty=some d) (hd:(match d with|.struct _|.array _ _=>true|_=>false)=true) (hi:(P.info? ty).map (·.size)=some cs.size):
  (results fn tmps).run P w=.ok (.tuple #[.agg cs,tmps.getD u undef]) w:=by
 have hp':tmps[p]?.getD undef=.pointer (some ⟨g,0,none⟩):=by simpa using hp
 rw [results_cell_tmp h];simp [hp',asAddr,run_loadVar_row w g t ty cs fr d hg hu hd hi,Result.andThen]
theorem Ji (kb nC cC:Nat) (q:Option Addr) (cell:Int) (w:World) (h2:w.cell? ⟨kb,2,none⟩=some (.slice q nC cC)):
  Calls Tryz.prog 28 #[.pointer (some ⟨kb,0,none⟩),.int .i64 cell] w fun e w'=>e=.returned (.bool (decide (0≤cell∧cell<nC)))∧w'=w:=by
 by_cases h0:0≤cell
 ·go_enter Tryz.func28,Tryz.ntmps28
  go_wp2_with fail
  go_ret;exact ⟨by congr 1;simp;omega,rfl⟩
 ·go_enter Tryz.func28,Tryz.ntmps28
  go_wp2_with fail
  go_ret;exact ⟨by congr 2;simp;omega,rfl⟩
theorem Y3C (kb nC cC:Nat) (q:Option Addr) (cell:Int) (w:World) (h2:w.cell? ⟨kb,2,none⟩=some (.slice q nC cC)) (hc:¬(0≤cell∧cell<nC)):
  Calls Tryz.prog 33 #[.pointer (some ⟨kb,0,none⟩),.int .i64 cell] w fun e w'=>e=.returned (.tuple #[.slice none 0 0,.int .i64 7])∧w'=w:=by
 have hd:decide (0≤cell∧cell<nC)=false:=by simpa using hc
 go_enter Tryz.func33,Tryz.ntmps33
 go_wp2_with fail
 refine (Ji kb nC cC q cell _ h2).mono ?_;rintro e w1 ⟨rfl,rfl⟩;rw [hd];go_wp2_with fail
 go_ret2
 exact ⟨rfl,rfl⟩
theorem Y2i (kb nC cC:Nat) (q:Option Addr) (cell:Int) (w:World) (h2:w.cell? ⟨kb,2,none⟩=some (.slice q nC cC)) (hc:¬(0≤cell∧cell<nC)):
  Calls Tryz.prog 34 #[.pointer (some ⟨kb,0,none⟩),.int .i64 cell] w fun e w'=>e=.returned (.tuple #[.slice none 0 0,.int .i64 7])∧w'=w:=by
 have hd:decide (0≤cell∧cell<nC)=false:=by simpa using hc
 go_enter Tryz.func34,Tryz.ntmps34
 go_wp2_with fail
 refine (Ji kb nC cC q cell _ h2).mono ?_;rintro e w1 ⟨rfl,rfl⟩;rw [hd];go_wp2_with fail
 go_ret2
 exact ⟨rfl,rfl⟩
theorem Y4B (kb nC cC:Nat) (q:Option Addr) (cell:Int) (w:World) (h2:w.cell? ⟨kb,2,none⟩=some (.slice q nC cC)) (hc:¬(0≤cell∧cell<nC)):
  Calls Tryz.prog 35 #[.pointer (some ⟨kb,0,none⟩),.int .i64 cell] w fun e w'=>e=.returned (.tuple #[.agg #[.int .i64 0,.int .i64 0,.bool false],.int .i64 7])∧Below w.heap.size w w':=by
 have hd:decide (0≤cell∧cell<nC)=false:=by simpa using hc
 have HA:Hid (∀o,Below w.heap.size w (w.alloc o)):=fun o=>(Below.refl _ _).alloc (Nat.le_refl _) _;have hlt:=block_lt_of_cell h2
 go_enter Tryz.func35,Tryz.ntmps35
 go_wp2_with fail
 refine (Ji kb nC cC q cell _ (((HA.out _).cell (p:=⟨kb,2,none⟩) hlt).trans h2)).mono ?_;rintro e w1 ⟨rfl,rfl⟩;rw [hd];go_wp2_with fail
 (try simp only [Exit.inBlock,Exit.then])
 refine bodyPost_ret (Y3O (P:=Tryz.prog) rfl _ _ w.heap.size 63 #[.int .i64 0,.int .i64 0,.bool false] (0,0) _ rfl (heap_alloc_new w _) Tryz.underlying63 rfl Y1z) rfl ?_;exact ⟨rfl,HA.out _⟩
theorem Y4N (kb T nC cT cC cell m:Nat) (q:Option Addr) (v:Value) (tz:Nat→Int) (w:World) (h2:w.cell? ⟨kb,2,none⟩=some (.slice q nC cC)) (h4:w.cell? ⟨kb,4,none⟩=some (.slice (some ⟨T,0,none⟩) nC cT)) (ht:w.cell? ⟨T,cell,none⟩=some v)
  (hv:w.ownsRow 0 111 3 v m ((List.range (m*3)).map fun j=>.int .i64 (tz j))) (hc:cell<nC) (hb:24*m≤140737488355328):
  Calls Tryz.prog 33 #[.pointer (some ⟨kb,0,none⟩),.int .i64 cell] w fun e w'=>∃u,e=.returned (.tuple #[u,.int .i64 0])∧Below w.heap.size w w'∧w'.ownsRow w.heap.size 111 3 u m ((List.range (m*3)).map fun j=>.int .i64 (tz j)):=by
 have hd:decide (0≤(cell:Int)∧(cell:Int)<nC)=true:=by simp;omega
 have hli:(cell:Int)<(nC:Int):=by omega
 obtain ⟨p,cap,rfl,-,hz,hs⟩:=Zk hv;have HS:Hid (Sl w p (m*3) fun j=>.int .i64 (tz j)):=hs;have HZ:Hid (p=none→m=0∧cap=0):=hz;clear hv hs hz
 go_enter Tryz.func33,Tryz.ntmps33
 go_wp2_with fail
 refine (Ji kb nC cC q cell _ h2).mono ?_;rintro e w1 ⟨rfl,rfl⟩;rw [hd];go_wp2_with fail
 refine (Y5A p m cap tz _ HS.out HZ.out hb).mono ?_;rintro e w' ⟨u,rfl,h1,h2⟩;have H1:Hid _:=h1;have H2:Hid _:=h2;obtain ⟨pu,mu,cu,rfl⟩:=ZT h2;clear h1 h2;go_wp2_with fail
 go_ret2
 exact ⟨_,rfl,H1.out,H2.out⟩
theorem Y7r (g:Nat) (num:Int) (net code:Value) (z:Nat→Int) (w:World) (hr:RowF w g 48 186 (cellV num net code z)):
  Calls Tryz.prog 61 #[.pointer (some ⟨g,0,none⟩)] w fun e w'=>∃u,e=.returned u∧Below w.heap.size w w'∧w'.ownsRow w.heap.size 2 1 u 16 ((List.range 16).map fun j=>.int .i64 (z (29+j))):=by
 have HS:Hid (Sl w (some ⟨g,29,none⟩) (16*1) fun j=>.int .i64 (z (29+j))):=.inr ⟨g,29,rfl,fun j hj=>by
  rw [hr.cell (by omega)];unfold cellV;rw [if_neg (by omega),if_neg (by omega),if_neg (by omega)]⟩
 clear hr
 go_enter Tryz.func61,Tryz.ntmps61
 go_wp2_with fail
 refine (YaJ (some ⟨g,29,none⟩) 16 16 (fun j=>z (29+j)) _ HS.out (fun h=>by cases h) (by omega)).mono ?_;rintro e w' ⟨u,rfl,h1,h2⟩;have H1:Hid _:=h1;have H2:Hid _:=h2;obtain ⟨pu,mu,cu,rfl⟩:=ZT h2;clear h1 h2;go_wp2_with fail
 go_ret;exact ⟨_,rfl,H1.out,H2.out⟩
theorem Y5V (kb C g nC cC cell:Nat) (num:Int) (net code:Value) (z:Nat→Int) (w:World) (h2:w.cell? ⟨kb,2,none⟩=some (.slice (some ⟨C,0,none⟩) nC cC)) (hp:w.cell? ⟨C,cell,none⟩=some (.pointer (some ⟨g,0,none⟩))) (hr:RowF w g 48 186 (cellV num net code z)) (hc:cell<nC):
  Calls Tryz.prog 34 #[.pointer (some ⟨kb,0,none⟩),.int .i64 cell] w fun e w'=>∃u,e=.returned (.tuple #[u,.int .i64 0])∧Below w.heap.size w w'∧w'.ownsRow w.heap.size 2 1 u 16 ((List.range 16).map fun j=>.int .i64 (z (29+j))):=by
 have hd:decide (0≤(cell:Int)∧(cell:Int)<nC)=true:=by simp;omega
 have hli:(cell:Int)<(nC:Int):=by omega
 have HR:Hid (RowF w g 48 186 (cellV num net code z)):=hr;clear hr
 go_enter Tryz.func34,Tryz.ntmps34
 go_wp2_with fail
 refine (Ji kb nC cC _ cell _ h2).mono ?_;rintro e w1 ⟨rfl,rfl⟩;rw [hd];go_wp2_with fail
 refine (Y7r g num net code z _ HR.out).mono ?_;rintro e w' ⟨u,rfl,h1,h2⟩;have H1:Hid _:=h1;have H2:Hid _:=h2;obtain ⟨pu,mu,cu,rfl⟩:=ZT h2;clear h1 h2;go_wp2_with fail
 go_ret2
 exact ⟨_,rfl,H1.out,H2.out⟩
theorem Y72 (g:Nat) (a b:Int) (w:World) (h47:w.cell? ⟨g,47,none⟩=some (.int .i64 a)) (h3:w.cell? ⟨g,3,none⟩=some (.int .i64 b)):
  Calls Tryz.prog 86 #[.pointer (some ⟨g,0,none⟩)] w fun e w'=>e=.returned (.bool (decide (b<a)))∧w'=w.drew:=by
 go_enter Tryz.func86,Tryz.ntmps86
 go_wp2_with fail
 go_region_held3 (fun W=>W.cell? ⟨g,47,none⟩=some (.int .i64 a)∧W.cell? ⟨g,3,none⟩=some (.int .i64 b)) (go_keep) (fail)
 go_wp2_with fail
 go_ret;exact ⟨rfl,rfl⟩
theorem Y6C (g:Nat) (a b c:Int) (w:World) (h46:w.cell? ⟨g,46,none⟩=some (.int .i64 c)) (h47:w.cell? ⟨g,47,none⟩=some (.int .i64 a)) (h3:w.cell? ⟨g,3,none⟩=some (.int .i64 b)):
  Calls Tryz.prog 62 #[.pointer (some ⟨g,0,none⟩)] w fun e w'=>e=.returned (.agg #[.int .i64 c,.int .i64 a,.bool (decide (b<a))])∧Below w.heap.size w w':=by
 have HA:Hid (∀o,Below w.heap.size w (w.alloc o)):=fun o=>(Below.refl _ _).alloc (Nat.le_refl _) _;have hlt:g<w.heap.size:=block_lt_of_cell h46;have hne:g≠w.heap.size:=by omega
 have A47:Hid (∀o,(w.alloc o).cell? ⟨g,47,none⟩=some (.int .i64 a)):=fun o=>((HA.out o).cell (p:=⟨g,47,none⟩) hlt).trans h47;have A3:Hid (∀o,(w.alloc o).cell? ⟨g,3,none⟩=some (.int .i64 b)):=fun o=>((HA.out o).cell (p:=⟨g,3,none⟩) hlt).trans h3
 go_enter Tryz.func62,Tryz.ntmps62
 go_wp2_with fail
 go_region_held3 (fun W=>W.cell? ⟨g,46,none⟩=some (.int .i64 c)∧W.cell? ⟨g,47,none⟩=some (.int .i64 a)∧W.cell? ⟨g,3,none⟩=some (.int .i64 b)) (go_keep)
  (first
   |(go_at_call 86
     refine (Y72 g a b _ (by exact A47.out _) (by exact A3.out _)).mono ?_;rintro e wl ⟨rfl,rfl⟩))
 go_wp2_with fail
 (try simp only [Exit.inBlock,Exit.then])
 refine bodyPost_ret (results_cell_row (P:=Tryz.prog) rfl _ _ w.heap.size 63 #[.int .i64 c,.int .i64 a,.bool (decide (b<a))] (0,0) _ rfl (by exact heap_alloc_new w _) Tryz.underlying63 rfl Y1z) rfl ?_;exact ⟨rfl,(HA.out _).drew.drew⟩
theorem Ya9 (kb C g nC cC cell:Nat) (num:Int) (net code:Value) (z:Nat→Int) (w:World) (h2:w.cell? ⟨kb,2,none⟩=some (.slice (some ⟨C,0,none⟩) nC cC)) (hp:w.cell? ⟨C,cell,none⟩=some (.pointer (some ⟨g,0,none⟩))) (hr:RowF w g 48 186 (cellV num net code z)) (hc:cell<nC):
  Calls Tryz.prog 35 #[.pointer (some ⟨kb,0,none⟩),.int .i64 cell] w fun e w'=>e=.returned (.tuple #[.agg #[.int .i64 (z 46),.int .i64 (z 47),.bool (decide (z 3<z 47))],.int .i64 0])∧Below w.heap.size w w':=by
 have hd:decide (0≤(cell:Int)∧(cell:Int)<nC)=true:=by simp;omega
 have hli:(cell:Int)<(nC:Int):=by omega
 have HA:Hid (∀o,Below w.heap.size w (w.alloc o)):=fun o=>(Below.refl _ _).alloc (Nat.le_refl _) _;have l2:kb<w.heap.size:=block_lt_of_cell h2;have lC:C<w.heap.size:=block_lt_of_cell hp;have A2:Hid (∀o,(w.alloc o).cell? ⟨kb,2,none⟩=some (.slice (some ⟨C,0,none⟩) nC cC)):=fun o=>((HA.out o).cell (p:=⟨kb,2,none⟩) l2).trans h2;have n2:kb≠w.heap.size:=by omega
 have nC':C≠w.heap.size:=by omega
 have HR:Hid (∀o,RowF (w.alloc o) g 48 186 (cellV num net code z)):=fun o=>hr.alloc o;clear hr
 go_enter Tryz.func35,Tryz.ntmps35
 go_wp2_with fail
 refine (Ji kb nC cC _ cell _ (A2.out _)).mono ?_;rintro e w1 ⟨rfl,rfl⟩;rw [hd];go_wp2_with fail
 refine (Y6C g (z 47) (z 3) (z 46) _ ((HR.out _).cell (by omega)) ((HR.out _).cell (by omega)) ((HR.out _).cell (by omega))).mono ?_;rintro e w' ⟨rfl,h1⟩;have H1:Hid (Below w.heap.size w w'):=(HA.out _).trans (h1.mono (by simp));have HW:Hid (RowF w' w.heap.size 3 63 (cells3 (.int .i64 0) (.int .i64 0) (.bool false))):=(row3 w _ _ _ _).of_heap (h1.block _ (by simp));have b0:=HW.out.at3.1;have b1:=HW.out.at3.2.1;have b2:=HW.out.at3.2.2;have f0:=HW.out.frozen 0;have f1:=HW.out.frozen 1;have f2:=HW.out.frozen 2;clear h1;go_wp2_with fail
 have HF:=Yan ((((HW.out.set3 (.int .i64 (z 46))).1.set3 (.int .i64 (z 47))).2.1.set3 (.bool (decide (z 3<z 47)))).2.2)
 (try simp only [Exit.inBlock,Exit.then])
 refine bodyPost_ret (Y3O (P:=Tryz.prog) rfl _ _ w.heap.size 63 #[.int .i64 (z 46),.int .i64 (z 47),.bool (decide (z 3<z 47))] (0,0) _ rfl (by exact HF) Tryz.underlying63 rfl Y1z) rfl ?_;exact ⟨rfl,((H1.out.setCell (by simp) _).setCell (by simp) _).setCell (by simp) _⟩
end Go.Proofs.YtdoghgnifkgfdaaGreat
