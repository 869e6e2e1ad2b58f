import Derived.Test.YtdoghgnifkgfdaaGreatP00
import Derived.Test.YtdoghgnifkgfdaaGreatP17
import Derived.Test.YtdoghgnifkgfdaaGreatP38
set_option maxRecDepth 100000
set_option maxHeartbeats 16000000
open Option renaming none->Ai,some->yi
open Go renaming World->ui,Value->ti,undef->ri
open Bool renaming true->ji,false->gi
namespace Go.Proofs.YtdoghgnifkgfdaaGreat.Mute
open Tryz Go Go.Conc Go.RowKit
def pB(k:Vu)(s:Hy):Prop:=∀i,i<k.nC->∀v,v∈s.xs i->∃x,v=.int .i64 x
def VF(wn:Nat->Nat×Nat):Nat->Nat
 |0=>0
 |m+1=>VF wn m+(wn m).2+1
section
variable {k:Vu}{N:Nl}{ins:List (Int×Int)}
theorem pB.win{s:Hy}(h:pB k s)(p:Nat×Nat):pB k (gx k N ins p s)/\∀i,(gx k N ins p s).m i<=s.m i+p.2+1:=by
 have hw:=nB (Qp k N ins p.1) p.2 (s.z p.1) s.D;refine⟨fun i hi v hv=>?_,fun i=>?_⟩
 ·have hv':v∈fj s.xs p.1 (s.xs p.1++(lj (Qp k N ins p.1) p.2 (s.z p.1) s.D).1.flatMap Qj) i:=hv;by_cases e:i=p.1
  ·subst e;rw[Oi]at hv';rcases List.mem_append.1 hv' with hv'|hv'
   ·exact h _ hi v hv'
   ·obtain⟨e,he,hm⟩:=List.mem_flatMap.1 hv';obtain⟨a,b,c,rfl⟩:=hw.1 e he;have hm':v∈[Value.int .i64 a,.int .i64 b,.int .i64 c]:=hm;simp only[List.mem_cons,List.not_mem_nil,or_false]at hm';rcases hm' with rfl|rfl|rfl<;>exact⟨_,rfl⟩
  ·rw[cj _ _ e]at hv';exact h _ hi v hv'
 ·show fj s.m p.1 (s.m p.1+(lj (Qp k N ins p.1) p.2 (s.z p.1) s.D).1.length) i<=s.m i+p.2+1;have:=hw.2;by_cases e:i=p.1
  ·subst e;rw[Oi];omega
  ·rw[cj _ _ e];omega
theorem VH(wn:Nat->Nat×Nat):∀(rem j:Nat)(s:Hy),pB k s->pB k (Eo k N ins wn rem j s)/\∀i,(Eo k N ins wn rem j s).m i+VF wn j<=s.m i+VF wn (j+rem)
 |0,_,_,h=>⟨h,fun _=>Nat.le_refl _⟩
 |rem+1,j,s,h=>by
  have hw:=h.win (N:=N) (ins:=ins) (wn j);obtain⟨h1,h2⟩:=VH wn rem (j+1) (gx k N ins (wn j) s) hw.1;refine⟨h1,fun i=>?_⟩;have h3:=h2 i;have h4:=hw.2 i;have h5:VF wn (j+1)=VF wn j+(wn j).2+1:=rfl;show (Eo k N ins wn rem (j+1) (gx k N ins (wn j) s)).m i+VF wn j<=_;rw[show j+(rem+1)=j+1+rem by omega];omega
end
theorem VU(c:vl)(i:Nat):∀m,(∀j,j<m->1<=c.row i (j*2+1))->(VF (az c i) m:Int)=sumTo (c.row i) m+m
 |0,_=>rfl
 |m+1,h=>by
  have h1:=VU c i m (fun j hj=>h j E0);have h2:=h m E0;have h3:VF (az c i) (m+1)=VF (az c i) m+(c.row i (m*2+1)).toNat+1:=rfl;have h4:sumTo (c.row i) (m+1)=sumTo (c.row i) m+c.row i (m*2+1):=rfl;rw[h3,h4];omega
theorem V10{c:vl}{i:Nat}(h:Xp c i):VF (az c i) (c.nRow i)<=206:=by
 obtain⟨h1,h2,h3⟩:=h;have h4:=VU c i (c.nRow i) (fun j hj=>(h2 j hj).2.2);omega
theorem TV{n:Nat}{xs:List ti}(hl:xs.length=n)(h:∀v,v∈xs->∃x,v=.int .i64 x):∃tz:Nat->Int,xs=(List.range n).map fun j=>.int .i64 (tz j):=by
 obtain⟨tz,ht⟩:=choose_lt (0:Int) (n:=n) (P:=fun i x=>xs[i]?=yi (.int .i64 x)) (fun i hi=>by
  obtain⟨x,hx⟩:=h (xs[i]' E0) (List.getElem_mem _);exact⟨x,by rw[List.getElem?_eq_getElem E0,hx]⟩)
 refine⟨tz,List.ext_getElem? fun i=>?_⟩;by_cases hi:i<n
 ·rw[ht i hi];simp[hi]
 ·rw[List.getElem?_eq_none E0];simp[hi]
theorem s60{W:ui}{A il c:Nat}{zi:Nat->Int}(h:Ei W A ((il+2)*2) 59 (fun j=>.int .i64 (Pj 2 il zi j))):InW W (.slice (yi ⟨A,0,Ai⟩) il c) ((List.range il).map fun j=>(zi (j*2),zi (j*2+1))) (Ll W):=by
 refine⟨_,c,by rw[List.length_map,List.length_range],fun j x hj=>?_⟩;have hl:j<il:=by have:=(List.getElem?_eq_some_iff.1 hj).1;exact Yc
 rw[List.getElem?_map,List.getElem?_range hl]at hj;cases hj;have e:∀q,q<il*2->Pj 2 il zi q=zi q:=fun q hq=>if_pos hq;obtain⟨cs,hh,-⟩:=id h;refine⟨A,0,rfl,⟨cs,_,_,hh,U0,U0,U0,U0,U0,U0⟩,?_,?_⟩
 ·rw[Nat.zero_add,h.cell (j:=j*2) E0,e _ E0]
 ·rw[Nat.zero_add,h.cell (j:=j*2+1) E0,e _ E0]
theorem Bo.sub{w:ui}{k:Vu}{K:Nl}{r:RK}{t:Tab}{x:RX}{fr:Nat}{s:Hy}{vs:Nat->ti}{Ls:Nat->Ln}{inV:ti}{il:List (Int×Int)}{S S':Nat->Prop}(h:Bo w k K r t x s vs Ls inV il fr S)(hs:∀b,S b->S' b)(hz:∀b,S' b->b<w.heap.size):Bo w k K r t x s vs Ls inV il fr S':=
 ⟨h.kn,h.net,h.rel,h.wt,h.so,h.lI,h.tb,fun b hb=>hs b (h.vB b hb),hz⟩
structure Pair(w:ui)(K Kb mm ff:Nat)(S S':Nat->Prop):Prop where
 ex:∃(k:Vu)(N:Nl)(t:Tab)(s:Hy)(f:Nat->ti)(lr:Nat->Option Row)(rr:Nat)(r:RK)(t':Tab)(x:RX)(vs:Nat->ti)(Ls:Nat->Ln)(inV:ti)(jl:List (Int×Int))(fr:Nat),zq w k N t s f lr rr S/\Bo w k N r t' x s vs Ls inV jl fr S'/\k.kb=K/\r.Kb=Kb/\t'.nT=t.nT/\t'.nw=t.nw/\t'.wn=t.wn/\rr=fr%t.nT/\(pB k s/\(∀i,i<t.nT->VF (t.wn i) (t.nw i)<=206)/\∀c,N.RD c=x.ch (c*3+2)/\(c<N.k->0<=N.RD c/\N.RD c<k.nC))/\(∀i,s.m i<=mm)/\fr<=ff
 ap:∀b,S b->S' b->False
section
variable {w w':ui}{K Kb mm ff:Nat}{S S':Nat->Prop}
theorem Pair.keep(h:Pair w K Kb mm ff S S')(hk:∀b,S b\/S' b->w'.heap[b]?=w.heap[b]?)(hs:w.heap.size<=w'.heap.size):Pair w' K Kb mm ff S S':=by
 obtain⟨⟨k,N,t,s,f,lr,rr,r,t',x,vs,Ls,inV,jl,fr,h1,h2,h3⟩,ha⟩:=h;exact⟨⟨k,N,t,s,f,lr,rr,r,t',x,vs,Ls,inV,jl,fr,h1.keep (fun b hb=>hk b (.inl hb)) hs,h2.keep (fun b hb=>hk b (.inr hb)) hs,h3⟩,ha⟩
theorem Pair.lt(h:Pair w K Kb mm ff S S'){b:Nat}(hb:S b\/S' b):b<w.heap.size:=by
 obtain⟨⟨k,N,t,s,f,lr,rr,r,t',x,vs,Ls,inV,jl,fr,h1,h2,-⟩,-⟩:=h;rcases hb with hb|hb
 ·exact h1.sz b hb
 ·exact h2.sz b hb
theorem Pair.le(h:Pair w K Kb mm ff S S'){m2 f2:Nat}(hm:mm<=m2)(hf:ff<=f2):Pair w K Kb m2 f2 S S':=by
 obtain⟨⟨k,N,t,s,f,lr,rr,r,t',x,vs,Ls,inV,jl,fr,h1,h2,h3,h4,h5,h6,h7,h8,h9,wI,VI⟩,ha⟩:=h;exact⟨⟨k,N,t,s,f,lr,rr,r,t',x,vs,Ls,inV,jl,fr,h1,h2,h3,h4,h5,h6,h7,h8,h9,fun i=>Nat.le_trans (wI i) hm,Nat.le_trans VI hf⟩,ha⟩
theorem Pair.frame(h:Pair w K Kb mm ff S S'){ip:Option Addr}{il ic:Nat}{zi:Nat->Int}(Pm:Sl w ip (il*2) (fun j=>.int .i64 (zi j)))(hnl:ip=Ai->il=0)(hlS:il=0\/∀lb lo,ip=yi ⟨lb,lo,Ai⟩->¬S lb/\¬S' lb)(hb:16*il<=140737488351232)(sV:mm+1600<=1000000000)(hff:ff<=100000000000):
  Fj prog 21 #[.pointer (yi ⟨K,0,Ai⟩),.pointer (yi ⟨Kb,0,Ai⟩),.slice ip il ic] w (fun v w'=>v=.bool ji/\∃SK SR,Pair w' K Kb (mm+206) (ff+1) SK SR/\ak (fun b=>S b\/S' b) w w'/\(∀b,SK b->S b\/w.heap.size<=b)/\∀b,SR b->S' b\/w.heap.size<=b):=by
 obtain ⟨⟨k,N,t,s,f,lr,rr,r,t',x,vs,Ls,inV,jl,fr,h1,h2,rfl,rfl,h5,h6,h7,h8,h9,wI,VI⟩,ha⟩:=h;have KQ:=h1.rlt;have hz:=h1.sz;have hz':=h2.sz;have fin:∀(s1:Hy) (rr1 fr1:Nat),rr1=fr1 % t.nT->pB k s1->(∀i,s1.m i<=mm+206)->fr1<=ff+1->∀(v:ti) (w':ui),(v=.bool ji/\∃wB wC,(∃f' Vr,zq wB k N t s1 f' Vr rr1 (fun b=>S b\/(w.heap.size+1<=b/\b<wB.heap.size)))/\(∃Sv Jw Dt jl',Bo wC k N r t' x s1 Sv Jw Dt jl' fr1 (fun b=>S' b\/(wB.heap.size<=b/\b<wC.heap.size)))/\w.heap.size+1<=wB.heap.size/\ak S' wB wC/\(∀b,b<wC.heap.size->b≠w.heap.size->w'.heap[b]?=wC.heap[b]?)/\wC.heap.size<=w'.heap.size/\ak (fun b=>S b\/S' b) w w')->
   (v=.bool ji/\∃SK SR,Pair w' k.kb r.Kb (mm+206) (ff+1) SK SR/\ak (fun b=>S b\/S' b) w w'/\(∀b,SK b->S b\/w.heap.size<=b)/\∀b,SR b->S' b\/w.heap.size<=b):=by
  rintro s1 rr1 fr1 g1 g2 g3 g4 v w' ⟨rfl,wB,wC,⟨f',Vr,k1⟩,⟨Sv,Jw,Dt,jl',k2⟩,k3,k4,k5,k6,k7⟩;have hsz:=k4.size;refine⟨rfl,_,_,⟨⟨k,N,t,s1,f',Vr,rr1,r,t',x,Sv,Jw,Dt,jl',fr1,k1.keep (fun b hb=>?_) E0,k2.keep (fun b hb=>k5 b (k2.sz b hb) ?_) k6,rfl,rfl,h5,h6,h7,g1,⟨g2,h9.2⟩,g3,g4⟩,fun b q1 q2=>?_⟩,k7,fun b q=>q.imp id (fun q=>E0),fun b q=>q.imp id (fun q=>E0)⟩
  ·have hl:=k1.sz b hb;rw[k5 b E0 (by rcases hb with q|q<;>first|(have:=hz b q;omega)|omega)];exact k4.block b hl (fun q=>by
    rcases hb with q2|q2
    ·exact ha b q2 q
    ·have:=hz' b q;omega)
  ·rcases hb with q|q
   ·have:=hz' b q;omega
   ·omega
  ·rcases q1 with q1|q1<;>rcases q2 with q2|q2
   ·exact ha b q1 q2
   ·have:=hz b q1;omega
   ·have:=hz' b q2;omega
   ·omega
 have mc0:∀i,s.m i+1600<=1000000000:=fun i=>by have:=wI i;omega
 have kA:∀wA:ui,Below w.heap.size w wA->zq wA k N t s f lr rr S:=fun wA hB=>h1.keep (fun b hb=>hB.block b (hz b hb)) hB.size;have kB:∀wB:ui,w.heap.size+1<=wB.heap.size->(∀b,b<w.heap.size->¬S b->wB.heap[b]?=w.heap[b]?)->Bo wB k N r t' x s vs Ls inV jl fr S':=fun wB hs hB=>h2.keep (fun b hb=>hB b (hz' b hb) (fun q=>ha b q hb)) E0;by_cases h4:il<=4
 ·have hro:=VH (k:=k) (N:=N) (ins:=(List.range il).map fun j=>(zi (j*2),zi (j*2+1))) (t.wn rr) (t.nw rr) 0 s h9.1;refine(nQ (x:=0) (PK:=fun w'=>∃f' Vr,zq w' k N t (ju k N (t.wn rr) (t.nw rr) ((List.range il).map fun j=>(zi (j*2),zi (j*2+1))) s) f' Vr ((rr+1)%t.nT) (fun b=>S b\/(w.heap.size+1<=b/\b<w'.heap.size))) (PR:=fun sB w'=>∃Sv Jw Dt jl',Bo w' k N r t' x (ju k N (t.wn rr) (t.nw rr) ((List.range il).map fun j=>(zi (j*2),zi (j*2+1))) s) Sv Jw Dt jl' (fr+1) (fun b=>S' b\/(sB<=b/\b<w'.heap.size))) Pm hnl hb hz hz' hlS (fun wA hA1 JJ FZ p pl c hp=>?_) (fun wB hs hB=>?_)).mono (fin _ ((rr+1)%t.nT) (fr+1) (by rw[h8,Nat.mod_add_mod]) hro.1 (fun i=>?_) E0)
  ·have hw:InW wA (.slice p pl c) ((List.range il).map fun j=>(zi (j*2),zi (j*2+1))) (Ll wA):=by
    rcases hp with⟨rfl,rfl⟩|⟨rfl,rfl,rfl⟩
    ·exact s60 FZ
    ·exact⟨Ai,c,rfl,fun j x hj=>by simp at hj⟩
   refine((kA wA JJ).frame (fun i=>by have:=mc0 i;omega) hw E0).mono ?_;rintro v w' ⟨rfl,f',Vr,q1,q2⟩;rw[hA1]at q1;exact⟨rfl,⟨f',Vr,q1⟩,q2⟩
  ·have hc:=(kB wB hs hB).calls (ic:=ic) (zi:=zi) (jl:=il) (ip:=ip) E0 mc0 ?_ ?_ h4
   ·rw[h5,h6,h7,<-h8]at hc;exact hc
   ·rcases Pm with e|⟨lb,lo,e,hc⟩
    ·exact .inl e
    ·by_cases h0:il=0
     ·exact .inl E0
     ·exact .inr ⟨lb,lo,e,fun j hj=>(cell_of_heap (a:=⟨lb,lo+j,Ai⟩) (hB lb (cell_lt (hc j hj)) ((hlS.resolve_left h0) lb lo e).1)).trans (hc j hj)⟩
   ·exact hlS.imp id (fun q b o e e2=>(q b o e).2 (by rw[e2];exact h2.vB _ (.inl (.inl rfl))))
  ·have q1:=hro.2 i;have q2:=wI i;have q3:VF (t.wn rr) 0=0:=rfl;have q4:=h9.2.1 rr KQ;rw[Nat.zero_add]at q1;show (Eo k N _ (t.wn rr) (t.nw rr) 0 s).m i<=_;omega
 ·refine(nQ (x:=6) (PK:=fun w'=>∃f' Vr,zq w' k N t s f' Vr rr (fun b=>S b\/(w.heap.size+1<=b/\b<w'.heap.size))) (PR:=fun sB w'=>∃Sv Jw Dt jl',Bo w' k N r t' x s Sv Jw Dt jl' fr (fun b=>S' b\/(sB<=b/\b<w'.heap.size))) Pm hnl hb hz hz' hlS (fun wA hA1 JJ FZ p pl c hp=>?_) (fun wB hs hB=>?_)).mono (fin s rr fr h8 h9.1 (fun i=>by have:=wI i;omega) E0)
  ·refine(MQ (ic:=c) p (show 4<pl by omega)).mono ?_;rintro v w' ⟨rfl,d,rfl⟩;refine⟨rfl,⟨f,lr,((kA wA JJ).keep (w':=wA.at d) (fun _ _=>rfl) (Nat.le_refl _)).sub (fun _ q=>.inl q) (fun b q=>?_)⟩,⟨rfl,rfl,rfl,Nat.le_refl _,fun _ _ _=>rfl⟩⟩;rcases q with q|q
   ·have:=hz b q;show b<wA.heap.size;omega
   ·exact q.2
  ·refine(MN r.Kb ip il ic wB E0).mono ?_;rintro v w' ⟨rfl,d,rfl⟩;refine⟨rfl,⟨vs,Ls,inV,jl,((kB wB hs hB).keep (w':=wB.at d) (fun _ _=>rfl) (Nat.le_refl _)).sub (fun _ q=>.inl q) (fun b q=>?_)⟩,⟨rfl,rfl,rfl,Nat.le_refl _,fun _ _ _=>rfl⟩⟩;rcases q with q|q
   ·have:=hz' b q;show b<wB.heap.size;omega
   ·exact q.2
theorem Bo.cellAt{k:Vu}{N:Nl}{r:RK}{t:Tab}{x:RX}{fr:Nat}{s:Hy}{vs:Nat->ti}{Ls:Nat->Ln}{inV:ti}{jl:List (Int×Int)}(h:Bo w k N r t x s vs Ls inV jl fr S'){i j:Nat}(hi:i<k.nC)(hj:j<26):w.cell? ⟨r.Gc,i*26+j,Ai⟩=yi (Et (Nx s vs noN i) j):=by
 have:=h.kn.row.cell (j:=i*26+j) E0;rw[mV _ _ hj]at this;exact nh
theorem Pair.trace(h:Pair w K Kb mm ff S S')(bw nE:Nat)(a n:Int)(p0 p1 p2 p3 p4:Option Addr)(l0 l1 l2 l3 l4 c0 c1 c2 c3 c4:Nat)(ve:ti)(Ys:List ti)(fB:Nat->ti)(hB:Ei w bw 5 79 fB)(hf:fB 2=ve)(hE:w.ownsRow 0 61 1 ve nE Ys)(aK:ve.ownBlock≠yi bw)(bE:nE<=1000000000)(sV:mm<=1000000000):
  Calls prog 22 #[.pointer (yi ⟨bw,0,Ai⟩),.pointer (yi ⟨K,0,Ai⟩),.pointer (yi ⟨Kb,0,Ai⟩),.agg #[.int .i64 3,.int .i64 a,.int .i64 n,.slice p0 l0 c0,.slice p1 l1 c1,.slice p2 l2 c2,.slice p3 l3 c3,.slice p4 l4 c4]] w fun e w'=>e=.returned (.bool ji)/\∃qE us S base,us.length=4/\w.heap.size<=base/\base<=S/\ou w base S bw 2 79 61 3 nE fB ve us qE (nE+4) (Ys++us) w':=by
 obtain⟨⟨k,N,t,s,f,lr,rr,r,t',x,vs,Ls,inV,jl,fr,h1,h2,rfl,rfl,h5,h6,h7,h8,h9,wI,VI⟩,ha⟩:=h;by_cases hn:0<=n/\n<k.nC
 ·obtain⟨cell,rfl⟩:∃cell:Nat,n=cell:=⟨n.toNat,E0⟩;have hc:cell<k.nC:=by omega
  obtain⟨tz,htz⟩:=TV (h1.dyn.own cell hc).1 (h9.1 cell hc);have o1:=h1.dyn.own cell hc;have o2:=h2.kn.own cell hc;rw[htz]at o1 o2;have o2':w.ownsRow 0 111 3 (vs cell) (s.m cell) ((List.range (s.m cell*3)).map fun j=>.int .i64 (tz j)):=o2;obtain⟨pr,cr,hv,-,-,hs⟩:=Vx o2';have c22:w.cell? ⟨r.Gc,cell*26+22,Ai⟩=yi (vs cell):=h2.cellAt hc E0;rw[hv]at c22;exact rH bw k.kb r.Kb r.Gc k.T k.nC k.cC k.nC k.nC nE cell (s.m cell) cr _ pr (f cell) tz a p0 p1 p2 p3 p4 l0 l1 l2 l3 l4 c0 c1 c2 c3 c4 ve Ys fB w hB hf hE aK bE h1.mI.k2 h1.mI.k4 (h1.dyn.tr.cell hc) o1 h2.kn.h4 c22 hs hc (Nat.le_trans (wI cell) sV)
 ·exact II bw k.kb r.Kb r.Gc k.nC k.cC k.nC nE _ a n p0 p1 p2 p3 p4 l0 l1 l2 l3 l4 c0 c1 c2 c3 c4 ve Ys fB w hB hf hE aK bE h1.mI.k2 h2.kn.h4 hn
theorem Pair.memory(h:Pair w K Kb mm ff S S')(bw nE:Nat)(a n:Int)(p0 p1 p2 p3 p4:Option Addr)(l0 l1 l2 l3 l4 c0 c1 c2 c3 c4:Nat)(ve:ti)(Ys:List ti)(fB:Nat->ti)(hB:Ei w bw 5 79 fB)(hf:fB 3=ve)(hE:w.ownsRow 0 51 1 ve nE Ys)(aK:ve.ownBlock≠yi bw)(bE:nE<=1000000000):
  Calls prog 22 #[.pointer (yi ⟨bw,0,Ai⟩),.pointer (yi ⟨K,0,Ai⟩),.pointer (yi ⟨Kb,0,Ai⟩),.agg #[.int .i64 4,.int .i64 a,.int .i64 n,.slice p0 l0 c0,.slice p1 l1 c1,.slice p2 l2 c2,.slice p3 l3 c3,.slice p4 l4 c4]] w fun e w'=>e=.returned (.bool ji)/\∃qE us S base,us.length=4/\w.heap.size<=base/\base<=S/\ou w base S bw 3 79 51 1 nE fB ve us qE (nE+4) (Ys++us) w':=by
 obtain⟨⟨k,N,t,s,f,lr,rr,r,t',x,vs,Ls,inV,jl,fr,h1,h2,rfl,rfl,h5,h6,h7,h8,h9,wI,VI⟩,ha⟩:=h;by_cases hn:0<=n/\n<k.nC
 ·obtain⟨cell,rfl⟩:∃cell:Nat,n=cell:=⟨n.toNat,E0⟩;have hc:cell<k.nC:=by omega
  refine eG bw k.kb r.Kb r.Gc k.C (k.g cell) k.nC k.cC k.nC nE cell _ _ _ (s.z cell) a p0 p1 p2 p3 p4 l0 l1 l2 l3 l4 c0 c1 c2 c3 c4 ve Ys fB w hB hf hE aK bE h1.mI.k2 (h1.mI.cl cell hc) (h1.dyn.row cell hc) h2.kn.h4 (fun j hj=>?_) hc;have:=h2.cellAt (j:=4+j) hc E0;rw[<-Nat.add_assoc]at this;rw[this];unfold Et;rw[if_pos E0,show 25+(4+j)=29+j by omega];rfl
 ·exact MH bw k.kb r.Kb r.Gc k.nC k.cC k.nC nE _ a n p0 p1 p2 p3 p4 l0 l1 l2 l3 l4 c0 c1 c2 c3 c4 ve Ys fB w hB hf hE aK bE h1.mI.k2 h2.kn.h4 hn
theorem Pair.stats(h:Pair w K Kb mm ff S S')(bw:Nat)(a n:Int)(p0 p1 p2 p3 p4:Option Addr)(l0 l1 l2 l3 l4 c0 c1 c2 c3 c4:Nat):
  Calls prog 22 #[.pointer (yi ⟨bw,0,Ai⟩),.pointer (yi ⟨K,0,Ai⟩),.pointer (yi ⟨Kb,0,Ai⟩),.agg #[.int .i64 5,.int .i64 a,.int .i64 n,.slice p0 l0 c0,.slice p1 l1 c1,.slice p2 l2 c2,.slice p3 l3 c3,.slice p4 l4 c4]] w fun e w'=>e=.returned (.bool ji)/\Below w.heap.size w w':=by
 obtain⟨⟨k,N,t,s,f,lr,rr,r,t',x,vs,Ls,inV,jl,fr,h1,h2,rfl,rfl,h5,h6,h7,h8,h9,wI,VI⟩,ha⟩:=h;by_cases hn:0<=n/\n<k.nC
 ·obtain⟨cell,rfl⟩:∃cell:Nat,n=cell:=⟨n.toNat,E0⟩;have hc:cell<k.nC:=by omega
  exact KH bw k.kb r.Kb r.Gc k.C (k.g cell) k.nC k.cC k.nC cell _ _ _ (s.z cell) a p0 p1 p2 p3 p4 l0 l1 l2 l3 l4 c0 c1 c2 c3 c4 w h1.mI.k2 (h1.mI.cl cell hc) (h1.dyn.row cell hc) h2.kn.h4 (h2.cellAt (j:=23) hc E0) (h2.cellAt (j:=24) hc E0) (h2.cellAt (j:=25) hc E0) hc
 ·exact CJ bw k.kb r.Kb r.Gc k.nC k.cC k.nC _ a n p0 p1 p2 p3 p4 l0 l1 l2 l3 l4 c0 c1 c2 c3 c4 w h1.mI.k2 h2.kn.h4 hn
end
def O10(w:ui)(B N:Nat):World:={w with heap:=Array.ofFn (n:=N) fun i=>if B<=i.1 then w.heap.getD i.1 (.cells #[] 0 (0,0))else .cells #[] 0 (0,0)}
theorem bV(w:ui){B N b:Nat}(h1:B<=b)(h2:b<N)(h3:N<=w.heap.size):(O10 w B N).heap[b]?=w.heap[b]?:=by
 show (Array.ofFn (n:=N) fun i=>if B<=i.1 then w.heap.getD i.1 (.cells #[] 0 (0,0))else .cells #[] 0 (0,0))[b]?=_;rw[Array.getElem?_ofFn,dif_pos h2];simp only[if_pos h1];rw[Array.getD_eq_getD_getElem?,Array.getElem?_eq_getElem E0];rfl
theorem I00(w:ui){B N b:Nat}(h1:b<B):(O10 w B N).heap[b]?=Ai\/(O10 w B N).heap[b]?=yi (.cells #[] 0 (0,0)):=by
 show (Array.ofFn (n:=N) fun i=>if B<=i.1 then w.heap.getD i.1 (.cells #[] 0 (0,0))else .cells #[] 0 (0,0))[b]?=Ai\/_;rw[Array.getElem?_ofFn];by_cases h2:b<N
 ·right
  show (Array.ofFn (n:=N) fun i=>if B<=i.1 then w.heap.getD i.1 (.cells #[] 0 (0,0))else .cells #[] 0 (0,0))[b]?=_;rw[Array.getElem?_ofFn,dif_pos h2];simp only[if_neg (Nat.not_le.2 h1)]
 ·left
  rw[dif_neg h2]
theorem vE(w:ui)(B N:Nat):(O10 w B N).heap.size=N:=Array.size_ofFn
theorem YK{c:vl}{bw m:Nat}{ks rs H2 H3 H4:ti}{BZ i_:List ti}{w w':ui}(h:p00 c bw m ks rs H2 H3 H4 BZ i_ w w')(hi:qy w bw m ks rs H2 H3 H4 BZ i_)(kH:Ui c 0 0)(hcn:∀i,i<c.nC->c.Xl i=ji->c.Zi i=0)(G_:∀i,i<c.nC->c.Yl i=ji->c.Vj i=0)(Bn:c.Jt=ji->c.qj=0)(AH:c.Ws=ji->c.nD=0):
  ∃UY lY K kb S S',ak (RZ bw ks rs) w w'/\qy w' bw (m+1) UY lY H2 H3 H4 (BZ++[.pointer (yi ⟨K,0,Ai⟩)]) (i_++[.pointer (yi ⟨kb,0,Ai⟩)])/\Pair w' K kb 0 0 S S'/\(∀b,S b\/S' b->w.heap.size<=b)/\
   ∀b,UY.ownBlock=yi b\/lY.ownBlock=yi b->((ks.ownBlock=yi b\/rs.ownBlock=yi b)\/w.heap.size<=b)/\¬S b/\¬S' b:=by
 rcases h with⟨h,-⟩|⟨-,UY,lY,K,nb,vt,tr,kb,Gc,L,B,N1,B2,N2,hB,hN1,hN2,⟨Xn,hinv⟩,hsz,JQ,MS,hkm,wl,wk,o0,o1,o2,o3,hwk,hwl,hlr,yo,hrn,hag⟩
 ·exact absurd kH h
 have hNw:N1<=w'.heap.size:=E0;have hm1:=hkm (O10 w' B N1) (fun b h1 h2=>bV w' h1 h2 hNw);have hBK:B<=K:=by
  rcases Nat.lt_or_ge K B with Wi|hge
  ·obtain⟨u,xs,⟨cs,h1,h2,-⟩,-⟩:=hm1;rcases I00 w' (N:=N1) Wi with e|e
   ·rw[e]at h1;cases h1
   ·rw[e]at h1;cases h1
  ·exact hge
 obtain⟨k,N,t,f,hkf,vA,qA,hk3,hk4,hk8,hk9,ph0,Hf0,hk5,hk6,hk7⟩:=nX (c:=c) hm1 hBK kH;obtain⟨r,t',x,hrf,hr1,hr3,EF,hr5,hr6,hr7⟩:=yX hlr yo hrn kH hcn G_ Bn AH qA hk3 hk4 hk8 hk9 ph0;have Oh0:=hkf.keep (w':=w') (fun b hb=>(bV w' hb.1 (by have:=hb.2;rw[vE]at this;exact this) hNw).symm) (by rw[vE];exact hNw);have Yh0:=hrf.keep (w':=w') (fun b hb=>hag b hb.1 (by have:=hb.2;omega)) E0;have jV:=vE w' B N1;have hBN:B<N1:=by
  have h5:=hkf.sz K (hkf.vB K (.inl vA.symm));omega
 refine⟨UY,lY,K,kb,_,_,Xn,hinv,⟨⟨k,N,t,sN c,f,_,0,r,t',x,_,_,_,_,0,Oh0,Yh0,vA,hr1,by rw[hr3,hk5],by rw[EF,hk6],by rw[hr5,hk7],(Nat.zero_mod _).symm,⟨fun i _ v hv=>?_,fun i hi=>?_,fun i=>⟨by rw[Hf0,hr7],fun hi=>by rw[Hf0,qA];exact((Ui.Td0 kH).1 i (by rw[<-hk9];exact hi)).2.2.1⟩⟩,fun _=>Nat.le_refl _,Nat.le_refl _⟩,fun b h1 h2=>?_⟩,fun b hb=>?_,fun b hb=>?_⟩
 ·exact absurd hv (by show ¬v∈([]:List ti);simp)
 ·rw[hk6,hk7];exact V10 (Ui.NL kH i (by rw[<-hk5];exact hi))
 ·have h3:=h1.2;have h4:=h2.1;omega
 ·rcases hb with hb|hb
  ·have:=hb.1;omega
  ·have:=hb.1;omega
 ·rcases hb with hb|hb
  ·rcases JQ b hb with e|⟨e1,e2⟩
   ·have:=(hi.k.lt b e).2;exact⟨.inl (.inl e),fun h=>K4,fun h=>K4⟩
   ·exact⟨.inr E0,fun h=>by have:=h.2;omega,fun h=>K4⟩
  ·rcases MS b hb with e|e
   ·have:=(hi.r.lt b e).2;exact⟨.inl (.inr e),fun h=>K4,fun h=>K4⟩
   ·exact⟨.inr E0,fun h=>by have:=h.2;omega,fun h=>by have:=h.2;omega⟩
def YL(bw:Nat)(ks rs:ti)(v:Nat->ti)(b:Nat):Prop:=b=bw\/ks.ownBlock=yi b\/rs.ownBlock=yi b\/∃l,l<3/\(v l).ownBlock=yi b
def dN(n:Nat)(K:Nat->Nat):List Value:=(List.range n).map fun i=>.pointer (yi ⟨K i,0,Ai⟩)
def lT(l:Nat):Nat:=if l=0 then 61 else if l=1 then 51 else 26
def lK(l:Nat):Nat:=if l=0 then 3 else 1
theorem l3{l:Nat}(h:l<3):l=0\/l=1\/l=2:=E0
theorem eF(l:Nat):lT l≠79/\lT l≠43/\lT l≠83:=by
 unfold lT;split
 ·decide
 ·split<;>decide
theorem Ja0{l l':Nat}(h:l<3)(h':l'<3)(hn:l≠l'):lT l≠lT l':=by
 rcases l3 h with rfl|rfl|rfl<;>rcases l3 h' with rfl|rfl|rfl<;>first|exact absurd rfl hn|decide
structure Vk(w0 w:ui)(bw n mm ff:Nat)(ks rs:ti)(v:Nat->ti)(m:Nat->Nat)(K Kb:Nat->Nat)(S S':Nat->Nat->Prop)(xs:Nat->List ti):Prop where
 win:qy w bw n ks rs (v 0) (v 1) (v 2) (dN n K) (dN n Kb)
 pr:∀i,i<n->Pair w (K i) (Kb i) mm ff (S i) (S' i)
 ap:∀i j b,i<n->j<n->i≠j->S i b\/S' i b->¬(S j b\/S' j b)
 own:∀l,l<3->w.ownsRow 0 (lT l) 1 (v l) (m l) (xs l)
 mkd:∀l,l<3->∀(i:Nat)(u:ti),(xs l)[i]?=yi u->Marked w (lK l) u i
 m4:∀l,l<3->m l%4=0
 sp:∀b,YL bw ks rs v b->∀i,i<n->¬(S i b\/S' i b)
 us:∀l,l<3->∀u,u∈xs l->∀b,u.ownBlock=yi b->b<w.heap.size/\¬YL bw ks rs v b/\∀i,i<n->¬(S i b\/S' i b)
 lo:w0.heap.size<=bw/\(∀l b,l<3->(v l).ownBlock=yi b->w0.heap.size<=b)/\∀i b,i<n->S i b\/S' i b->w0.heap.size<=b
 ph:ak (fun b=>w0.heap.size<=b) w0 w
section
variable {w0 w w':ui}{bw n mm ff:Nat}{ks rs:ti}{v:Nat->ti}{m K Kb:Nat->Nat}{S S':Nat->Nat->Prop}{xs:Nat->List ti}
theorem own_ne{b e s n b2 e2 s2 n2:Nat}{v v2:ti}{xs ys:List ti}(h:w.ownsRow b e s v n xs)(h2:w.ownsRow b2 e2 s2 v2 n2 ys)(he:e≠e2){g:Nat}(hg:v.ownBlock=yi g):v2.ownBlock≠yi g:=fun hg2=>by
 obtain⟨cs,h3⟩:=yx h hg;obtain⟨cs2,h4⟩:=yx h2 hg2;exact lF h3 h4 he rfl
theorem Uz{b e s n g m t:Nat}{v:ti}{xs:List ti}{f:Nat->ti}(h:w.ownsRow b e s v n xs)(hr:Ei w g m t f)(he:e≠t):v.ownBlock≠yi g:=fun hg=>by
 obtain⟨cs,h3⟩:=yx h hg;obtain⟨cs2,h4,-⟩:=hr;exact lF h3 h4 he rfl
theorem Vk.lt(h:Vk w0 w bw n mm ff ks rs v m K Kb S S' xs){b:Nat}(hb:YL bw ks rs v b):b<w.heap.size:=by
 rcases hb with rfl|hb|hb|⟨l,hl,hb⟩
 ·exact h.win.row.lt
 ·exact(h.win.k.lt b hb).2
 ·exact(h.win.r.lt b hb).2
 ·exact((h.own l hl).lt b hb).2
theorem Vk.move(h:Vk w0 w bw n mm ff ks rs v m K Kb S S' xs){m2 f2:Nat}{S2 S2':Nat->Nat->Prop}(hsz:w.heap.size<=w'.heap.size)(eO:ak (fun b=>w0.heap.size<=b) w0 w')
  (hk:∀b,b<w.heap.size->(∀i,i<n->¬(S i b\/S' i b))->w'.heap[b]?=w.heap[b]?)(hpr:∀i,i<n->Pair w' (K i) (Kb i) m2 f2 (S2 i) (S2' i))(hS:∀i b,i<n->S2 i b\/S2' i b->(S i b\/S' i b)\/w.heap.size<=b)(AV:∀i j b,i<n->j<n->i≠j->S2 i b\/S2' i b->¬(S2 j b\/S2' j b)):
  Vk w0 w' bw n m2 f2 ks rs v m K Kb S2 S2' xs:=by
 have hsp:∀b,YL bw ks rs v b->w'.heap[b]?=w.heap[b]?:=fun b hb=>hk b (h.lt hb) (h.sp b hb);refine⟨⟨h.win.row.of_heap (hsp bw (.inl rfl)),ay h.win.k fun b hb=>hsp b (.inr (.inl hb)),ay h.win.r fun b hb=>hsp b (.inr (.inr (.inl hb))),h.win.ne⟩,hpr,AV,fun l hl=>ay (h.own l hl) fun b hb=>hsp b (.inr (.inr (.inr ⟨l,hl,hb⟩))),
  fun l hl i u hu=>(h.mkd l hl i u hu).heap fun b hb=>hk b (h.us l hl u (List.mem_of_getElem? hu) b hb).1 (h.us l hl u (List.mem_of_getElem? hu) b hb).2.2,h.m4,fun b hb i hi hc=>?_,fun l hl u hu b hb=>?_,⟨h.lo.1,h.lo.2.1,fun i b hi hb=>?_⟩,eO⟩
 ·rcases hS i b hi hc with e|e
  ·exact h.sp b hb i hi e
  ·have:=h.lt hb;omega
 ·obtain⟨h1,h2,h3⟩:=h.us l hl u hu b hb;refine⟨E0,h2,fun i hi hc=>?_⟩;rcases hS i b hi hc with e|e
  ·exact h3 i hi e
  ·omega
 ·rcases hS i b hi hb with e|e
  ·exact h.lo.2.2 i b hi e
  ·exact Nat.le_trans h.ph.size e
theorem ak.trans'{P Q:Nat->Prop}{a b c:ui}(h1:ak P a b)(h2:ak Q b c)(hQ:∀j,j<a.heap.size->Q j->P j):ak P a c:=
 ⟨h2.os.trans h1.os,h2.tape.trans h1.tape,h2.output.trans h1.output,Nat.le_trans h1.size h2.size,fun j hj hn=>(h2.block j (Nat.lt_of_lt_of_le hj h1.size) (fun q=>hn (hQ j hj q))).trans (h1.block j hj hn)⟩
theorem Vk.below(h:Vk w0 w bw n mm ff ks rs v m K Kb S S' xs)(hb:Below w.heap.size w w'):Vk w0 w' bw n mm ff ks rs v m K Kb S S' xs:=
 h.move hb.size (ak.trans' h.ph (ak.of_below hb (fun _=>False)) (fun _ _ q=>q.elim)) (fun b hl _=>hb.block b hl) (fun i hi=>(h.pr i hi).keep (fun b hS=>hb.block b ((h.pr i hi).lt hS)) hb.size) (fun _ _ _ hS=>.inl hS) h.ap
theorem Vk.frame(h:Vk w0 w bw n mm ff ks rs v m K Kb S S' xs){i:Nat}(hi:i<n){m2 f2:Nat}(hm:mm<=m2)(hf:ff<=f2){SK SR:Nat->Prop}(hp:Pair w' (K i) (Kb i) m2 f2 SK SR)(hb:ak (fun b=>S i b\/S' i b) w w')(h1:∀b,SK b->S i b\/w.heap.size<=b)(h2:∀b,SR b->S' i b\/w.heap.size<=b):
  Vk w0 w' bw n m2 f2 ks rs v m K Kb (fun j=>if j=i then SK else S j) (fun j=>if j=i then SR else S' j) xs:=by
 have hK:∀b,SK b\/SR b->(S i b\/S' i b)\/w.heap.size<=b:=fun b hb=>by
  rcases hb with hb|hb
  ·exact(h1 b hb).imp .inl id
  ·exact(h2 b hb).imp .inr id
 refine h.move hb.size (ak.trans' h.ph hb (fun j _ q=>h.lo.2.2 i j hi q)) (fun b hl hn=>hb.block b hl (hn i hi)) (fun j hj=>?_) (fun j b hj hS=>?_) (fun j j2 b hj hj2 Jj hS IG=>?_)
 ·by_cases e:j=i
  ·subst e;simp only[if_true];exact hp
  ·simp only[if_neg e];exact((h.pr j hj).keep (fun b hS=>hb.block b ((h.pr j hj).lt hS) (h.ap j i b hj hi e hS)) hb.size).le hm hf
 ·by_cases e:j=i
  ·subst e;simp only[if_true]at hS;exact hK b hS
  ·simp only[if_neg e]at hS;exact .inl hS
 ·by_cases e:j=i
  ·subst e;have e2:j2≠j:=fun e2=>Jj e2.symm;simp only[if_true]at hS;simp only[if_neg e2]at IG;rcases hK b hS with q|q
   ·exact h.ap j j2 b hj hj2 Jj q IG
   ·have:=(h.pr j2 hj2).lt IG;omega
  ·simp only[if_neg e]at hS;by_cases e2:j2=i
   ·subst e2;simp only[if_true]at IG;rcases hK b IG with q|q
    ·exact h.ap j j2 b hj hj2 Jj hS q
    ·have:=(h.pr j hj).lt hS;omega
   ·simp only[if_neg e2]at IG;exact h.ap j j2 b hj hj2 Jj hS IG
theorem eT{k:Nat}{v:ti}{i j:Nat}(h:Marked w k v i)(e:i/4=j/4):Marked w k v j:=by
 unfold Marked at h ⊢;rw[<-e];exact h
theorem Vk.keep(h:Vk w0 w bw n mm ff ks rs v m K Kb S S' xs){l:Nat}(hl:l<3){base Sz:Nat}{v':ti}{us:List ti}(hu:us.length=4)(hb:w.heap.size<=base)(hbS:base<=Sz)(hh:ou w base Sz bw (2+l) 79 (lT l) (lK l) (m l) (cells5 ks rs (v 0) (v 1) (v 2)) (v l) us v' (m l+4) (xs l++us) w'):
  Vk w0 w' bw n mm ff ks rs (fj v l v') (fj m l (m l+4)) K Kb S S' (fj xs l (xs l++us)):=by
 have Nk:=h.win.row;have z_:=Nk.lt;have same:∀b,b<w.heap.size->b≠bw->(v l).ownBlock≠yi b->w'.heap[b]?=w.heap[b]?:=fun b hl h1 h2=>hh.but.block b hl (fun q=>by
  rcases q with q|q|q
  ·exact h1 q
  ·exact h2 q
  ·omega)
 have hblk:∀b,v'.ownBlock=yi b->(v l).ownBlock=yi b\/(Sz<=b/\w.heap.size<=b):=fun b uk=>(hh.blk b uk).imp id (fun q=>⟨q,E0⟩);have hpS:∀i b,i<n->S i b\/S' i b->b<w.heap.size/\w'.heap[b]?=w.heap[b]?:=fun i b hi hS=>by
  have Wi:=(h.pr i hi).lt hS;exact⟨Wi,same b Wi (fun e=>h.sp b (.inl e) i hi hS) (fun e=>h.sp b (.inr (.inr (.inr ⟨l,hl,e⟩))) i hi hS)⟩
 have hold:∀l',l'<3->∀u,u∈xs l'->∀b,u.ownBlock=yi b->w'.heap[b]?=w.heap[b]?:=fun l' GH u MI b uk=>by
  obtain⟨h1,h2,-⟩:=h.us l' GH u MI b uk;exact same b h1 (fun e=>h2 (.inl e)) (fun e=>h2 (.inr (.inr (.inr ⟨l,hl,e⟩))))
 have hlen:(xs l).length=m l:=by have:=(h.own l hl).1;omega
 have hsz:w.heap.size<=w'.heap.size:=hh.but.size;have PW:=h.ph.size;have spo:∀b,YL bw ks rs (fj v l v') b->YL bw ks rs v b\/(Sz<=b/\w.heap.size<=b):=fun b q=>by
  rcases q with q|q|q|⟨l',GH,q⟩
  ·exact .inl (.inl q)
  ·exact .inl (.inr (.inl q))
  ·exact .inl (.inr (.inr (.inl q)))
  ·by_cases e:l'=l
   ·subst e;rw[Oi]at q;exact(hblk b q).imp (fun q=>.inr (.inr (.inr ⟨l',GH,q⟩))) id
   ·rw[cj _ _ e]at q;exact .inl (.inr (.inr (.inr ⟨l',GH,q⟩)))
 refine⟨⟨hh.row.congr fun j hj=>?_,ay h.win.k fun b uk=>same b (h.win.k.lt b uk).2 (by have:=(h.win.k.lt b uk).1;omega) (own_ne h.win.k (h.own l hl) (fun e=>(eF l).2.1 e.symm) uk),ay h.win.r fun b uk=>same b (h.win.r.lt b uk).2 (by have:=(h.win.r.lt b uk).1;omega) (own_ne h.win.r (h.own l hl) (fun e=>(eF l).2.2 e.symm) uk),h.win.ne⟩,fun i hi=>(h.pr i hi).keep (fun b hS=>(hpS i b hi hS).2) hsz,h.ap,fun l' GH=>?_,fun l' GH i u MI=>?_,fun l' GH=>?_,fun b uk i hi hS=>?_,fun l' GH u MI b uk=>?_,⟨h.lo.1,fun l' b GH uk=>?_,h.lo.2.2⟩,ak.trans' h.ph hh.but fun j hj q=>?_⟩
 ·rcases l3 hl with rfl|rfl|rfl <;>
  ·have:j=0\/j=1\/j=2\/j=3\/j=4:=by omega
   rcases this with rfl|rfl|rfl|rfl|rfl<;>rfl
 ·by_cases e:l'=l
  ·subst e;rw[Oi,Oi,Oi];exact hh.own
  ·rw[cj _ _ e,cj _ _ e,cj _ _ e];have ho:=h.own l' GH;exact ay ho fun b uk=>same b (ho.lt b uk).2 (fun e=>Uz ho Nk (eF l').1 (e▸uk)) (own_ne ho (h.own l hl) (Ja0 GH hl e) uk)
 ·by_cases e:l'=l
  ·subst e;rw[Oi]at MI;rcases Nat.lt_or_ge i (m l')with Wi|hge
   ·rw[List.getElem?_append_left E0]at MI;exact(h.mkd l' hl i u MI).heap fun b uk=>hold l' hl u (List.mem_of_getElem? MI) b uk
   ·rw[List.getElem?_append_right E0]at MI;have Wi:i-(xs l').length<us.length:=(List.getElem?_eq_some_iff.1 MI).1;have h4:=h.m4 l' hl;exact eT (hh.full u (List.mem_of_getElem? MI)) E0
  ·rw[cj _ _ e]at MI;exact(h.mkd l' GH i u MI).heap fun b uk=>hold l' GH u (List.mem_of_getElem? MI) b uk
 ·have h4:=h.m4 l' GH;by_cases e:l'=l
  ·subst e;rw[Oi];omega
  ·rw[cj _ _ e];exact h4
 ·have Wi:=(h.pr i hi).lt hS;rcases spo b uk with q|q
  ·exact h.sp b q i hi hS
  ·omega
 ·have Pm:(b<w.heap.size/\¬YL bw ks rs v b/\∀i,i<n->¬(S i b\/S' i b))\/(base<=b/\b<Sz):=by
   by_cases e:l'=l
   ·subst e;rw[Oi]at MI;rcases List.mem_append.1 MI with q|q
    ·exact .inl (h.us l' hl u q b uk)
    ·exact .inr (hh.ub u q b uk)
   ·rw[cj _ _ e]at MI;exact .inl (h.us l' GH u MI b uk)
  have hSz:=hh.sz;rcases Pm with⟨q1,q2,q3⟩|⟨q1,q2⟩
  ·exact⟨E0,fun hs=>(spo b hs).elim q2 (fun q=>E0),q3⟩
  ·refine⟨E0,fun hs=>?_,fun i hi hS=>by have:=(h.pr i hi).lt hS;omega⟩;rcases spo b hs with q|q
   ·have:=h.lt q;omega
   ·omega
 ·by_cases e:l'=l
  ·subst e;rw[Oi]at uk;rcases hblk b uk with q|q
   ·exact h.lo.2.1 l' b hl q
   ·omega
  ·rw[cj _ _ e]at uk;exact h.lo.2.1 l' b GH uk
 ·rcases q with q|q|q
  ·rw[q];exact h.lo.1
  ·exact h.lo.2.1 l j hl q
  ·show w0.heap.size<=j;omega
theorem uK(n:Nat)(K:Nat->Nat)(a:Nat):dN n K++[.pointer (yi ⟨a,0,Ai⟩)]=dN (n+1) (fun i=>if i=n then a else K i):=by
 unfold dN;rw[List.range_succ,List.map_append];simp only[List.map_cons,List.map_nil,if_true];congr 1;refine List.map_congr_left fun i hi=>?_;have:=List.mem_range.1 hi;rw[if_neg E0]
theorem Vk.made(h:Vk w0 w bw n mm ff ks rs v m K Kb S S' xs){UY lY:ti}{a b':Nat}{ST ST':Nat->Prop}(Xn:ak (RZ bw ks rs) w w')(hinv:qy w' bw (n+1) UY lY (v 0) (v 1) (v 2) (dN n K++[.pointer (yi ⟨a,0,Ai⟩)]) (dN n Kb++[.pointer (yi ⟨b',0,Ai⟩)]))(hp:Pair w' a b' 0 0 ST ST')(i10:∀b,ST b\/ST' b->w.heap.size<=b)
  (JQ:∀b,UY.ownBlock=yi b\/lY.ownBlock=yi b->((ks.ownBlock=yi b\/rs.ownBlock=yi b)\/w.heap.size<=b)/\¬ST b/\¬ST' b):
  Vk w0 w' bw (n+1) mm ff UY lY v m (fun i=>if i=n then a else K i) (fun i=>if i=n then b' else Kb i) (fun i=>if i=n then ST else S i) (fun i=>if i=n then ST' else S' i) xs:=by
 rw[uK,uK]at hinv;have PW:=h.ph.size;have hsz:=Xn.size;have z_:=h.win.row.lt;have same:∀b,b<w.heap.size->b≠bw->ks.ownBlock≠yi b->rs.ownBlock≠yi b->w'.heap[b]?=w.heap[b]?:=fun b hl h1 h2 h3=>Xn.block b hl (fun q=>by
  rcases q with q|q|q
  ·exact h1 q
  ·exact h2 q
  ·exact h3 q)
 have hpS:∀i b,i<n->S i b\/S' i b->w'.heap[b]?=w.heap[b]?:=fun i b hi hS=>same b ((h.pr i hi).lt hS) (fun e=>h.sp b (.inl e) i hi hS) (fun e=>h.sp b (.inr (.inl e)) i hi hS) (fun e=>h.sp b (.inr (.inr (.inl e))) i hi hS);have hold:∀l,l<3->∀u,u∈xs l->∀b,u.ownBlock=yi b->w'.heap[b]?=w.heap[b]?:=fun l hl u hu b hb=>by
  obtain⟨h1,h2,-⟩:=h.us l hl u hu b hb;exact same b h1 (fun e=>h2 (.inl e)) (fun e=>h2 (.inr (.inl e))) (fun e=>h2 (.inr (.inr (.inl e))))
 have hkz:∀b,ks.ownBlock=yi b\/rs.ownBlock=yi b->bw+1<=b/\b<w.heap.size:=fun b hb=>by
  rcases hb with hb|hb
  ·exact h.win.k.lt b hb
  ·exact h.win.r.lt b hb
 have uc0:∀b,b<w.heap.size->YL bw UY lY v b->YL bw ks rs v b:=fun b hl hb=>by
  rcases hb with q|q|q|q
  ·exact .inl q
  ·rcases (JQ b (.inl q)).1 with (e|e)|e
   ·exact .inr (.inl e)
   ·exact .inr (.inr (.inl e))
   ·omega
  ·rcases (JQ b (.inr q)).1 with (e|e)|e
   ·exact .inr (.inl e)
   ·exact .inr (.inr (.inl e))
   ·omega
  ·exact .inr (.inr (.inr q))
 refine⟨hinv,fun i hi=>?_,fun i j b hi hj Jj hS IG=>?_,fun l hl=>ay (h.own l hl) fun b hb=>same b ((h.own l hl).lt b hb).2 (fun e=>Uz (h.own l hl) h.win.row (eF l).1 (e▸hb)) (own_ne (h.own l hl) h.win.k (eF l).2.1 hb) (own_ne (h.own l hl) h.win.r (eF l).2.2 hb),fun l hl i u hu=>(h.mkd l hl i u hu).heap fun b hb=>hold l hl u (List.mem_of_getElem? hu) b hb,h.m4,fun b hb i hi hS=>?_,fun l hl u hu b hb=>?_,⟨h.lo.1,h.lo.2.1,fun i b hi hS=>?_⟩,ak.trans' h.ph Xn fun j hj q=>?_⟩
 ·by_cases e:i=n
  ·subst e;simp only[if_true];exact hp.le (Nat.zero_le _) (Nat.zero_le _)
  ·simp only[if_neg e];exact(h.pr i E0).keep (fun b hS=>hpS i b E0 hS) hsz
 ·by_cases e:i=n
  ·subst e;have e2:j≠i:=fun e2=>Jj e2.symm;simp only[if_true]at hS;simp only[if_neg e2]at IG;have h1:=i10 b hS;have h2:=(h.pr j E0).lt IG;omega
  ·simp only[if_neg e]at hS;by_cases e2:j=n
   ·subst e2;simp only[if_true]at IG;have h1:=i10 b IG;have h2:=(h.pr i E0).lt hS;omega
   ·simp only[if_neg e2]at IG;exact h.ap i j b E0 E0 Jj hS IG
 ·by_cases e:i=n
  ·subst e;simp only[if_true]at hS;have h1:=i10 b hS;rcases hb with q|q|q|⟨l,hl,q⟩
   ·omega
   ·have:=(JQ b (.inl q)).2;rcases hS with hS|hS
    ·exact this.1 hS
    ·exact this.2 hS
   ·have:=(JQ b (.inr q)).2;rcases hS with hS|hS
    ·exact this.1 hS
    ·exact this.2 hS
   ·have:=((h.own l hl).lt b q).2;omega
  ·simp only[if_neg e]at hS;exact h.sp b (uc0 b ((h.pr i E0).lt hS) hb) i E0 hS
 ·obtain⟨h1,h2,h3⟩:=h.us l hl u hu b hb;refine⟨E0,fun hs=>h2 (uc0 b h1 hs),fun i hi hS=>?_⟩;by_cases e:i=n
  ·subst e;simp only[if_true]at hS;have:=i10 b hS;omega
  ·simp only[if_neg e]at hS;exact h3 i E0 hS
 ·by_cases e:i=n
  ·subst e;simp only[if_true]at hS;have:=i10 b hS;omega
  ·simp only[if_neg e]at hS;exact h.lo.2.2 i b E0 hS
 ·show w0.heap.size<=j;have hlo:=h.lo.1;rcases q with q|q|q
  ·omega
  ·have:=(hkz j (.inl q)).1;omega
  ·have:=(hkz j (.inr q)).1;omega
theorem lR{xs:List ti}{n:Nat}(h:xs.length=n):xs=(List.range n).map fun i=>xs.getD i (.bool gi):=List.ext_getElem? fun i=>by
 by_cases hi:i<n
 ·rw[List.getElem?_eq_getElem E0];simp[hi,List.getElem?_eq_getElem (show i<xs.length by omega)]
 ·rw[List.getElem?_eq_none E0];simp[hi]
theorem Vk.still(h:Vk w0 w bw n mm ff ks rs v m K Kb S S' xs)(hm:∀l,l<3->m l<=1000000000000):
  Calls prog 23 #[.pointer (yi ⟨bw,2,Ai⟩)] w fun e w'=>e=.returned (.bool ji)/\w'=w:=by
 have sl:∀l,l<3->∃p c,v l=.slice p (m l) c/\Sl w p (m l) (fun i=>(xs l).getD i (.bool gi))/\∀i,i<m l->Marked w (lK l) ((xs l).getD i (.bool gi)) i:=fun l hl=>by
  have ho:=h.own l hl;have hn:(xs l).length=m l:=by have:=ho.1;omega
  rw[lR hn]at ho;obtain⟨p,c,e,-,-,s⟩:=Vx (n:=m l) (size:=1) (F:=fun i=>(xs l).getD i (.bool gi)) (by simpa using ho);refine⟨p,c,e,by simpa using s,fun i hi=>h.mkd l hl i _ ?_⟩;have uI:i<(xs l).length:=E0;simp[uI]
 obtain⟨pE,cE,e1,sE,mE⟩:=sl 0 E0;obtain⟨pW,cW,e2,sW,mW⟩:=sl 1 E0;obtain⟨pC,cC,e3,sC,mC⟩:=sl 2 E0;exact sX bw 2 (m 0) cE (m 1) cW (m 2) cC pE pW pC _ _ _ w ((h.win.row.cell (j:=2) E0).trans (by rw[<-e1];rfl)) ((h.win.row.cell (j:=3) E0).trans (by rw[<-e2];rfl)) ((h.win.row.cell (j:=4) E0).trans (by rw[<-e3];rfl)) sE sW sC mE mW mC (hm 0 E0) (hm 1 E0) (hm 2 E0)
end
def Il(w0:ui)(bw n mm ff N:Nat)(w:ui):Prop:=∃ks rs v m K Kb S S' xs,Vk w0 w bw n mm ff ks rs v m K Kb S S' xs/\∀l,l<3->m l<=N
section
variable {w0 w w':ui}{bw n mm ff N:Nat}{ks rs:ti}{v:Nat->ti}{m K Kb:Nat->Nat}{S S':Nat->Nat->Prop}{xs:Nat->List ti}
theorem Vk.re(h:Vk w0 w bw n mm ff ks rs v m K Kb S S' xs)(τ:Nat->Question->Nat)(d0 d:Nat):Vk (Rj w0 τ d0) (Rj w τ d) bw n mm ff ks rs v m K Kb S S' xs:=
 ⟨⟨h.win.row,h.win.k,h.win.r,h.win.ne⟩,fun i hi=>(h.pr i hi).keep (fun _ _=>rfl) (Nat.le_refl _),h.ap,h.own,h.mkd,h.m4,h.sp,h.us,h.lo,⟨h.ph.os,rfl,h.ph.output,h.ph.size,h.ph.block⟩⟩
theorem Vk.back{τ:Nat->Question->Nat}{d0 d:Nat}(h:Vk (Rj w0 τ d0) (Rj w τ d) bw n mm ff ks rs v m K Kb S S' xs)(d':Nat):Vk w0 (Rj w w0.tape d') bw n mm ff ks rs v m K Kb S S' xs:=
 ⟨⟨h.win.row,h.win.k,h.win.r,h.win.ne⟩,fun i hi=>(h.pr i hi).keep (fun _ _=>rfl) (Nat.le_refl _),h.ap,h.own,h.mkd,h.m4,h.sp,h.us,h.lo,⟨h.ph.os,rfl,h.ph.output,h.ph.size,h.ph.block⟩⟩
theorem Il.back{τ:Nat->Question->Nat}{d0 d:Nat}(h:Il (Rj w0 τ d0) bw n mm ff N (Rj w τ d))(d':Nat):Il w0 bw n mm ff N (Rj w w0.tape d'):=by
 obtain⟨ks,rs,v,m,K,Kb,S,S',xs,h1,h2⟩:=h;exact⟨ks,rs,v,m,K,Kb,S,S',xs,h1.back d',h2⟩
theorem Vk.frameC(h:Vk w0 w bw n mm ff ks rs v m K Kb S S' xs)(hN:∀l,l<3->m l<=N){i:Nat}(hi:i<n){ip:Option Addr}{il ic:Nat}{zi:Nat->Int}(Pm:Sl w ip (il*2) (fun j=>.int .i64 (zi j)))(hp:(ip=Ai/\il=0)\/∃ad,ip=yi ad/\(il=0\/ad.block<w0.heap.size))(hb:16*il<=140737488351232)(sV:mm+1600<=1000000000)(hff:ff<=100000000000):
  Fj prog 21 #[.pointer (yi ⟨K i,0,Ai⟩),.pointer (yi ⟨Kb i,0,Ai⟩),.slice ip il ic] w (fun v w'=>v=.bool ji/\Il w0 bw n (mm+206) (ff+1) N w'):=by
 refine((h.pr i hi).frame Pm (fun e=>?_) ?_ hb sV hff).mono ?_
 ·rcases hp with hp|⟨ad,e2,-⟩
  ·exact hp.2
  ·rw[e]at e2;cases e2
 ·rcases hp with hp|⟨ad,e,hl⟩
  ·exact .inl hp.2
  ·refine hl.imp id fun hl lb lo e2=>?_;rw[e]at e2;cases e2;have GH:lb<w0.heap.size:=hl;exact⟨fun hS=>by have:=h.lo.2.2 i lb hi (.inl hS);omega,fun hS=>by have:=h.lo.2.2 i lb hi (.inr hS);omega⟩
 ·rintro v w' ⟨rfl,SK,SR,h1,h2,h3,h4⟩;exact⟨rfl,ks,rs,_,m,K,Kb,_,_,xs,h.frame hi E0 E0 h1 h2 h3 h4,hN⟩
theorem gP(x:ti):vo prog plan 23 #[x]:=⟨J0,Vi plain func23 J0 _⟩
theorem Vk.VT(h:Vk w0 w bw n mm ff ks rs v m K Kb S S' xs)(hN:∀l,l<3->m l<=1000000000000):
  Fj prog 23 #[.pointer (yi ⟨bw,2,Ai⟩)] w (fun v w'=>v=.bool ji/\Is w w'):=by
 refine Fj.Nu (gP _) (fun v w'=>v=.bool ji/\∃τ d,w'=Rj w τ d) (fun τ=>((h.re τ 0 0).still hN).mono ?_) ?_
 ·exact Ae
 ·exact ia
theorem FR(x y:ti):vo prog plan 20 #[x,y]:=⟨J0,Vi plain func20 J0 _⟩
theorem qR(x y z u:ti):vo prog plan 22 #[x,y,z,u]:=⟨J0,Vi plain func22 J0 _⟩
theorem nU(x y:ti):vo prog plan 18 #[x,y]:=⟨J0,Vi plain func18 J0 _⟩
theorem Vk.ua0(h:Vk w0 w bw n mm ff ks rs v m K Kb S S' xs){args:Array ti}{M:Nat}(hen:vo prog plan 22 args)(hc:∀τ,Vk (Rj w0 τ 0) (Rj w τ 0) bw n mm ff ks rs v m K Kb S S' xs->Calls prog 22 args (Rj w τ 0) (fun e w'=>e=.returned (.bool ji)/\Il (Rj w0 τ 0) bw n mm ff M w')):
  Fj prog 22 args w (fun v w'=>v=.bool ji/\Il w0 bw n mm ff M w'):=by
 have ht:=h.ph.tape;refine Fj.Nu hen (fun v w'=>v=.bool ji/\∃w2 τ d,w'=Rj w2 τ d/\Il (Rj w0 τ 0) bw n mm ff M (Rj w2 τ d)) (fun τ=>(hc τ (h.re τ 0 0)).mono ?_) ?_
 ·rintro e w' ⟨rfl,hw⟩;have e:w'=Rj w' τ w'.drawn:=by
   exact Uh
  exact⟨_,rfl,rfl,w',τ,w'.drawn,e,e▸hw⟩
 ·rintro v w₁ τ d d' ⟨h1,w2,τ',d2,h2,h3⟩;refine⟨h1,?_⟩;rw[ht];have e:Rj w₁ w0.tape d'=Rj (Rj w₁ τ d) w0.tape d':=rfl;rw[e,h2];exact h3.back d'
theorem y00{m:Nat->Nat}{l N:Nat}(h:∀l,l<3->m l<=N)(hl:l<3):∀l',l'<3->fj m l (m l+4) l'<=N+4:=fun l' GH=>by
 have h1:=h l hl;have h2:=h l' GH;unfold fj;split<;>omega
theorem Vk.Bc0(h:Vk w0 w bw n mm ff ks rs v m K Kb S S' xs)(hN:∀l,l<3->m l<=N)(hN':N<=1000000000)(sV:mm<=1000000000){i:Nat}(hi:i<n){kd:Int}(hk:kd=3\/kd=4\/kd=5)(a q:Int)(p0 p1 p2 p3 p4:Option Addr)(l0 l1 l2 l3 l4 c0 c1 c2 c3 c4:Nat):
  Fj prog 22 #[.pointer (yi ⟨bw,0,Ai⟩),.pointer (yi ⟨K i,0,Ai⟩),.pointer (yi ⟨Kb i,0,Ai⟩),.agg #[.int .i64 kd,.int .i64 a,.int .i64 q,.slice p0 l0 c0,.slice p1 l1 c1,.slice p2 l2 c2,.slice p3 l3 c3,.slice p4 l4 c4]] w (fun v w'=>v=.bool ji/\Il w0 bw n mm ff (N+4) w'):=by
 refine h.ua0 (qR _ _ _ _) fun τ hr=>?_;have hp:=hr.pr i hi;have o0:=hr.own 0 E0;have o1:=hr.own 1 E0;have n0:=hN 0 E0;have n1:=hN 1 E0;rcases hk with rfl|rfl|rfl
 ·refine(hp.trace bw (m 0) a q p0 p1 p2 p3 p4 l0 l1 l2 l3 l4 c0 c1 c2 c3 c4 (v 0) (xs 0) _ hr.win.row rfl o0 (Uz o0 hr.win.row (eF 0).1) E0 sV).mono ?_;rintro e w' ⟨rfl,qE,us,Sz,base,h1,h2,h3,h4⟩;exact⟨rfl,_,_,_,_,_,_,_,_,_,hr.keep (l:=0) E0 h1 h2 h3 h4,y00 hN E0⟩
 ·refine(hp.memory bw (m 1) a q p0 p1 p2 p3 p4 l0 l1 l2 l3 l4 c0 c1 c2 c3 c4 (v 1) (xs 1) _ hr.win.row rfl o1 (Uz o1 hr.win.row (eF 1).1) E0).mono ?_;rintro e w' ⟨rfl,qE,us,Sz,base,h1,h2,h3,h4⟩;exact⟨rfl,_,_,_,_,_,_,_,_,_,hr.keep (l:=1) E0 h1 h2 h3 h4,y00 hN E0⟩
 ·refine(hp.stats bw a q p0 p1 p2 p3 p4 l0 l1 l2 l3 l4 c0 c1 c2 c3 c4).mono ?_;rintro e w' ⟨rfl,h1⟩;exact⟨rfl,_,_,_,_,_,_,_,_,_,hr.below h1,fun l hl=>Nat.le_trans (hN l hl) E0⟩
theorem Nc0(c:Int)(n:Nat)(w:ui)(hn:0<n)(hn':n<=1000000000000)(h1:-9223372036854775808<=c)(h2:c<=9223372036854775807):
  Fj prog 20 #[.int .i64 c,.int .i64 n] w (fun v w'=>v=.int .i64 (du c n:Nat)/\Is w w'):=by
 refine Fj.Nu (FR _ _) (fun v w'=>v=.int .i64 (du c n:Nat)/\∃τ d,w'=Rj w τ d) (fun τ=>(pick_any c n _ hn hn' h1 h2).mono ?_) ?_
 ·exact Ae
 ·exact ia
theorem Vk.DU(h:Vk w0 w bw n mm ff ks rs v m K Kb S S' xs)(hN:∀l,l<3->m l<=N){c:vl}{v0 v1 v2 v3:ti}(qL:∀w',(∀b,b<w.heap.size->¬RZ bw ks rs b->w'.heap[b]?=w.heap[b]?)->Bq w' v0 v1 v2 v3 c)(hcw:OD c)(hn:n<=8796093022208):
  Fj prog 18 #[.pointer (yi ⟨bw,0,Ai⟩),.agg #[v0,v1,v2,v3]] w (fun v w'=>v=.bool ji/\((Ui c 0 0/\Il w0 bw (n+1) mm ff N w')\/(¬Ui c 0 0/\Il w0 bw n mm ff N w'))):=by
 have ht:=h.ph.tape;have Vw:(∀i,i<c.nC->c.Xl i=ji->c.Zi i=0)/\(∀i,i<c.nC->c.Yl i=ji->c.Vj i=0)/\(c.Jt=ji->c.qj=0)/\(c.Ws=ji->c.nD=0):=by
  obtain⟨⟨p0,yj,F0,-,-,n0,z0,b0,-,k0⟩,-,⟨p2,cap2,-,-,n2,z2,-⟩,⟨p3,nk,-,-,n3,z3,-⟩⟩:=qL w (fun _ _ _=>rfl);refine⟨fun i hi he=>?_,fun i hi he=>?_,fun he=>(z2 (n2.2 he)).1,fun he=>(z3 (n3.2 he)).1⟩
  ·obtain⟨⟨pi,Yw,_,-,ni,zi,bi,-⟩,-⟩:=k0 i hi;exact(zi (ni.2 he)).1
  ·obtain⟨-,⟨pi,Yw,_,-,ni,zi,bi,-⟩,-⟩:=k0 i hi;exact(zi (ni.2 he)).1
 refine Fj.Nu (nU _ _) (fun v w'=>v=.bool ji/\∃w2 τ d,w'=Rj w2 τ d/\((Ui c 0 0/\Il (Rj w0 τ 0) bw (n+1) mm ff N (Rj w2 τ d))\/(¬Ui c 0 0/\Il (Rj w0 τ 0) bw n mm ff N (Rj w2 τ d)))) (fun τ=>?_) ?_
 ·have hr:=h.re τ 0 0;have out:∀(m:Nat)(w':ui),Il (Rj w0 τ 0) bw m mm ff N w'->w'=Rj w' τ w'.drawn:=fun m w' hw=>by
   exact Uh
  refine(fS c v0 v1 v2 v3 bw n ks rs (v 0) (v 1) (v 2) _ _ (Rj w τ 0) (fun w' hb=>qL w' hb.block) hcw hr.win hn).mono ?_;rintro e w' ⟨rfl,hm⟩;by_cases kH:Ui c 0 0
  ·obtain⟨UY,lY,a,b',ST,ST',m1,m2,m3,m4,m5⟩:=YK hm hr.win kH Vw.1 Vw.2.1 Vw.2.2.1 Vw.2.2.2;have hI:Il (Rj w0 τ 0) bw (n+1) mm ff N w':=⟨_,_,_,_,_,_,_,_,_,hr.made m1 m2 m3 m4 m5,hN⟩;have e:=out _ w' hI;exact⟨_,rfl,rfl,w',τ,w'.drawn,e,.inl ⟨kH,e▸hI⟩⟩
  ·rcases hm with⟨-,hm⟩|⟨hm,-⟩
   ·have hI:Il (Rj w0 τ 0) bw n mm ff N w':=⟨_,_,_,_,_,_,_,_,_,hr.below hm,hN⟩;have e:=out _ w' hI;exact⟨_,rfl,rfl,w',τ,w'.drawn,e,.inr ⟨kH,e▸hI⟩⟩
   ·exact absurd hm kH
 ·rintro v w₁ τ d d' ⟨h1,w2,τ',d2,h2,h3⟩;refine⟨h1,?_⟩;rw[ht];have e:Rj w₁ w0.tape d'=Rj (Rj w₁ τ d) w0.tape d':=rfl;rw[e,h2];exact h3.imp (fun q=>⟨q.1,q.2.back d'⟩) (fun q=>⟨q.1,q.2.back d'⟩)
theorem Vk.agree(h:Vk w0 w bw n mm ff ks rs v m K Kb S S' xs)(hb:∀b,b<w.heap.size->¬RZ bw ks rs b->w'.heap[b]?=w.heap[b]?){b:Nat}(hl:b<w0.heap.size):w'.heap[b]?=w0.heap[b]?:=by
 refine(hb b (Nat.lt_of_lt_of_le hl h.ph.size) (fun q=>?_)).trans (h.ph.block b hl E0);have:=h.lo.1;rcases q with q|q|q
 ·omega
 ·have:=(h.win.k.lt b q).1;omega
 ·have:=(h.win.r.lt b q).1;omega
theorem Vk.start(hr:Ei w bw 5 79 (cells5 (.slice Ai 0 0) (.slice Ai 0 0) (.slice Ai 0 0) (.slice Ai 0 0) (.slice Ai 0 0)))(hlo:w0.heap.size<=bw)(hb:ak (fun b=>w0.heap.size<=b) w0 w):
  Vk w0 w bw 0 0 0 (.slice Ai 0 0) (.slice Ai 0 0) (fun _=>.slice Ai 0 0) (fun _=>0) (fun _=>0) (fun _=>0) (fun _ _=>False) (fun _ _=>False) (fun _=>[]):=
 ⟨⟨hr,World.ownsRow_nil _ _ _ _,World.ownsRow_nil _ _ _ _,fun g hg=>by simp[Value.ownBlock]at hg⟩,fun i hi=>absurd hi (Nat.not_lt_zero _),fun i j b hi=>absurd hi (Nat.not_lt_zero _),fun _ _=>World.ownsRow_nil _ _ _ _,fun _ _ i u hu=>by simp at hu,fun _ _=>rfl,fun b _ i hi=>absurd hi (Nat.not_lt_zero _),fun _ _ u hu=>by simp at hu,⟨hlo,fun _ b _ hb=>by simp[Value.ownBlock]at hb,fun i b hi=>absurd hi (Nat.not_lt_zero _)⟩,hb⟩
end
end Go.Proofs.YtdoghgnifkgfdaaGreat.Mute
