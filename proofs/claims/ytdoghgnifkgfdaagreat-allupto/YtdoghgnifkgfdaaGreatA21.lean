import Derived.Test.YtdoghgnifkgfdaaGreatA20
set_option maxRecDepth 100000
set_option maxHeartbeats 16000000
open Option renaming none->Hn,some->Gn
open Go renaming World->En,Value->Dn,Goroutine->zn,Calls->Zm,Frame->Xm,block_lt_of_cell->Wm,Addr->Vm
open Bool renaming true->Um,false->Tm
open Go.RowKit renaming Below->Sm
open Nat renaming le_trans->Qm,zero_le->Pm,le_refl->Om,lt_of_lt_of_le->Lm,add_assoc->Jm
open List renaming range->Hm,getElem?_append_left->Em
open Array renaming getElem?_eq_getElem->Bm
namespace Go.Proofs.YtdoghgnifkgfdaaGreat.Mute
open Tryz Go Go.Conc Go.RowKit
def LG(k:RA)(s:yC):Prop:=∀i,i<k.nC->∀v,v∈s.xs i->∃x,v=.int .i64 x
def uL(wn:Nat->Nat×Nat):Nat->Nat
 |0=>0
 |m+1=>uL wn m+(wn m).2+1
section
variable {k:RA}{N:Ys}{ins:List (Int×Int)}
theorem LG.win{s:yC}(h:LG k s)(p:Nat×Nat):LG k (jD k N ins p s)/\∀i,(jD k N ins p s).m i<=s.m i+p.2+1:=by
 have hw:=iH (Yw k N ins p.1) p.2 (s.z p.1) s.D;refine⟨fun i hi v hv=>?_,fun i=>?_⟩
 ·have hv':v∈Qo s.xs p.1 (s.xs p.1++(Uo (Yw k N ins p.1) p.2 (s.z p.1) s.D).1.flatMap tq) i:=hv;by_cases e:i=p.1
  ·subst e;rw[Yn]at hv';rcases List.mem_append.1 hv' with hv'|hv'
   ·exact h _ hi v hv'
   ·obtain⟨e,he,hm⟩:=List.mem_flatMap.1 hv';obtain⟨a,b,c,rfl⟩:=hw.1 e he;have hm':v∈[Value.int .i64 a,.int .i64 b,.int .i64 c]:=hm;simp only[List.mem_cons,List.not_mem_nil,or_false]at hm';rcases hm' with rfl|rfl|rfl<;>exact⟨_,rfl⟩
  ·rw[Oo _ _ e]at hv';exact h _ hi v hv'
 ·show Qo s.m p.1 (s.m p.1+(Uo (Yw k N ins p.1) p.2 (s.z p.1) s.D).1.length) i<=s.m i+p.2+1;have:=hw.2;by_cases e:i=p.1
  ·subst e;rw[Yn];omega
  ·refine Xk ?_;omega
theorem FN(wn:Nat->Nat×Nat):∀(ez j:Nat)(s:yC),LG k s->LG k (Hv k N ins wn ez j s)/\∀i,(Hv k N ins wn ez j s).m i+uL wn j<=s.m i+uL wn (j+ez)
 |0,_,_,h=>⟨h,fun _=>Om _⟩
 |ez+1,j,s,h=>by
  have hw:=h.win (N:=N) (ins:=ins) (wn j);obtain⟨h1,h2⟩:=FN wn ez (j+1) (jD k N ins (wn j) s) hw.1;refine⟨h1,fun i=>?_⟩;have h3:=h2 i;have h4:=hw.2 i;have h5:uL wn (j+1)=uL wn j+(wn j).2+1:=rfl;show (Hv k N ins wn ez (j+1) (jD k N ins (wn j) s)).m i+uL wn j<=_;rw[show j+(ez+1)=j+1+ez by omega];omega
end
theorem D00(c:Ur)(i:Nat):∀m,(∀j,j<m->1<=c.row i (j*2+1))->(uL (UD c i) m:Int)=sumTo (c.row i) m+m
 |0,_=>rfl
 |m+1,h=>by
  have h1:=D00 c i m (fun j hj=>h j E0);have h2:=h m E0;have h3:uL (UD c i) (m+1)=uL (UD c i) m+(c.row i (m*2+1)).toNat+1:=rfl;have h4:sumTo (c.row i) (m+1)=sumTo (c.row i) m+c.row i (m*2+1):=rfl;rw[h3,h4];omega
theorem ea0{c:Ur}{i:Nat}(h:Qw c i):uL (UD c i) (c.nRow i)<=206:=by
 obtain⟨h1,h2,h3⟩:=h;have h4:=D00 c i (c.nRow i) (fun j hj=>(h2 j hj).2.2);omega
theorem l20{n:Nat}{xs:List Dn}(hl:xs.length=n)(h:∀v,v∈xs->∃x,v=.int .i64 x):∃tz:Nat->Int,xs=(Hm n).map fun j=>.int .i64 (tz j):=by
 obtain⟨tz,ht⟩:=choose_lt (0:Int) (n:=n) (P:=fun i x=>xs[i]?=Gn (.int .i64 x)) (fun i hi=>by
  obtain⟨x,hx⟩:=h (xs[i]' E0) (List.getElem_mem _);exact⟨x,by rw[List.getElem?_eq_getElem E0,hx]⟩)
 refine⟨tz,List.ext_getElem? fun i=>?_⟩;by_cases hi:i<n
 ·rw[ht i hi];simp[hi]
 ·rw[List.getElem?_eq_none E0];simp[hi]
theorem Ub0{W:En}{A il c:Nat}{zi:Nat->Int}(h:Tn W A ((il+2)*2) 59 (fun j=>.int .i64 (uq 2 il zi j))):InW W (.slice (Gn ⟨A,0,Hn⟩) il c) ((Hm il).map fun j=>(zi (j*2),zi (j*2+1))) (Ws W):=by
 refine⟨_,c,by rw[List.length_map,List.length_range],fun j x hj=>?_⟩;have hl:j<il:=by have:=(List.getElem?_eq_some_iff.1 hj).1;exact Vd
 rw[List.getElem?_map,List.getElem?_range hl]at hj;cases hj;have e:∀q,q<il*2->uq 2 il zi q=zi q:=fun q hq=>if_pos hq;obtain⟨cs,hh,-⟩:=id h;refine⟨A,0,rfl,⟨cs,_,_,hh,U0,U0,U0,U0,U0,U0⟩,?_,?_⟩
 ·rw[Nat.zero_add,h.cell (j:=j*2) E0,e _ E0]
 ·rw[Nat.zero_add,h.cell (j:=j*2+1) E0,e _ E0]
theorem Fv.sub{w:En}{k:RA}{K:Ys}{r:RK}{t:IX}{x:RX}{fr:Nat}{s:yC}{vs:Nat->Dn}{Ls:Nat->Ln}{inV:Dn}{il:List (Int×Int)}{S S':Nat->Prop}(h:Fv w k K r t x s vs Ls inV il fr S)(hs:∀b,S b->S' b)(hz:∀b,S' b->b<w.heap.size):Fv w k K r t x s vs Ls inV il fr S':=
 ⟨h.kn,h.net,h.rel,h.wt,h.so,h.qG,h.tb,fun b hb=>hs b (h.pH b hb),hz⟩
structure Yz(w:En)(K Kb mm ff:Nat)(S S':Nat->Prop):Prop where
 ex:∃(k:RA)(N:Ys)(t:IX)(s:yC)(f:Nat->Dn)(lr:Nat->Option Jp)(rr:Nat)(r:RK)(t':IX)(x:RX)(vs:Nat->Dn)(Ls:Nat->Ln)(inV:Dn)(jl:List (Int×Int))(fr:Nat),Ix w k N t s f lr rr S/\Fv w k N r t' x s vs Ls inV jl fr S'/\k.kb=K/\r.Kb=Kb/\t'.nT=t.nT/\t'.nw=t.nw/\t'.wn=t.wn/\rr=fr%t.nT/\(LG k s/\(∀i,i<t.nT->uL (t.wn i) (t.nw i)<=206)/\∀c,N.Au c=x.ch (c*3+2)/\(c<N.k->0<=N.Au c/\N.Au c<k.nC))/\(∀i,s.m i<=mm)/\fr<=ff
 ap:∀b,S b->S' b->False
section
variable {w w':En}{K Kb mm ff:Nat}{S S':Nat->Prop}
theorem Yz.keep(h:Yz w K Kb mm ff S S')(hk:∀b,S b\/S' b->w'.heap[b]?=w.heap[b]?)(hs:w.heap.size<=w'.heap.size):Yz w' K Kb mm ff S S':=by
 obtain⟨⟨k,N,t,s,f,lr,rr,r,t',x,vs,Ls,inV,jl,fr,h1,h2,h3⟩,ha⟩:=h;exact⟨⟨k,N,t,s,f,lr,rr,r,t',x,vs,Ls,inV,jl,fr,h1.keep (fun b hb=>hk b (.inl hb)) hs,h2.keep (fun b hb=>hk b (.inr hb)) hs,h3⟩,ha⟩
theorem Yz.lt(h:Yz w K Kb mm ff S S'){b:Nat}(hb:S b\/S' b):b<w.heap.size:=by
 obtain⟨⟨k,N,t,s,f,lr,rr,r,t',x,vs,Ls,inV,jl,fr,h1,h2,-⟩,-⟩:=h;rcases hb with hb|hb
 ·exact h1.sz b hb
 ·exact h2.sz b hb
theorem Yz.le(h:Yz w K Kb mm ff S S'){m2 f2:Nat}(hm:mm<=m2)(hf:ff<=f2):Yz w K Kb m2 f2 S S':=by
 obtain⟨⟨k,N,t,s,f,lr,rr,r,t',x,vs,Ls,inV,jl,fr,h1,h2,h3,h4,h5,h6,h7,h8,h9,fO,iO⟩,ha⟩:=h;exact⟨⟨k,N,t,s,f,lr,rr,r,t',x,vs,Ls,inV,jl,fr,h1,h2,h3,h4,h5,h6,h7,h8,h9,fun i=>Qm (fO i) hm,Qm iO hf⟩,ha⟩
theorem Yz.frame(h:Yz w K Kb mm ff S S'){ip:Option Vm}{il ic:Nat}{zi:Nat->Int}(iu:Sl w ip (il*2) (fun j=>.int .i64 (zi j)))(hnl:ip=Hn->il=0)(hlS:il=0\/∀lb lo,ip=Gn ⟨lb,lo,Hn⟩->¬S lb/\¬S' lb)(hb:16*il<=140737488351232)(Y_:mm+1600<=1000000000)(hff:ff<=100000000000):
  Ip prog 21 #[.pointer (Gn ⟨K,0,Hn⟩),.pointer (Gn ⟨Kb,0,Hn⟩),.slice ip il ic] w (fun v w'=>v=.bool Um/\∃SK SR,Yz w' K Kb (mm+206) (ff+1) SK SR/\Jq (fun b=>S b\/S' b) w w'/\(∀b,SK b->S b\/w.heap.size<=b)/\∀b,SR b->S' b\/w.heap.size<=b):=by
 obtain ⟨⟨k,N,t,s,f,lr,rr,r,t',x,vs,Ls,inV,jl,fr,h1,h2,rfl,rfl,h5,h6,h7,h8,h9,fO,iO⟩,ha⟩:=h;have uX:=h1.rlt;have hz:=h1.sz;have hz':=h2.sz;have fin:∀(s1:yC) (rr1 fr1:Nat),rr1=fr1 % t.nT->LG k s1->(∀i,s1.m i<=mm+206)->fr1<=ff+1->∀(v:Dn) (w':En),(v=.bool Um/\∃wB wC,(∃f' Oy,Ix wB k N t s1 f' Oy rr1 (fun b=>S b\/(w.heap.size+1<=b/\b<wB.heap.size)))/\(∃CB EC uz jl',Fv wC k N r t' x s1 CB EC uz jl' fr1 (fun b=>S' b\/(wB.heap.size<=b/\b<wC.heap.size)))/\w.heap.size+1<=wB.heap.size/\Jq S' wB wC/\(∀b,b<wC.heap.size->b≠w.heap.size->w'.heap[b]?=wC.heap[b]?)/\wC.heap.size<=w'.heap.size/\Jq (fun b=>S b\/S' b) w w')->
   (v=.bool Um/\∃SK SR,Yz w' k.kb r.Kb (mm+206) (ff+1) SK SR/\Jq (fun b=>S b\/S' b) w w'/\(∀b,SK b->S b\/w.heap.size<=b)/\∀b,SR b->S' b\/w.heap.size<=b):=by
  rintro s1 rr1 fr1 g1 g2 g3 g4 v w' ⟨rfl,wB,wC,⟨f',Oy,k1⟩,⟨CB,EC,uz,jl',k2⟩,k3,k4,k5,k6,k7⟩;have ju:=k4.size;refine⟨rfl,_,_,⟨⟨k,N,t,s1,f',Oy,rr1,r,t',x,CB,EC,uz,jl',fr1,k1.keep (fun b hb=>?_) E0,k2.keep (fun b hb=>k5 b (k2.sz b hb) ?_) k6,rfl,rfl,h5,h6,h7,g1,⟨g2,h9.2⟩,g3,g4⟩,fun b q1 q2=>?_⟩,k7,fun b q=>q.imp id (fun q=>E0),fun b q=>q.imp id (fun q=>E0)⟩
  ·have hl:=k1.sz b hb;rw[k5 b E0 (by rcases hb with q|q<;>first|(have:=hz b q;omega)|omega)];exact k4.block b hl (fun q=>by
    rcases hb with q2|q2
    ·exact ha b q2 q
    ·have:=hz' b q;omega)
  ·rcases hb with q|q
   ·have:=hz' b q;omega
   ·omega
  ·rcases q1 with q1|q1<;>rcases q2 with q2|q2
   ·exact ha b q1 q2
   ·have:=hz b q1;omega
   ·have:=hz' b q2;omega
   ·omega
 have gk0:∀i,s.m i+1600<=1000000000:=fun i=>by have:=fO i;omega
 have kA:∀wA:En,Sm w.heap.size w wA->Ix wA k N t s f lr rr S:=fun wA hB=>h1.keep (fun b hb=>hB.block b (hz b hb)) hB.size;have kB:∀wB:En,w.heap.size+1<=wB.heap.size->(∀b,b<w.heap.size->¬S b->wB.heap[b]?=w.heap[b]?)->Fv wB k N r t' x s vs Ls inV jl fr S':=fun wB hs hB=>h2.keep (fun b hb=>hB b (hz' b hb) (fun q=>ha b q hb)) E0;by_cases h4:il<=4
 ·have hro:=FN (k:=k) (N:=N) (ins:=(Hm il).map fun j=>(zi (j*2),zi (j*2+1))) (t.wn rr) (t.nw rr) 0 s h9.1;refine(yV (x:=0) (PK:=fun w'=>∃f' Oy,Ix w' k N t (bA k N (t.wn rr) (t.nw rr) ((Hm il).map fun j=>(zi (j*2),zi (j*2+1))) s) f' Oy ((rr+1)%t.nT) (fun b=>S b\/(w.heap.size+1<=b/\b<w'.heap.size))) (PR:=fun sB w'=>∃CB EC uz jl',Fv w' k N r t' x (bA k N (t.wn rr) (t.nw rr) ((Hm il).map fun j=>(zi (j*2),zi (j*2+1))) s) CB EC uz jl' (fr+1) (fun b=>S' b\/(sB<=b/\b<w'.heap.size))) iu hnl hb hz hz' hlS (fun wA hA1 dP hA3 p pl c hp=>?_) (fun wB hs hB=>?_)).mono (fin _ ((rr+1)%t.nT) (fr+1) (by rw[h8,Nat.mod_add_mod]) hro.1 (fun i=>?_) E0)
  ·have hw:InW wA (.slice p pl c) ((Hm il).map fun j=>(zi (j*2),zi (j*2+1))) (Ws wA):=by
    rcases hp with⟨rfl,rfl⟩|⟨rfl,rfl,rfl⟩
    ·exact Ub0 hA3
    ·exact⟨Hn,c,rfl,fun j x hj=>by simp at hj⟩
   refine((kA wA dP).frame (fun i=>by have:=gk0 i;omega) hw E0).mono ?_;rintro v w' ⟨rfl,f',Oy,q1,q2⟩;rw[hA1]at q1;exact⟨rfl,⟨f',Oy,q1⟩,q2⟩
  ·have hc:=(kB wB hs hB).calls (ic:=ic) (zi:=zi) (jl:=il) (ip:=ip) E0 gk0 ?_ ?_ h4
   ·rw[h5,h6,h7,<-h8]at hc;exact hc
   ·rcases iu with e|⟨lb,lo,e,hc⟩
    ·exact .inl e
    ·by_cases h0:il=0
     ·exact .inl E0
     ·exact .inr ⟨lb,lo,e,fun j hj=>(Zn (a:=⟨lb,lo+j,Hn⟩) (hB lb (Rr (hc j hj)) ((hlS.resolve_left h0) lb lo e).1)).trans (hc j hj)⟩
   ·exact hlS.imp id (fun q b o e e2=>(q b o e).2 (by rw[e2];exact h2.pH _ (.inl (.inl rfl))))
  ·have q1:=hro.2 i;have q2:=fO i;have q3:uL (t.wn rr) 0=0:=rfl;have q4:=h9.2.1 rr uX;rw[Nat.zero_add]at q1;show (Hv k N _ (t.wn rr) (t.nw rr) 0 s).m i<=_;omega
 ·refine(yV (x:=6) (PK:=fun w'=>∃f' Oy,Ix w' k N t s f' Oy rr (fun b=>S b\/(w.heap.size+1<=b/\b<w'.heap.size))) (PR:=fun sB w'=>∃CB EC uz jl',Fv w' k N r t' x s CB EC uz jl' fr (fun b=>S' b\/(sB<=b/\b<w'.heap.size))) iu hnl hb hz hz' hlS (fun wA hA1 dP hA3 p pl c hp=>?_) (fun wB hs hB=>?_)).mono (fin s rr fr h8 h9.1 (fun i=>by have:=fO i;omega) E0)
  ·refine(uY (ic:=c) p (show 4<pl by omega)).mono ?_;rintro v w' ⟨rfl,d,rfl⟩;refine⟨rfl,⟨f,lr,((kA wA dP).keep (w':=wA.at d) (fun _ _=>rfl) N8).sub (fun _ q=>.inl q) (fun b q=>?_)⟩,⟨rfl,rfl,rfl,Om _,fun _ _ _=>rfl⟩⟩;rcases q with q|q
   ·have:=hz b q;show b<wA.heap.size;omega
   ·exact q.2
  ·refine(iW r.Kb ip il ic wB E0).mono ?_;rintro v w' ⟨rfl,d,rfl⟩;refine⟨rfl,⟨vs,Ls,inV,jl,((kB wB hs hB).keep (w':=wB.at d) (fun _ _=>rfl) N8).sub (fun _ q=>.inl q) (fun b q=>?_)⟩,⟨rfl,rfl,rfl,Om _,fun _ _ _=>rfl⟩⟩;rcases q with q|q
   ·have:=hz' b q;show b<wB.heap.size;omega
   ·exact q.2
theorem Fv.cellAt{k:RA}{N:Ys}{r:RK}{t:IX}{x:RX}{fr:Nat}{s:yC}{vs:Nat->Dn}{Ls:Nat->Ln}{inV:Dn}{jl:List (Int×Int)}(h:Fv w k N r t x s vs Ls inV jl fr S'){i j:Nat}(hi:i<k.nC)(hj:j<26):w.cell? ⟨r.Gc,i*26+j,Hn⟩=Gn (Ez (JD s vs noN i) j):=by
 have:=h.kn.row.cell (j:=i*26+j) E0;rw[o00 _ _ hj]at this;exact Vh
section
variable (h:Yz w K Kb mm ff S S')(bw nE:Nat)(a n:Int)(p0 p1 p2 p3 p4:Option Vm)(l0 l1 l2 l3 l4 c0 c1 c2 c3 c4:Nat)(ve:Dn)(iw:List Dn)(fB:Nat->Dn)(hB:Tn w bw 5 79 fB)
include h bw nE a n p0 p1 p2 p3 p4 l0 l1 l2 l3 l4 c0 c1 c2 c3 c4 ve iw fB hB
theorem Yz.trace(hf:fB 2=ve)(hE:w.ownsRow 0 61 1 ve nE iw)(eI:ve.ownBlock≠Gn bw)(bE:nE<=1000000000)(Y_:mm<=1000000000):
  Zm prog 22 #[.pointer (Gn ⟨bw,0,Hn⟩),.pointer (Gn ⟨K,0,Hn⟩),.pointer (Gn ⟨Kb,0,Hn⟩),.agg #[.int .i64 3,.int .i64 a,.int .i64 n,.slice p0 l0 c0,.slice p1 l1 c1,.slice p2 l2 c2,.slice p3 l3 c3,.slice p4 l4 c4]] w fun e w'=>e=.returned (.bool Um)/\∃oD us S base,us.length=4/\w.heap.size<=base/\base<=S/\lx w base S bw 2 79 61 3 nE fB ve us oD (nE+4) (iw++us) w':=by
 obtain⟨⟨k,N,t,s,f,lr,rr,r,t',x,vs,Ls,inV,jl,fr,h1,h2,rfl,rfl,h5,h6,h7,h8,h9,fO,iO⟩,ha⟩:=h;by_cases hn:0<=n/\n<k.nC
 ·obtain⟨cell,rfl⟩:∃cell:Nat,n=cell:=⟨n.toNat,E0⟩;have hc:cell<k.nC:=by omega
  obtain⟨tz,htz⟩:=l20 (h1.dyn.own cell hc).1 (h9.1 cell hc);have o1:=h1.dyn.own cell hc;have o2:=h2.kn.own cell hc;rw[htz]at o1 o2;have o2':w.ownsRow 0 111 3 (vs cell) (s.m cell) ((Hm (s.m cell*3)).map fun j=>.int .i64 (tz j)):=o2;obtain⟨pr,cr,hv,-,-,hs⟩:=nB o2';have c22:w.cell? ⟨r.Gc,cell*26+22,Hn⟩=Gn (vs cell):=h2.cellAt hc E0;rw[hv]at c22;exact jM bw k.kb r.Kb r.Gc k.T k.nC k.cC k.nC k.nC nE cell (s.m cell) cr _ pr (f cell) tz a p0 p1 p2 p3 p4 l0 l1 l2 l3 l4 c0 c1 c2 c3 c4 ve iw fB w hB hf hE eI bE h1.OI.k2 h1.OI.k4 (h1.dyn.tr.cell hc) o1 h2.kn.h4 c22 hs hc (Qm (fO cell) Y_)
 ·exact zO bw k.kb r.Kb r.Gc k.nC k.cC k.nC nE _ a n p0 p1 p2 p3 p4 l0 l1 l2 l3 l4 c0 c1 c2 c3 c4 ve iw fB w hB hf hE eI bE h1.OI.k2 h2.kn.h4 hn
theorem Yz.memory(hf:fB 3=ve)(hE:w.ownsRow 0 51 1 ve nE iw)(eI:ve.ownBlock≠Gn bw)(bE:nE<=1000000000):
  Zm prog 22 #[.pointer (Gn ⟨bw,0,Hn⟩),.pointer (Gn ⟨K,0,Hn⟩),.pointer (Gn ⟨Kb,0,Hn⟩),.agg #[.int .i64 4,.int .i64 a,.int .i64 n,.slice p0 l0 c0,.slice p1 l1 c1,.slice p2 l2 c2,.slice p3 l3 c3,.slice p4 l4 c4]] w fun e w'=>e=.returned (.bool Um)/\∃oD us S base,us.length=4/\w.heap.size<=base/\base<=S/\lx w base S bw 3 79 51 1 nE fB ve us oD (nE+4) (iw++us) w':=by
 obtain⟨⟨k,N,t,s,f,lr,rr,r,t',x,vs,Ls,inV,jl,fr,h1,h2,rfl,rfl,h5,h6,h7,h8,h9,fO,iO⟩,ha⟩:=h;by_cases hn:0<=n/\n<k.nC
 ·obtain⟨cell,rfl⟩:∃cell:Nat,n=cell:=⟨n.toNat,E0⟩;have hc:cell<k.nC:=by omega
  refine VK bw k.kb r.Kb r.Gc k.C (k.g cell) k.nC k.cC k.nC nE cell _ _ _ (s.z cell) a p0 p1 p2 p3 p4 l0 l1 l2 l3 l4 c0 c1 c2 c3 c4 ve iw fB w hB hf hE eI bE h1.OI.k2 (h1.OI.cl cell hc) (h1.dyn.row cell hc) h2.kn.h4 (fun j hj=>?_) hc;have:=h2.cellAt (j:=4+j) hc E0;rw[<-Jm]at this;rw[this];unfold Ez;rw[if_pos E0,show 25+(4+j)=29+j by omega];rfl
 ·exact fM bw k.kb r.Kb r.Gc k.nC k.cC k.nC nE _ a n p0 p1 p2 p3 p4 l0 l1 l2 l3 l4 c0 c1 c2 c3 c4 ve iw fB w hB hf hE eI bE h1.OI.k2 h2.kn.h4 hn
end
theorem Yz.stats(h:Yz w K Kb mm ff S S')(bw:Nat)(a n:Int)(p0 p1 p2 p3 p4:Option Vm)(l0 l1 l2 l3 l4 c0 c1 c2 c3 c4:Nat):
  Zm prog 22 #[.pointer (Gn ⟨bw,0,Hn⟩),.pointer (Gn ⟨K,0,Hn⟩),.pointer (Gn ⟨Kb,0,Hn⟩),.agg #[.int .i64 5,.int .i64 a,.int .i64 n,.slice p0 l0 c0,.slice p1 l1 c1,.slice p2 l2 c2,.slice p3 l3 c3,.slice p4 l4 c4]] w fun e w'=>e=.returned (.bool Um)/\Sm w.heap.size w w':=by
 obtain⟨⟨k,N,t,s,f,lr,rr,r,t',x,vs,Ls,inV,jl,fr,h1,h2,rfl,rfl,h5,h6,h7,h8,h9,fO,iO⟩,ha⟩:=h;by_cases hn:0<=n/\n<k.nC
 ·obtain⟨cell,rfl⟩:∃cell:Nat,n=cell:=⟨n.toNat,E0⟩;have hc:cell<k.nC:=by omega
  exact iM bw k.kb r.Kb r.Gc k.C (k.g cell) k.nC k.cC k.nC cell _ _ _ (s.z cell) a p0 p1 p2 p3 p4 l0 l1 l2 l3 l4 c0 c1 c2 c3 c4 w h1.OI.k2 (h1.OI.cl cell hc) (h1.dyn.row cell hc) h2.kn.h4 (h2.cellAt (j:=23) hc E0) (h2.cellAt (j:=24) hc E0) (h2.cellAt (j:=25) hc E0) hc
 ·exact yO bw k.kb r.Kb r.Gc k.nC k.cC k.nC _ a n p0 p1 p2 p3 p4 l0 l1 l2 l3 l4 c0 c1 c2 c3 c4 w h1.OI.k2 h2.kn.h4 hn
end
def s70(w:En)(B N:Nat):World:={w with heap:=Array.ofFn (n:=N) fun i=>if B<=i.1 then w.heap.getD i.1 (.cells #[] 0 (0,0))else .cells #[] 0 (0,0)}
theorem J_(w:En){B N b:Nat}(h1:B<=b)(h2:b<N)(h3:N<=w.heap.size):(s70 w B N).heap[b]?=w.heap[b]?:=by
 show (Array.ofFn (n:=N) fun i=>if B<=i.1 then w.heap.getD i.1 (.cells #[] 0 (0,0))else .cells #[] 0 (0,0))[b]?=_;rw[Array.getElem?_ofFn,dif_pos h2];simp only[if_pos h1];rw[Array.getD_eq_getD_getElem?,Bm E0];rfl
theorem w70(w:En){B N b:Nat}(h1:b<B):(s70 w B N).heap[b]?=Hn\/(s70 w B N).heap[b]?=Gn (.cells #[] 0 (0,0)):=by
 show (Array.ofFn (n:=N) fun i=>if B<=i.1 then w.heap.getD i.1 (.cells #[] 0 (0,0))else .cells #[] 0 (0,0))[b]?=Hn\/_;rw[Array.getElem?_ofFn];by_cases h2:b<N
 ·right
  show (Array.ofFn (n:=N) fun i=>if B<=i.1 then w.heap.getD i.1 (.cells #[] 0 (0,0))else .cells #[] 0 (0,0))[b]?=_;rw[Array.getElem?_ofFn,dif_pos h2];simp only[if_neg (Nat.not_le.2 h1)]
 ·left
  rw[dif_neg h2]
theorem aJ(w:En)(B N:Nat):(s70 w B N).heap.size=N:=Array.size_ofFn
theorem qT{c:Ur}{bw m:Nat}{ks rs H2 H3 H4:Dn}{xsK ysR:List Dn}{w w':En}(h:F60 c bw m ks rs H2 H3 H4 xsK ysR w w')(hi:PE w bw m ks rs H2 H3 H4 xsK ysR)(UM:vo c 0 0)(hcn:∀i,i<c.nC->c.Jt i=Um->c.Ho i=0)(him:∀i,i<c.nC->c.Vt i=Um->c.Hq i=0)(zu:c.aA=Um->c.Zo=0)(JL:c.Vz=Um->c.nD=0):
  ∃ks' rs' K kb S S',Jq (RZ bw ks rs) w w'/\PE w' bw (m+1) ks' rs' H2 H3 H4 (xsK++[.pointer (Gn ⟨K,0,Hn⟩)]) (ysR++[.pointer (Gn ⟨kb,0,Hn⟩)])/\Yz w' K kb 0 0 S S'/\(∀b,S b\/S' b->w.heap.size<=b)/\
   ∀b,ks'.ownBlock=Gn b\/rs'.ownBlock=Gn b->((ks.ownBlock=Gn b\/rs.ownBlock=Gn b)\/w.heap.size<=b)/\¬S b/\¬S' b:=by
 rcases h with⟨h,-⟩|⟨-,ks',rs',K,nb,vt,tr,kb,Gc,L,B,N1,B2,N2,hB,hN1,hN2,⟨Yu,hinv⟩,ju,rX,NY,hkm,wl,wk,o0,o1,o2,o3,hwk,hwl,hlr,Jv,hrn,hag⟩
 ·exact absurd UM h
 have hNw:N1<=w'.heap.size:=E0;have FY:=hkm (s70 w' B N1) (fun b h1 h2=>J_ w' h1 h2 hNw);have hBK:B<=K:=by
  rcases Nat.lt_or_ge K B with yo|hge
  ·obtain⟨u,xs,⟨cs,h1,h2,-⟩,-⟩:=FY;rcases w70 w' (N:=N1) yo with e|e
   ·rw[e]at h1;cases h1
   ·rw[e]at h1;cases h1
  ·exact hge
 obtain⟨k,N,t,f,hkf,xG,jG,hk3,hk4,hk8,hk9,Ep0,Yj0,hk5,hk6,hk7⟩:=q20 (c:=c) FY hBK UM;obtain⟨r,t',x,hrf,hr1,hr3,iL,hr5,hr6,hr7⟩:=k30 hlr Jv hrn UM hcn him zu JL jG hk3 hk4 hk8 hk9 Ep0;have Gp0:=hkf.keep (w':=w') (fun b hb=>(J_ w' hb.1 (by have:=hb.2;rw[aJ]at this;exact this) hNw).symm) (by rw[aJ];exact hNw);have bq0:=hrf.keep (w':=w') (fun b hb=>hag b hb.1 (by have:=hb.2;omega)) E0;have vX:=aJ w' B N1;have hBN:B<N1:=by
  have h5:=hkf.sz K (hkf.pH K (.inl xG.symm));omega
 refine⟨ks',rs',K,kb,_,_,Yu,hinv,⟨⟨k,N,t,sU c,f,_,0,r,t',x,_,_,_,_,0,Gp0,bq0,xG,hr1,by rw[hr3,hk5],by rw[iL,hk6],by rw[hr5,hk7],(Nat.zero_mod _).symm,⟨fun i _ v hv=>?_,fun i hi=>?_,fun i=>⟨by rw[Yj0,hr7],fun hi=>by rw[Yj0,jG];exact((vo.Uk0 UM).1 i (by rw[<-hk9];exact hi)).2.2.1⟩⟩,fun _=>Om _,Om _⟩,fun b h1 h2=>?_⟩,fun b hb=>?_,fun b hb=>?_⟩
 ·exact absurd hv (by show ¬v∈([]:List Dn);simp)
 ·rw[hk6,hk7];exact ea0 (vo.NT UM i (by rw[<-hk5];exact hi))
 ·have h3:=h1.2;have h4:=h2.1;omega
 ·rcases hb with hb|hb
  ·have:=hb.1;omega
  ·have:=hb.1;omega
 ·rcases hb with hb|hb
  ·rcases rX b hb with e|⟨e1,e2⟩
   ·have:=(hi.k.lt b e).2;exact⟨.inl (.inl e),fun h=>P4,fun h=>P4⟩
   ·exact⟨.inr E0,fun h=>by have:=h.2;omega,fun h=>P4⟩
  ·rcases NY b hb with e|e
   ·have:=(hi.r.lt b e).2;exact⟨.inl (.inr e),fun h=>P4,fun h=>P4⟩
   ·exact⟨.inr E0,fun h=>by have:=h.2;omega,fun h=>by have:=h.2;omega⟩
def bR(bw:Nat)(ks rs:Dn)(v:Nat->Dn)(b:Nat):Prop:=b=bw\/ks.ownBlock=Gn b\/rs.ownBlock=Gn b\/∃l,l<3/\(v l).ownBlock=Gn b
def xT(n:Nat)(K:Nat->Nat):List Value:=(Hm n).map fun i=>.pointer (Gn ⟨K i,0,Hn⟩)
def lT(l:Nat):Nat:=if l=0 then 61 else if l=1 then 51 else 26
def lK(l:Nat):Nat:=if l=0 then 3 else 1
theorem l3{l:Nat}(h:l<3):l=0\/l=1\/l=2:=E0
theorem mI(l:Nat):lT l≠79/\lT l≠43/\lT l≠83:=by
 unfold lT;split
 ·decide
 ·split<;>decide
theorem hg0{l l':Nat}(h:l<3)(h':l'<3)(hn:l≠l'):lT l≠lT l':=by
 rcases l3 h with rfl|rfl|rfl<;>rcases l3 h' with rfl|rfl|rfl<;>first|exact absurd rfl hn|decide
structure Vr(w0 w:En)(bw n mm ff:Nat)(ks rs:Dn)(v:Nat->Dn)(m:Nat->Nat)(K Kb:Nat->Nat)(S S':Nat->Nat->Prop)(xs:Nat->List Dn):Prop where
 win:PE w bw n ks rs (v 0) (v 1) (v 2) (xT n K) (xT n Kb)
 pr:∀i,i<n->Yz w (K i) (Kb i) mm ff (S i) (S' i)
 ap:∀i j b,i<n->j<n->i≠j->S i b\/S' i b->¬(S j b\/S' j b)
 own:∀l,l<3->w.ownsRow 0 (lT l) 1 (v l) (m l) (xs l)
 mkd:∀l,l<3->∀(i:Nat)(u:Dn),(xs l)[i]?=Gn u->Ot w (lK l) u i
 m4:∀l,l<3->m l%4=0
 sp:∀b,bR bw ks rs v b->∀i,i<n->¬(S i b\/S' i b)
 us:∀l,l<3->∀u,u∈xs l->∀b,u.ownBlock=Gn b->b<w.heap.size/\¬bR bw ks rs v b/\∀i,i<n->¬(S i b\/S' i b)
 lo:w0.heap.size<=bw/\(∀l b,l<3->(v l).ownBlock=Gn b->w0.heap.size<=b)/\∀i b,i<n->S i b\/S' i b->w0.heap.size<=b
 ph:Jq (fun b=>w0.heap.size<=b) w0 w
section
variable {w0 w w':En}{bw n mm ff:Nat}{ks rs:Dn}{v:Nat->Dn}{m K Kb:Nat->Nat}{S S':Nat->Nat->Prop}{xs:Nat->List Dn}
theorem CN{b e s n b2 e2 s2 n2:Nat}{v v2:Dn}{xs ys:List Dn}(h:w.ownsRow b e s v n xs)(h2:w.ownsRow b2 e2 s2 v2 n2 ys)(he:e≠e2){g:Nat}(hg:v.ownBlock=Gn g):v2.ownBlock≠Gn g:=fun hg2=>by
 obtain⟨cs,h3⟩:=FD h hg;obtain⟨cs2,h4⟩:=FD h2 hg2;exact IK h3 h4 he rfl
theorem bD{b e s n g m t:Nat}{v:Dn}{xs:List Dn}{f:Nat->Dn}(h:w.ownsRow b e s v n xs)(hr:Tn w g m t f)(he:e≠t):v.ownBlock≠Gn g:=fun hg=>by
 obtain⟨cs,h3⟩:=FD h hg;obtain⟨cs2,h4,-⟩:=hr;exact IK h3 h4 he rfl
theorem Vr.lt(h:Vr w0 w bw n mm ff ks rs v m K Kb S S' xs){b:Nat}(hb:bR bw ks rs v b):b<w.heap.size:=by
 rcases hb with rfl|hb|hb|⟨l,hl,hb⟩
 ·exact h.win.row.lt
 ·exact(h.win.k.lt b hb).2
 ·exact(h.win.r.lt b hb).2
 ·exact((h.own l hl).lt b hb).2
theorem Vr.move(h:Vr w0 w bw n mm ff ks rs v m K Kb S S' xs){m2 f2:Nat}{S2 S2':Nat->Nat->Prop}(ju:w.heap.size<=w'.heap.size)(mV:Jq (fun b=>w0.heap.size<=b) w0 w')
  (hk:∀b,b<w.heap.size->(∀i,i<n->¬(S i b\/S' i b))->w'.heap[b]?=w.heap[b]?)(hpr:∀i,i<n->Yz w' (K i) (Kb i) m2 f2 (S2 i) (S2' i))(hS:∀i b,i<n->S2 i b\/S2' i b->(S i b\/S' i b)\/w.heap.size<=b)(T_:∀i j b,i<n->j<n->i≠j->S2 i b\/S2' i b->¬(S2 j b\/S2' j b)):
  Vr w0 w' bw n m2 f2 ks rs v m K Kb S2 S2' xs:=by
 have hsp:∀b,bR bw ks rs v b->w'.heap[b]?=w.heap[b]?:=fun b hb=>hk b (h.lt hb) (h.sp b hb);refine⟨⟨h.win.row.of_heap (hsp bw (.inl rfl)),iC h.win.k fun b hb=>hsp b (.inr (.inl hb)),iC h.win.r fun b hb=>hsp b (.inr (.inr (.inl hb))),h.win.ne⟩,hpr,T_,fun l hl=>iC (h.own l hl) fun b hb=>hsp b (.inr (.inr (.inr ⟨l,hl,hb⟩))),
  fun l hl i u hu=>(h.mkd l hl i u hu).heap fun b hb=>hk b (h.us l hl u (List.mem_of_getElem? hu) b hb).1 (h.us l hl u (List.mem_of_getElem? hu) b hb).2.2,h.m4,fun b hb i hi hc=>?_,fun l hl u hu b hb=>?_,⟨h.lo.1,h.lo.2.1,fun i b hi hb=>?_⟩,mV⟩
 ·rcases hS i b hi hc with e|e
  ·exact h.sp b hb i hi e
  ·have:=h.lt hb;omega
 ·obtain⟨h1,h2,h3⟩:=h.us l hl u hu b hb;refine⟨E0,h2,fun i hi hc=>?_⟩;rcases hS i b hi hc with e|e
  ·exact h3 i hi e
  ·omega
 ·rcases hS i b hi hb with e|e
  ·exact h.lo.2.2 i b hi e
  ·exact Qm h.ph.size e
theorem Jq.trans'{P Q:Nat->Prop}{a b c:En}(h1:Jq P a b)(h2:Jq Q b c)(hQ:∀j,j<a.heap.size->Q j->P j):Jq P a c:=
 ⟨h2.os.trans h1.os,h2.tape.trans h1.tape,h2.output.trans h1.output,Qm h1.size h2.size,fun j hj hn=>(h2.block j (Lm hj h1.size) (fun q=>hn (hQ j hj q))).trans (h1.block j hj hn)⟩
section
variable (h:Vr w0 w bw n mm ff ks rs v m K Kb S S' xs)
include h
theorem Vr.below(hb:Sm w.heap.size w w'):Vr w0 w' bw n mm ff ks rs v m K Kb S S' xs:=
 h.move hb.size (Jq.trans' h.ph (Jq.of_below hb (fun _=>False)) (fun _ _ q=>q.elim)) (fun b hl _=>hb.block b hl) (fun i hi=>(h.pr i hi).keep (fun b hS=>hb.block b ((h.pr i hi).lt hS)) hb.size) (fun _ _ _ hS=>.inl hS) h.ap
theorem Vr.frame{i:Nat}(hi:i<n){m2 f2:Nat}(hm:mm<=m2)(hf:ff<=f2){SK SR:Nat->Prop}(hp:Yz w' (K i) (Kb i) m2 f2 SK SR)(hb:Jq (fun b=>S i b\/S' i b) w w')(h1:∀b,SK b->S i b\/w.heap.size<=b)(h2:∀b,SR b->S' i b\/w.heap.size<=b):
  Vr w0 w' bw n m2 f2 ks rs v m K Kb (fun j=>if j=i then SK else S j) (fun j=>if j=i then SR else S' j) xs:=by
 have hK:∀b,SK b\/SR b->(S i b\/S' i b)\/w.heap.size<=b:=fun b hb=>by
  rcases hb with hb|hb
  ·exact(h1 b hb).imp .inl id
  ·exact(h2 b hb).imp .inr id
 refine h.move hb.size (Jq.trans' h.ph hb (fun j _ q=>h.lo.2.2 i j hi q)) (fun b hl hn=>hb.block b hl (hn i hi)) (fun j hj=>?_) (fun j b hj hS=>?_) (fun j j2 b hj hj2 Yp hS LM=>?_)
 ·by_cases e:j=i
  ·subst e;simp only[if_true];exact hp
  ·simp only[if_neg e];exact((h.pr j hj).keep (fun b hS=>hb.block b ((h.pr j hj).lt hS) (h.ap j i b hj hi e hS)) hb.size).le hm hf
 ·by_cases e:j=i
  ·subst e;simp only[if_true]at hS;exact hK b hS
  ·simp only[if_neg e]at hS;exact .inl hS
 ·by_cases e:j=i
  ·subst e;have e2:j2≠j:=fun e2=>Yp e2.symm;simp only[if_true]at hS;simp only[if_neg e2]at LM;rcases hK b hS with q|q
   ·exact h.ap j j2 b hj hj2 Yp q LM
   ·have:=(h.pr j2 hj2).lt LM;omega
  ·simp only[if_neg e]at hS;by_cases e2:j2=i
   ·subst e2;simp only[if_true]at LM;rcases hK b LM with q|q
    ·exact h.ap j j2 b hj hj2 Yp hS q
    ·have:=(h.pr j hj).lt hS;omega
   ·simp only[if_neg e2]at LM;exact h.ap j j2 b hj hj2 Yp hS LM
end
theorem nZ{k:Nat}{v:Dn}{i j:Nat}(h:Ot w k v i)(e:i/4=j/4):Ot w k v j:=by
 unfold Ot at h ⊢;rw[<-e];exact h
theorem Vr.keep(h:Vr w0 w bw n mm ff ks rs v m K Kb S S' xs){l:Nat}(hl:l<3){base Sz:Nat}{v':Dn}{us:List Dn}(hu:us.length=4)(hb:w.heap.size<=base)(hbS:base<=Sz)(hh:lx w base Sz bw (2+l) 79 (lT l) (lK l) (m l) (cells5 ks rs (v 0) (v 1) (v 2)) (v l) us v' (m l+4) (xs l++us) w'):
  Vr w0 w' bw n mm ff ks rs (Qo v l v') (Qo m l (m l+4)) K Kb S S' (Qo xs l (xs l++us)):=by
 have Ir:=h.win.row;have hbw:=Ir.lt;have same:∀b,b<w.heap.size->b≠bw->(v l).ownBlock≠Gn b->w'.heap[b]?=w.heap[b]?:=fun b hl h1 h2=>hh.but.block b hl (fun q=>by
  rcases q with q|q|q
  ·exact h1 q
  ·exact h2 q
  ·omega)
 have eS:∀b,v'.ownBlock=Gn b->(v l).ownBlock=Gn b\/(Sz<=b/\w.heap.size<=b):=fun b Xq=>(hh.blk b Xq).imp id (fun q=>⟨q,E0⟩);have hpS:∀i b,i<n->S i b\/S' i b->b<w.heap.size/\w'.heap[b]?=w.heap[b]?:=fun i b hi hS=>by
  have yo:=(h.pr i hi).lt hS;exact⟨yo,same b yo (fun e=>h.sp b (.inl e) i hi hS) (fun e=>h.sp b (.inr (.inr (.inr ⟨l,hl,e⟩))) i hi hS)⟩
 have ZM:∀l',l'<3->∀u,u∈xs l'->∀b,u.ownBlock=Gn b->w'.heap[b]?=w.heap[b]?:=fun l' XM u kP b Xq=>by
  obtain⟨h1,h2,-⟩:=h.us l' XM u kP b Xq;exact same b h1 (fun e=>h2 (.inl e)) (fun e=>h2 (.inr (.inr (.inr ⟨l,hl,e⟩))))
 have iy:(xs l).length=m l:=by have:=(h.own l hl).1;omega
 have ju:w.heap.size<=w'.heap.size:=hh.but.size;have hw0:=h.ph.size;have spo:∀b,bR bw ks rs (Qo v l v') b->bR bw ks rs v b\/(Sz<=b/\w.heap.size<=b):=fun b q=>by
  rcases q with q|q|q|⟨l',XM,q⟩
  ·exact .inl (.inl q)
  ·exact .inl (.inr (.inl q))
  ·exact .inl (.inr (.inr (.inl q)))
  ·by_cases e:l'=l
   ·subst e;rw[Yn]at q;exact(eS b q).imp (fun q=>.inr (.inr (.inr ⟨l',XM,q⟩))) id
   ·rw[Oo _ _ e]at q;exact .inl (.inr (.inr (.inr ⟨l',XM,q⟩)))
 refine⟨⟨hh.row.congr fun j hj=>?_,iC h.win.k fun b Xq=>same b (h.win.k.lt b Xq).2 (by have:=(h.win.k.lt b Xq).1;omega) (CN h.win.k (h.own l hl) (fun e=>(mI l).2.1 e.symm) Xq),iC h.win.r fun b Xq=>same b (h.win.r.lt b Xq).2 (by have:=(h.win.r.lt b Xq).1;omega) (CN h.win.r (h.own l hl) (fun e=>(mI l).2.2 e.symm) Xq),h.win.ne⟩,fun i hi=>(h.pr i hi).keep (fun b hS=>(hpS i b hi hS).2) ju,h.ap,fun l' XM=>?_,fun l' XM i u kP=>?_,fun l' XM=>?_,fun b Xq i hi hS=>?_,fun l' XM u kP b Xq=>?_,⟨h.lo.1,fun l' b XM Xq=>?_,h.lo.2.2⟩,Jq.trans' h.ph hh.but fun j hj q=>?_⟩
 ·rcases l3 hl with rfl|rfl|rfl <;>
  ·have:j=0\/j=1\/j=2\/j=3\/j=4:=by omega
   rcases this with rfl|rfl|rfl|rfl|rfl<;>rfl
 ·by_cases e:l'=l
  ·subst e;rw[Yn,Yn,Yn];exact hh.own
  ·rw[Oo _ _ e,Oo _ _ e,Oo _ _ e];have ho:=h.own l' XM;exact iC ho fun b Xq=>same b (ho.lt b Xq).2 (fun e=>bD ho Ir (mI l').1 (e▸Xq)) (CN ho (h.own l hl) (hg0 XM hl e) Xq)
 ·by_cases e:l'=l
  ·subst e;rw[Yn]at kP;rcases Nat.lt_or_ge i (m l')with yo|hge
   ·rw[Em E0]at kP;exact(h.mkd l' hl i u kP).heap fun b Xq=>ZM l' hl u (List.mem_of_getElem? kP) b Xq
   ·rw[List.getElem?_append_right E0]at kP;have yo:i-(xs l').length<us.length:=(List.getElem?_eq_some_iff.1 kP).1;have h4:=h.m4 l' hl;exact nZ (hh.full u (List.mem_of_getElem? kP)) E0
  ·rw[Oo _ _ e]at kP;exact(h.mkd l' XM i u kP).heap fun b Xq=>ZM l' XM u (List.mem_of_getElem? kP) b Xq
 ·have h4:=h.m4 l' XM;by_cases e:l'=l
  ·subst e;rw[Yn];omega
  ·refine Xk ?_;exact h4
 ·have yo:=(h.pr i hi).lt hS;rcases spo b Xq with q|q
  ·exact h.sp b q i hi hS
  ·omega
 ·have iu:(b<w.heap.size/\¬bR bw ks rs v b/\∀i,i<n->¬(S i b\/S' i b))\/(base<=b/\b<Sz):=by
   by_cases e:l'=l
   ·subst e;rw[Yn]at kP;rcases List.mem_append.1 kP with q|q
    ·exact .inl (h.us l' hl u q b Xq)
    ·exact .inr (hh.ub u q b Xq)
   ·rw[Oo _ _ e]at kP;exact .inl (h.us l' XM u kP b Xq)
  have hSz:=hh.sz;rcases iu with⟨q1,q2,q3⟩|⟨q1,q2⟩
  ·exact⟨E0,fun hs=>(spo b hs).elim q2 (fun q=>E0),q3⟩
  ·refine⟨E0,fun hs=>?_,fun i hi hS=>by have:=(h.pr i hi).lt hS;omega⟩;rcases spo b hs with q|q
   ·have:=h.lt q;omega
   ·omega
 ·by_cases e:l'=l
  ·subst e;rw[Yn]at Xq;rcases eS b Xq with q|q
   ·exact h.lo.2.1 l' b hl q
   ·omega
  ·rw[Oo _ _ e]at Xq;exact h.lo.2.1 l' b XM Xq
 ·rcases q with q|q|q
  ·rw[q];exact h.lo.1
  ·exact h.lo.2.1 l j hl q
  ·show w0.heap.size<=j;omega
theorem yQ(n:Nat)(K:Nat->Nat)(a:Nat):xT n K++[.pointer (Gn ⟨a,0,Hn⟩)]=xT (n+1) (fun i=>if i=n then a else K i):=by
 unfold xT;rw[List.range_succ,List.map_append];simp only[List.map_cons,List.map_nil,if_true];congr 1;refine List.map_congr_left fun i hi=>?_;have:=List.mem_range.1 hi;exact qk
theorem Vr.made(h:Vr w0 w bw n mm ff ks rs v m K Kb S S' xs){ks' rs':Dn}{a b':Nat}{ST ST':Nat->Prop}(Yu:Jq (RZ bw ks rs) w w')(hinv:PE w' bw (n+1) ks' rs' (v 0) (v 1) (v 2) (xT n K++[.pointer (Gn ⟨a,0,Hn⟩)]) (xT n Kb++[.pointer (Gn ⟨b',0,Hn⟩)]))(hp:Yz w' a b' 0 0 ST ST')(w80:∀b,ST b\/ST' b->w.heap.size<=b)
  (rX:∀b,ks'.ownBlock=Gn b\/rs'.ownBlock=Gn b->((ks.ownBlock=Gn b\/rs.ownBlock=Gn b)\/w.heap.size<=b)/\¬ST b/\¬ST' b):
  Vr w0 w' bw (n+1) mm ff ks' rs' v m (fun i=>if i=n then a else K i) (fun i=>if i=n then b' else Kb i) (fun i=>if i=n then ST else S i) (fun i=>if i=n then ST' else S' i) xs:=by
 rw[yQ,yQ]at hinv;have hw0:=h.ph.size;have ju:=Yu.size;have hbw:=h.win.row.lt;have same:∀b,b<w.heap.size->b≠bw->ks.ownBlock≠Gn b->rs.ownBlock≠Gn b->w'.heap[b]?=w.heap[b]?:=fun b hl h1 h2 h3=>Yu.block b hl (fun q=>by
  rcases q with q|q|q
  ·exact h1 q
  ·exact h2 q
  ·exact h3 q)
 have hpS:∀i b,i<n->S i b\/S' i b->w'.heap[b]?=w.heap[b]?:=fun i b hi hS=>same b ((h.pr i hi).lt hS) (fun e=>h.sp b (.inl e) i hi hS) (fun e=>h.sp b (.inr (.inl e)) i hi hS) (fun e=>h.sp b (.inr (.inr (.inl e))) i hi hS);have ZM:∀l,l<3->∀u,u∈xs l->∀b,u.ownBlock=Gn b->w'.heap[b]?=w.heap[b]?:=fun l hl u hu b hb=>by
  obtain⟨h1,h2,-⟩:=h.us l hl u hu b hb;exact same b h1 (fun e=>h2 (.inl e)) (fun e=>h2 (.inr (.inl e))) (fun e=>h2 (.inr (.inr (.inl e))))
 have hkz:∀b,ks.ownBlock=Gn b\/rs.ownBlock=Gn b->bw+1<=b/\b<w.heap.size:=fun b hb=>by
  rcases hb with hb|hb
  ·exact h.win.k.lt b hb
  ·exact h.win.r.lt b hb
 have zk0:∀b,b<w.heap.size->bR bw ks' rs' v b->bR bw ks rs v b:=fun b hl hb=>by
  rcases hb with q|q|q|q
  ·exact .inl q
  ·rcases (rX b (.inl q)).1 with (e|e)|e
   ·exact .inr (.inl e)
   ·exact .inr (.inr (.inl e))
   ·omega
  ·rcases (rX b (.inr q)).1 with (e|e)|e
   ·exact .inr (.inl e)
   ·exact .inr (.inr (.inl e))
   ·omega
  ·exact .inr (.inr (.inr q))
 refine⟨hinv,fun i hi=>?_,fun i j b hi hj Yp hS LM=>?_,fun l hl=>iC (h.own l hl) fun b hb=>same b ((h.own l hl).lt b hb).2 (fun e=>bD (h.own l hl) h.win.row (mI l).1 (e▸hb)) (CN (h.own l hl) h.win.k (mI l).2.1 hb) (CN (h.own l hl) h.win.r (mI l).2.2 hb),fun l hl i u hu=>(h.mkd l hl i u hu).heap fun b hb=>ZM l hl u (List.mem_of_getElem? hu) b hb,h.m4,fun b hb i hi hS=>?_,fun l hl u hu b hb=>?_,⟨h.lo.1,h.lo.2.1,fun i b hi hS=>?_⟩,Jq.trans' h.ph Yu fun j hj q=>?_⟩
 ·by_cases e:i=n
  ·subst e;simp only[if_true];exact hp.le s9 s9
  ·simp only[if_neg e];exact(h.pr i E0).keep (fun b hS=>hpS i b E0 hS) ju
 ·by_cases e:i=n
  ·subst e;have e2:j≠i:=fun e2=>Yp e2.symm;simp only[if_true]at hS;simp only[if_neg e2]at LM;have h1:=w80 b hS;have h2:=(h.pr j E0).lt LM;omega
  ·simp only[if_neg e]at hS;by_cases e2:j=n
   ·subst e2;simp only[if_true]at LM;have h1:=w80 b LM;have h2:=(h.pr i E0).lt hS;omega
   ·simp only[if_neg e2]at LM;exact h.ap i j b E0 E0 Yp hS LM
 ·by_cases e:i=n
  ·subst e;simp only[if_true]at hS;have h1:=w80 b hS;rcases hb with q|q|q|⟨l,hl,q⟩
   ·omega
   ·have:=(rX b (.inl q)).2;rcases hS with hS|hS
    ·exact this.1 hS
    ·exact this.2 hS
   ·have:=(rX b (.inr q)).2;rcases hS with hS|hS
    ·exact this.1 hS
    ·exact this.2 hS
   ·have:=((h.own l hl).lt b q).2;omega
  ·simp only[if_neg e]at hS;exact h.sp b (zk0 b ((h.pr i E0).lt hS) hb) i E0 hS
 ·obtain⟨h1,h2,h3⟩:=h.us l hl u hu b hb;refine⟨E0,fun hs=>h2 (zk0 b h1 hs),fun i hi hS=>?_⟩;by_cases e:i=n
  ·subst e;simp only[if_true]at hS;have:=w80 b hS;omega
  ·simp only[if_neg e]at hS;exact h3 i E0 hS
 ·by_cases e:i=n
  ·subst e;simp only[if_true]at hS;have:=w80 b hS;omega
  ·simp only[if_neg e]at hS;exact h.lo.2.2 i b E0 hS
 ·show w0.heap.size<=j;have hlo:=h.lo.1;rcases q with q|q|q
  ·omega
  ·have:=(hkz j (.inl q)).1;omega
  ·have:=(hkz j (.inr q)).1;omega
theorem iZ{xs:List Dn}{n:Nat}(h:xs.length=n):xs=(Hm n).map fun i=>xs.getD i (.bool Tm):=List.ext_getElem? fun i=>by
 by_cases hi:i<n
 ·rw[List.getElem?_eq_getElem E0];simp[hi,List.getElem?_eq_getElem (show i<xs.length by omega)]
 ·rw[List.getElem?_eq_none E0];simp[hi]
theorem Vr.still(h:Vr w0 w bw n mm ff ks rs v m K Kb S S' xs)(hm:∀l,l<3->m l<=1000000000000):
  Zm prog 23 #[.pointer (Gn ⟨bw,2,Hn⟩)] w fun e w'=>e=.returned (.bool Um)/\w'=w:=by
 have sl:∀l,l<3->∃p c,v l=.slice p (m l) c/\Sl w p (m l) (fun i=>(xs l).getD i (.bool Tm))/\∀i,i<m l->Ot w (lK l) ((xs l).getD i (.bool Tm)) i:=fun l hl=>by
  have ho:=h.own l hl;have hn:(xs l).length=m l:=by have:=ho.1;omega
  rw[iZ hn]at ho;obtain⟨p,c,e,-,-,s⟩:=nB (n:=m l) (size:=1) (F:=fun i=>(xs l).getD i (.bool Tm)) (by simpa using ho);refine⟨p,c,e,by simpa using s,fun i hi=>h.mkd l hl i _ ?_⟩;have jO:i<(xs l).length:=E0;simp[jO]
 obtain⟨pE,cE,e1,sE,mE⟩:=sl 0 E0;obtain⟨pW,cW,e2,sW,mW⟩:=sl 1 E0;obtain⟨pC,cC,e3,sC,mC⟩:=sl 2 E0;exact Y30 bw 2 (m 0) cE (m 1) cW (m 2) cC pE pW pC _ _ _ w ((h.win.row.cell (j:=2) E0).trans (by rw[<-e1];rfl)) ((h.win.row.cell (j:=3) E0).trans (by rw[<-e2];rfl)) ((h.win.row.cell (j:=4) E0).trans (by rw[<-e3];rfl)) sE sW sC mE mW mC (hm 0 E0) (hm 1 E0) (hm 2 E0)
end
def Vs(w0:En)(bw n mm ff N:Nat)(w:En):Prop:=∃ks rs v m K Kb S S' xs,Vr w0 w bw n mm ff ks rs v m K Kb S S' xs/\∀l,l<3->m l<=N
section
variable {w0 w w':En}{bw n mm ff N:Nat}{ks rs:Dn}{v:Nat->Dn}{m K Kb:Nat->Nat}{S S':Nat->Nat->Prop}{xs:Nat->List Dn}
theorem Vr.re(h:Vr w0 w bw n mm ff ks rs v m K Kb S S' xs)(τ:Nat->Question->Nat)(d0 d:Nat):Vr (xq w0 τ d0) (xq w τ d) bw n mm ff ks rs v m K Kb S S' xs:=
 ⟨⟨h.win.row,h.win.k,h.win.r,h.win.ne⟩,fun i hi=>(h.pr i hi).keep (fun _ _=>rfl) N8,h.ap,h.own,h.mkd,h.m4,h.sp,h.us,h.lo,⟨h.ph.os,rfl,h.ph.output,h.ph.size,h.ph.block⟩⟩
theorem Vr.back{τ:Nat->Question->Nat}{d0 d:Nat}(h:Vr (xq w0 τ d0) (xq w τ d) bw n mm ff ks rs v m K Kb S S' xs)(d':Nat):Vr w0 (xq w w0.tape d') bw n mm ff ks rs v m K Kb S S' xs:=
 ⟨⟨h.win.row,h.win.k,h.win.r,h.win.ne⟩,fun i hi=>(h.pr i hi).keep (fun _ _=>rfl) N8,h.ap,h.own,h.mkd,h.m4,h.sp,h.us,h.lo,⟨h.ph.os,rfl,h.ph.output,h.ph.size,h.ph.block⟩⟩
theorem Vs.back{τ:Nat->Question->Nat}{d0 d:Nat}(h:Vs (xq w0 τ d0) bw n mm ff N (xq w τ d))(d':Nat):Vs w0 bw n mm ff N (xq w w0.tape d'):=by
 obtain⟨ks,rs,v,m,K,Kb,S,S',xs,h1,h2⟩:=h;exact⟨ks,rs,v,m,K,Kb,S,S',xs,h1.back d',h2⟩
theorem Vr.frameC(h:Vr w0 w bw n mm ff ks rs v m K Kb S S' xs)(hN:∀l,l<3->m l<=N){i:Nat}(hi:i<n){ip:Option Vm}{il ic:Nat}{zi:Nat->Int}(iu:Sl w ip (il*2) (fun j=>.int .i64 (zi j)))(hp:(ip=Hn/\il=0)\/∃ad,ip=Gn ad/\(il=0\/ad.block<w0.heap.size))(hb:16*il<=140737488351232)(Y_:mm+1600<=1000000000)(hff:ff<=100000000000):
  Ip prog 21 #[.pointer (Gn ⟨K i,0,Hn⟩),.pointer (Gn ⟨Kb i,0,Hn⟩),.slice ip il ic] w (fun v w'=>v=.bool Um/\Vs w0 bw n (mm+206) (ff+1) N w'):=by
 refine((h.pr i hi).frame iu (fun e=>?_) ?_ hb Y_ hff).mono ?_
 ·rcases hp with hp|⟨ad,e2,-⟩
  ·exact hp.2
  ·rw[e]at e2;cases e2
 ·rcases hp with hp|⟨ad,e,hl⟩
  ·exact .inl hp.2
  ·refine hl.imp id fun hl lb lo e2=>?_;rw[e]at e2;cases e2;have XM:lb<w0.heap.size:=hl;exact⟨fun hS=>by have:=h.lo.2.2 i lb hi (.inl hS);omega,fun hS=>by have:=h.lo.2.2 i lb hi (.inr hS);omega⟩
 ·rintro v w' ⟨rfl,SK,SR,h1,h2,h3,h4⟩;exact⟨rfl,ks,rs,_,m,K,Kb,_,_,xs,h.frame hi E0 E0 h1 h2 h3 h4,hN⟩
theorem NU(x:Dn):vv prog pG 23 #[x]:=⟨J0,zo plain func23 J0 _⟩
theorem Vr.m_(h:Vr w0 w bw n mm ff ks rs v m K Kb S S' xs)(hN:∀l,l<3->m l<=1000000000000):
  Ip prog 23 #[.pointer (Gn ⟨bw,2,Hn⟩)] w (fun v w'=>v=.bool Um/\Is w w'):=by
 refine Ip.MA (NU _) (fun v w'=>v=.bool Um/\∃τ d,w'=xq w τ d) (fun τ=>((h.re τ 0 0).still hN).mono ?_) ?_
 ·exact Ef
 ·exact Ya
theorem lY(x y:Dn):vv prog pG 20 #[x,y]:=⟨J0,zo plain func20 J0 _⟩
theorem sM(x y z u:Dn):vv prog pG 22 #[x,y,z,u]:=⟨J0,zo plain func22 J0 _⟩
theorem kY(x y:Dn):vv prog pG 18 #[x,y]:=⟨J0,zo plain func18 J0 _⟩
theorem Vr.T60(h:Vr w0 w bw n mm ff ks rs v m K Kb S S' xs){args:Array Dn}{M:Nat}(hen:vv prog pG 22 args)(hc:∀τ,Vr (xq w0 τ 0) (xq w τ 0) bw n mm ff ks rs v m K Kb S S' xs->Zm prog 22 args (xq w τ 0) (fun e w'=>e=.returned (.bool Um)/\Vs (xq w0 τ 0) bw n mm ff M w')):
  Ip prog 22 args w (fun v w'=>v=.bool Um/\Vs w0 bw n mm ff M w'):=by
 have ht:=h.ph.tape;refine Ip.MA hen (fun v w'=>v=.bool Um/\∃w2 τ d,w'=xq w2 τ d/\Vs (xq w0 τ 0) bw n mm ff M (xq w2 τ d)) (fun τ=>(hc τ (h.re τ 0 0)).mono ?_) ?_
 ·rintro e w' ⟨rfl,hw⟩;have e:w'=xq w' τ w'.drawn:=by
   exact Ti
  exact⟨_,rfl,rfl,w',τ,w'.drawn,e,e▸hw⟩
 ·rintro v w₁ τ d d' ⟨h1,w2,τ',d2,h2,h3⟩;refine⟨h1,?_⟩;rw[ht];have e:xq w₁ w0.tape d'=xq (xq w₁ τ d) w0.tape d':=rfl;rw[e,h2];exact h3.back d'
theorem q_{m:Nat->Nat}{l N:Nat}(h:∀l,l<3->m l<=N)(hl:l<3):∀l',l'<3->Qo m l (m l+4) l'<=N+4:=fun l' XM=>by
 have h1:=h l hl;have h2:=h l' XM;unfold Qo;split<;>omega
theorem Vr.Fi0(h:Vr w0 w bw n mm ff ks rs v m K Kb S S' xs)(hN:∀l,l<3->m l<=N)(hN':N<=1000000000)(Y_:mm<=1000000000){i:Nat}(hi:i<n){kd:Int}(hk:kd=3\/kd=4\/kd=5)(a q:Int)(p0 p1 p2 p3 p4:Option Vm)(l0 l1 l2 l3 l4 c0 c1 c2 c3 c4:Nat):
  Ip prog 22 #[.pointer (Gn ⟨bw,0,Hn⟩),.pointer (Gn ⟨K i,0,Hn⟩),.pointer (Gn ⟨Kb i,0,Hn⟩),.agg #[.int .i64 kd,.int .i64 a,.int .i64 q,.slice p0 l0 c0,.slice p1 l1 c1,.slice p2 l2 c2,.slice p3 l3 c3,.slice p4 l4 c4]] w (fun v w'=>v=.bool Um/\Vs w0 bw n mm ff (N+4) w'):=by
 refine h.T60 (sM _ _ _ _) fun τ hr=>?_;have hp:=hr.pr i hi;have o0:=hr.own 0 E0;have o1:=hr.own 1 E0;have n0:=hN 0 E0;have n1:=hN 1 E0;rcases hk with rfl|rfl|rfl
 ·refine(hp.trace bw (m 0) a q p0 p1 p2 p3 p4 l0 l1 l2 l3 l4 c0 c1 c2 c3 c4 (v 0) (xs 0) _ hr.win.row rfl o0 (bD o0 hr.win.row (mI 0).1) E0 Y_).mono ?_;rintro e w' ⟨rfl,oD,us,Sz,base,h1,h2,h3,h4⟩;exact⟨rfl,_,_,_,_,_,_,_,_,_,hr.keep (l:=0) E0 h1 h2 h3 h4,q_ hN E0⟩
 ·refine(hp.memory bw (m 1) a q p0 p1 p2 p3 p4 l0 l1 l2 l3 l4 c0 c1 c2 c3 c4 (v 1) (xs 1) _ hr.win.row rfl o1 (bD o1 hr.win.row (mI 1).1) E0).mono ?_;rintro e w' ⟨rfl,oD,us,Sz,base,h1,h2,h3,h4⟩;exact⟨rfl,_,_,_,_,_,_,_,_,_,hr.keep (l:=1) E0 h1 h2 h3 h4,q_ hN E0⟩
 ·refine(hp.stats bw a q p0 p1 p2 p3 p4 l0 l1 l2 l3 l4 c0 c1 c2 c3 c4).mono ?_;rintro e w' ⟨rfl,h1⟩;exact⟨rfl,_,_,_,_,_,_,_,_,_,hr.below h1,fun l hl=>Qm (hN l hl) E0⟩
theorem al0(c:Int)(n:Nat)(w:En)(hn:0<n)(hn':n<=1000000000000)(h1:-9223372036854775808<=c)(h2:c<=9223372036854775807):
  Ip prog 20 #[.int .i64 c,.int .i64 n] w (fun v w'=>v=.int .i64 (gA c n:Nat)/\Is w w'):=by
 refine Ip.MA (lY _ _) (fun v w'=>v=.int .i64 (gA c n:Nat)/\∃τ d,w'=xq w τ d) (fun τ=>(pick_any c n _ hn hn' h1 h2).mono ?_) ?_
 ·exact Ef
 ·exact Ya
section
variable (h:Vr w0 w bw n mm ff ks rs v m K Kb S S' xs)
include h
theorem Vr.g00(hN:∀l,l<3->m l<=N){c:Ur}{v0 v1 v2 v3:Dn}(fS:∀w',(∀b,b<w.heap.size->¬RZ bw ks rs b->w'.heap[b]?=w.heap[b]?)->Zx w' v0 v1 v2 v3 c)(hcw:TK c)(hn:n<=8796093022208):
  Ip prog 18 #[.pointer (Gn ⟨bw,0,Hn⟩),.agg #[v0,v1,v2,v3]] w (fun v w'=>v=.bool Um/\((vo c 0 0/\Vs w0 bw (n+1) mm ff N w')\/(¬vo c 0 0/\Vs w0 bw n mm ff N w'))):=by
 have ht:=h.ph.tape;have TC:(∀i,i<c.nC->c.Jt i=Um->c.Ho i=0)/\(∀i,i<c.nC->c.Vt i=Um->c.Hq i=0)/\(c.aA=Um->c.Zo=0)/\(c.Vz=Um->c.nD=0):=by
  obtain⟨⟨p0,yp,F0,-,-,n0,z0,b0,-,k0⟩,-,⟨p2,dq,-,-,n2,z2,-⟩,⟨p3,Lq,-,-,n3,z3,-⟩⟩:=fS w (fun _ _ _=>rfl);refine⟨fun i hi he=>?_,fun i hi he=>?_,fun he=>(z2 (n2.2 he)).1,fun he=>(z3 (n3.2 he)).1⟩
  ·obtain⟨⟨pi,KC,_,-,ni,zi,bi,-⟩,-⟩:=k0 i hi;exact(zi (ni.2 he)).1
  ·obtain⟨-,⟨pi,KC,_,-,ni,zi,bi,-⟩,-⟩:=k0 i hi;exact(zi (ni.2 he)).1
 refine Ip.MA (kY _ _) (fun v w'=>v=.bool Um/\∃w2 τ d,w'=xq w2 τ d/\((vo c 0 0/\Vs (xq w0 τ 0) bw (n+1) mm ff N (xq w2 τ d))\/(¬vo c 0 0/\Vs (xq w0 τ 0) bw n mm ff N (xq w2 τ d)))) (fun τ=>?_) ?_
 ·have hr:=h.re τ 0 0;have out:∀(m:Nat)(w':En),Vs (xq w0 τ 0) bw m mm ff N w'->w'=xq w' τ w'.drawn:=fun m w' hw=>by
   exact Ti
  refine(lZ c v0 v1 v2 v3 bw n ks rs (v 0) (v 1) (v 2) _ _ (xq w τ 0) (fun w' hb=>fS w' hb.block) hcw hr.win hn).mono ?_;rintro e w' ⟨rfl,hm⟩;by_cases UM:vo c 0 0
  ·obtain⟨ks',rs',a,b',ST,ST',m1,m2,m3,m4,m5⟩:=qT hm hr.win UM TC.1 TC.2.1 TC.2.2.1 TC.2.2.2;have hI:Vs (xq w0 τ 0) bw (n+1) mm ff N w':=⟨_,_,_,_,_,_,_,_,_,hr.made m1 m2 m3 m4 m5,hN⟩;have e:=out _ w' hI;exact⟨_,rfl,rfl,w',τ,w'.drawn,e,.inl ⟨UM,e▸hI⟩⟩
  ·rcases hm with⟨-,hm⟩|⟨hm,-⟩
   ·have hI:Vs (xq w0 τ 0) bw n mm ff N w':=⟨_,_,_,_,_,_,_,_,_,hr.below hm,hN⟩;have e:=out _ w' hI;exact⟨_,rfl,rfl,w',τ,w'.drawn,e,.inr ⟨UM,e▸hI⟩⟩
   ·exact absurd hm UM
 ·rintro v w₁ τ d d' ⟨h1,w2,τ',d2,h2,h3⟩;refine⟨h1,?_⟩;rw[ht];have e:xq w₁ w0.tape d'=xq (xq w₁ τ d) w0.tape d':=rfl;rw[e,h2];exact h3.imp (fun q=>⟨q.1,q.2.back d'⟩) (fun q=>⟨q.1,q.2.back d'⟩)
theorem Vr.agree(hb:∀b,b<w.heap.size->¬RZ bw ks rs b->w'.heap[b]?=w.heap[b]?){b:Nat}(hl:b<w0.heap.size):w'.heap[b]?=w0.heap[b]?:=by
 refine(hb b (Lm hl h.ph.size) (fun q=>?_)).trans (h.ph.block b hl E0);have:=h.lo.1;rcases q with q|q|q
 ·omega
 ·have:=(h.win.k.lt b q).1;omega
 ·have:=(h.win.r.lt b q).1;omega
end
theorem Vr.start(hr:Tn w bw 5 79 (cells5 (.slice Hn 0 0) (.slice Hn 0 0) (.slice Hn 0 0) (.slice Hn 0 0) (.slice Hn 0 0)))(hlo:w0.heap.size<=bw)(hb:Jq (fun b=>w0.heap.size<=b) w0 w):
  Vr w0 w bw 0 0 0 (.slice Hn 0 0) (.slice Hn 0 0) (fun _=>.slice Hn 0 0) (fun _=>0) (fun _=>0) (fun _=>0) (fun _ _=>False) (fun _ _=>False) (fun _=>[]):=
 ⟨⟨hr,World.ownsRow_nil _ _ _ _,World.ownsRow_nil _ _ _ _,fun g hg=>by simp[Value.ownBlock]at hg⟩,fun i hi=>absurd hi (Nat.not_lt_zero _),fun i j b hi=>absurd hi (Nat.not_lt_zero _),fun _ _=>World.ownsRow_nil _ _ _ _,fun _ _ i u hu=>by simp at hu,fun _ _=>rfl,fun b _ i hi=>absurd hi (Nat.not_lt_zero _),fun _ _ u hu=>by simp at hu,⟨hlo,fun _ b _ hb=>by simp[Value.ownBlock]at hb,fun i b hi=>absurd hi (Nat.not_lt_zero _)⟩,hb⟩
end
theorem MU:vv prog pG 19 #[]:=⟨J0,zo plain func19 J0 _⟩
theorem Jg0(w:En):Ip prog 19 #[] w (fun v w'=>∃v0 v1 v2 v3,v=.agg #[v0,v1,v2,v3]/\(∀MQ:En,(∀b,w.heap.size<=b->b<w'.heap.size->MQ.heap[b]?=w'.heap[b]?)->Zx MQ v0 v1 v2 v3 qq)/\Sm w.heap.size w w'):=by
 refine Ip.MA MU (fun v w'=>∃v0 v1 v2 v3,v=.agg #[v0,v1,v2,v3]/\(∀MQ:En,(∀b,w.heap.size<=b->b<w'.heap.size->MQ.heap[b]?=w'.heap[b]?)->Zx MQ v0 v1 v2 v3 qq)/\w'.os=w.os/\w'.output=w.output/\w.heap.size<=w'.heap.size/\∀b,b<w.heap.size->w'.heap[b]?=w.heap[b]?) (fun τ=>(R30 (xq w τ 0)).mono ?_) ?_
 ·rintro e w' ⟨v0,v1,v2,v3,rfl,h1,h2⟩;refine⟨_,rfl,v0,v1,v2,v3,rfl,fun MQ hk=>h1 MQ fun a v ha hc=>?_,h2.os,h2.output,h2.size,h2.block⟩;have hh:=hk a.block ha (Wm hc);unfold World.cell? at hc ⊢;rw[hh];exact hc
 ·rintro v w₁ τ d d' ⟨v0,v1,v2,v3,rfl,h1,h2,h3,h4,h5⟩;exact⟨v0,v1,v2,v3,rfl,h1,⟨h2,rfl,h3,h4,h5⟩⟩
theorem T90:vo qq 0 0:=by
 unfold vo;refine .inr (.inr (.inr (.inr (.inr (.inr (.inr (.inr ⟨?_,?_,fun i hi=>?_,?_,fun i hi=>?_,?_,fun i hi=>?_,fun i hi=>?_,rfl,rfl⟩)))))))
 ·simp[Yy,qq]
 ·simp[Zy,qq]
 ·have jO:i<1:=hi;obtain rfl:i=0:=by omega
  refine⟨V3,fun j hj=>?_,?_⟩
  ·have kz:j<1:=hj;obtain rfl:j=0:=by omega
   simp[qq,aM]
  ·simp[qq,sumTo]
 ·simp[qq]
 ·exact absurd hi (Nat.not_lt_zero _)
 ·simp[qq]
 ·exact absurd hi (Nat.not_lt_zero _)
 ·have jO:i<1:=hi;obtain rfl:i=0:=by omega
  refine⟨V3,V3,V3,fun j hj=>?_⟩;have kz:j<3:=hj;have:j=0\/j=1\/j=2:=E0;rcases this with rfl|rfl|rfl<;>simp[qq,VD,Dy]
theorem d_:TK qq:=by
 intro i hi j hj;obtain rfl:i=0:=by simp[qq]at hi;omega
 simp only[qq]at hj;have:j=0\/j=1\/j=2\/j=3\/j=4\/j=5\/j=6\/j=7\/j=8\/j=9\/j=10\/j=11:=E0;rcases this with rfl|rfl|rfl|rfl|rfl|rfl|rfl|rfl|rfl|rfl|rfl|rfl<;>simp[qq]
structure UI where
 kd:Int
 at_:Int
 q:Int
 p:Nat->Option Vm
 l:Nat->Nat
 c:Nat->Nat
 cf:Ur
 zi:Nat->Int
def UI.cell(o:UI):Nat->Value:=cells8 (.int .i64 o.kd) (.int .i64 o.at_) (.int .i64 o.q) (.slice (o.p 0) (o.l 0) (o.c 0)) (.slice (o.p 1) (o.l 1) (o.c 1)) (.slice (o.p 2) (o.l 2) (o.c 2)) (.slice (o.p 3) (o.l 3) (o.c 3)) (.slice (o.p 4) (o.l 4) (o.c 4))
structure yi0(w0:En)(o:UI):Prop where
 lo:-9223372036854775808<=o.at_
 hi:o.at_<=9223372036854775807
 cfg:o.kd=1->(∀w':En,(∀b,b<w0.heap.size->w'.heap[b]?=w0.heap[b]?)->Zx w' (.slice (o.p 0) (o.l 0) (o.c 0)) (.slice (o.p 1) (o.l 1) (o.c 1)) (.slice (o.p 2) (o.l 2) (o.c 2)) (.slice (o.p 3) (o.l 3) (o.c 3)) o.cf)/\TK o.cf
 ins:∀w':En,(∀b,b<w0.heap.size->w'.heap[b]?=w0.heap[b]?)->Sl w' (o.p 4) (o.l 4*2) (fun j=>.int .i64 (o.zi j))
 inp:(o.p 4=Hn/\o.l 4=0)\/∃ad,o.p 4=Gn ad/\(o.l 4=0\/ad.block<w0.heap.size)
 inb:16*o.l 4<=140737488351232
structure P00(w:En)(o:UI):Prop where
 lo:-9223372036854775808<=o.at_
 hi:o.at_<=9223372036854775807
 cfg:Zx w (.slice (o.p 0) (o.l 0) (o.c 0)) (.slice (o.p 1) (o.l 1) (o.c 1)) (.slice (o.p 2) (o.l 2) (o.c 2)) (.slice (o.p 3) (o.l 3) (o.c 3)) o.cf
 cw:TK o.cf
 ins:Sl w (o.p 4) (o.l 4*2) (fun j=>.int .i64 (o.zi j))
 inp:(o.p 4=Hn/\o.l 4=0)\/∃ad,o.p 4=Gn ad/\(o.l 4=0\/ad.block<w.heap.size)
 inb:16*o.l 4<=140737488351232
theorem P00.ok{W w:En}{o:UI}(h:P00 W o)(hs:W.heap.size<=w.heap.size)(ZM:∀b,b<W.heap.size->w.heap[b]?=W.heap[b]?):yi0 w o:=by
 have hk:∀w':En,(∀b,b<w.heap.size->w'.heap[b]?=w.heap[b]?)->∀a v,W.cell? a=Gn v->w'.cell? a=Gn v:=fun w' ha a v hc=>by
  have hb:=Wm hc;exact(Zn ((ha _ E0).trans (ZM _ hb))).trans hc
 exact⟨h.lo,h.hi,fun _=>⟨fun w' ha=>h.cfg.keep (hk w' ha),h.cw⟩,fun w' ha=>h.ins.keep (hk w' ha),h.inp.imp id fun ⟨ad,e,hl⟩=>⟨ad,e,hl.imp id fun x=>E0⟩,h.inb⟩
structure ScR(w0:En)(lp:Option Vm)(len:Nat)(o:Nat->UI):Prop where
 cells:∀i,i<len->∃lb lo,lp=Gn ⟨lb,lo,Hn⟩/\lb<w0.heap.size/\∀j,j<8->w0.cell? ⟨lb,lo+i*8+j,Hn⟩=Gn ((o i).cell j)
 ok:∀i,i<len->yi0 w0 (o i)
section
variable {w0 w w':En}{bw n mm ff N:Nat}{ks rs:Dn}{v:Nat->Dn}{m K Kb:Nat->Nat}{S S':Nat->Nat->Prop}{xs:Nat->List Dn}
theorem Vs.le(h:Vs w0 bw n mm ff N w){m2 f2 N2:Nat}(h1:mm<=m2)(h2:ff<=f2)(h3:N<=N2):Vs w0 bw n m2 f2 N2 w:=by
 obtain⟨ks,rs,v,m,K,Kb,S,S',xs,h,hN⟩:=h;exact⟨ks,rs,v,m,K,Kb,S,S',xs,⟨h.win,fun i hi=>(h.pr i hi).le h1 h2,h.ap,h.own,h.mkd,h.m4,h.sp,h.us,h.lo,h.ph⟩,fun l hl=>Qm (hN l hl) h3⟩
theorem Vs.is(h:Vs w0 bw n mm ff N w)(hi:Is w w'):Vs w0 bw n mm ff N w':=by
 obtain⟨d,rfl⟩:=hi;obtain⟨ks,rs,v,m,K,Kb,S,S',xs,h,hN⟩:=h;exact⟨ks,rs,v,m,K,Kb,S,S',xs,⟨⟨h.win.row,h.win.k,h.win.r,h.win.ne⟩,fun i hi=>(h.pr i hi).keep (fun _ _=>rfl) N8,h.ap,h.own,h.mkd,h.m4,h.sp,h.us,h.lo,⟨h.ph.os,h.ph.tape,h.ph.output,h.ph.size,h.ph.block⟩⟩,hN⟩
theorem Vs.below(h:Vs w0 bw n mm ff N w)(hb:Sm w.heap.size w w'):Vs w0 bw n mm ff N w':=by
 obtain⟨ks,rs,v,m,K,Kb,S,S',xs,h,hN⟩:=h;exact⟨ks,rs,v,m,K,Kb,S,S',xs,h.below hb,hN⟩
theorem Vs.old(h:Vs w0 bw n mm ff N w){b:Nat}(hb:b<w0.heap.size):w.heap[b]?=w0.heap[b]?:=by
 obtain⟨ks,rs,v,m,K,Kb,S,S',xs,h,hN⟩:=h;exact h.ph.block b hb E0
theorem ScR.at{lp:Option Vm}{len:Nat}{o:Nat->UI}(hs:ScR w0 lp len o)(h:Vs w0 bw n mm ff N w){i:Nat}(hi:i<len):∃lb lo,lp=Gn ⟨lb,lo,Hn⟩/\lb<w0.heap.size/\∀j,j<8->w.cell? ⟨lb,lo+i*8+j,Hn⟩=Gn ((o i).cell j):=by
 obtain⟨lb,lo,h1,h2,h3⟩:=hs.cells i hi;exact⟨lb,lo,h1,h2,fun j hj=>(Zn (a:=⟨lb,lo+i*8+j,Hn⟩) (h.old h2)).trans (h3 j hj)⟩
theorem Vr.fg0(h:Vr w0 w bw n mm ff ks rs v m K Kb S S' xs)(hn:0<n):∃gk ck gr cr,ks=.slice (Gn ⟨gk,0,Hn⟩) n ck/\rs=.slice (Gn ⟨gr,0,Hn⟩) n cr/\w.cell? ⟨bw,0,Hn⟩=Gn (.slice (Gn ⟨gk,0,Hn⟩) n ck)/\w.cell? ⟨bw,1,Hn⟩=Gn (.slice (Gn ⟨gr,0,Hn⟩) n cr)/\∀i,i<n->w.cell? ⟨gk,i,Hn⟩=Gn (.pointer (Gn ⟨K i,0,Hn⟩))/\w.cell? ⟨gr,i,Hn⟩=Gn (.pointer (Gn ⟨Kb i,0,Hn⟩)):=by
 have hk:=h.win.k;have hr:=h.win.r;have r0:=h.win.row.cell (j:=0) E0;have r1:=h.win.row.cell (j:=1) E0;obtain⟨gk,ck,rfl,-,-⟩:=hk.form hn;obtain⟨gr,cr,rfl,-,-⟩:=hr.form hn;exact⟨gk,ck,gr,cr,rfl,rfl,r0,r1,fun i hi=>⟨yt hk (by simp[xT,hi]),yt hr (by simp[xT,hi])⟩⟩
end
noncomputable def vF:Code:=match Tryz.f7.body with
 |some (.seq _ (.seq _ (.seq _ (.seq (.seq _ (.block _ (.loop c))) _))))=>c
 |_=>.skip
noncomputable def vT:Code:=match Tryz.f7.body with
 |some (.seq _ (.seq _ (.seq _ (.seq _ c))))=>c
 |_=>.skip
noncomputable def o90:Code:=match vF with
 |.seq _ (.seq (.block _ (.seq _ (.seq _ c))) _)=>c
 |_=>.skip
noncomputable def Td0:Code:=match vF with
 |.seq _ (.seq _ c)=>c
 |_=>.skip
section
variable {w0 w:En}{bw n mm ff N:Nat}
theorem Vs.m_(h:Vs w0 bw n mm ff N w)(hN:N<=1000000000000):Ip prog 23 #[.pointer (Gn ⟨bw,2,Hn⟩)] w (fun v w'=>v=.bool Um/\Is w w'):=by
 obtain⟨ks,rs,v,m,K,Kb,S,S',xs,h,hm⟩:=h;exact h.m_ (fun l hl=>Qm (hm l hl) hN)
theorem Vs.g00(h:Vs w0 bw n mm ff N w){c:Ur}{v0 v1 v2 v3:Dn}(fS:∀w':En,(∀b,b<w0.heap.size->w'.heap[b]?=w0.heap[b]?)->Zx w' v0 v1 v2 v3 c)(hcw:TK c)(hn:n<=8796093022208):
  Ip prog 18 #[.pointer (Gn ⟨bw,0,Hn⟩),.agg #[v0,v1,v2,v3]] w (fun v w'=>v=.bool Um/\∃n',n<=n'/\n'<=n+1/\Vs w0 bw n' mm ff N w'):=by
 obtain⟨ks,rs,v,m,K,Kb,S,S',xs,h,hm⟩:=h;refine(h.g00 hm (c:=c) (fun w' hb=>fS w' fun b hl=>h.agree hb hl) hcw hn).mono ?_;rintro v w' ⟨h1,⟨-,h2⟩|⟨-,h2⟩⟩
 ·exact⟨h1,n+1,E0,E0,h2⟩
 ·exact⟨h1,n,E0,E0,h2⟩
def Hc0:Prop:=∀(w0 w:En)(bw n mm ff N:Nat)(ks rs:Dn)(v:Nat->Dn)(m K Kb:Nat->Nat)(S S':Nat->Nat->Prop)(xs:Nat->List Dn),Vr w0 w bw n mm ff ks rs v m K Kb S S' xs->(∀l,l<3->m l<=N)->N<=1000000000->∀i,i<n->∀(a q:Int)(p0 p1 p2 p3 p4:Option Vm)(l0 l1 l2 l3 l4 c0 c1 c2 c3 c4:Nat),
  Ip prog 22 #[.pointer (Gn ⟨bw,0,Hn⟩),.pointer (Gn ⟨K i,0,Hn⟩),.pointer (Gn ⟨Kb i,0,Hn⟩),.agg #[.int .i64 6,.int .i64 a,.int .i64 q,.slice p0 l0 c0,.slice p1 l1 c1,.slice p2 l2 c2,.slice p3 l3 c3,.slice p4 l4 c4]] w (fun v w'=>v=.bool Um/\Vs w0 bw n mm ff (N+4) w')
def Ce0(mo:Int):Prop:=mo=5\/(mo=6/\Hc0)
theorem Vs.fg0(h:Vs w0 bw n mm ff N w)(hn:0<n){mo:Int}(hmo:Ce0 mo)(hN:N<=1000000000)(Y_:mm+1600<=1000000000)(hff:ff<=100000000000):
  ∃(gk ck gr cr:Nat)(K Kb:Nat->Nat),w.cell? ⟨bw,0,Hn⟩=Gn (.slice (Gn ⟨gk,0,Hn⟩) n ck)/\w.cell? ⟨bw,1,Hn⟩=Gn (.slice (Gn ⟨gr,0,Hn⟩) n cr)/\
   (∀j,j<n->w.cell? ⟨gk,j,Hn⟩=Gn (.pointer (Gn ⟨K j,0,Hn⟩))/\w.cell? ⟨gr,j,Hn⟩=Gn (.pointer (Gn ⟨Kb j,0,Hn⟩)))/\
   (∀(d j:Nat)(ip:Option Vm)(il ic:Nat)(zi:Nat->Int),j<n->Sl w ip (il*2) (fun j=>.int .i64 (zi j))->((ip=Hn/\il=0)\/∃ad,ip=Gn ad/\(il=0\/ad.block<w0.heap.size))->16*il<=140737488351232->
    Ip prog 21 #[.pointer (Gn ⟨K j,0,Hn⟩),.pointer (Gn ⟨Kb j,0,Hn⟩),.slice ip il ic] (w.at d) (fun v w'=>v=.bool Um/\Vs w0 bw n (mm+206) (ff+1) N w'))/\
   (∀(d j:Nat)(kd a q:Int)(p0 p1 p2 p3 p4:Option Vm)(l0 l1 l2 l3 l4 c0 c1 c2 c3 c4:Nat),j<n->3<=kd/\kd<=mo->
    Ip prog 22 #[.pointer (Gn ⟨bw,0,Hn⟩),.pointer (Gn ⟨K j,0,Hn⟩),.pointer (Gn ⟨Kb j,0,Hn⟩),.agg #[.int .i64 kd,.int .i64 a,.int .i64 q,.slice p0 l0 c0,.slice p1 l1 c1,.slice p2 l2 c2,.slice p3 l3 c3,.slice p4 l4 c4]] (w.at d) (fun v w'=>v=.bool Um/\Vs w0 bw n mm ff (N+4) w')):=by
 obtain⟨ks,rs,v,m,K,Kb,S,S',xs,h,hm⟩:=h;obtain⟨gk,ck,gr,cr,rfl,rfl,k1,k2,k3⟩:=h.fg0 hn;have jr:∀d,Vr w0 (w.at d) bw n mm ff (.slice (Gn ⟨gk,0,Hn⟩) n ck) (.slice (Gn ⟨gr,0,Hn⟩) n cr) v m K Kb S S' xs:=fun d=>⟨⟨h.win.row,h.win.k,h.win.r,h.win.ne⟩,fun i hi=>(h.pr i hi).keep (fun _ _=>rfl) N8,h.ap,h.own,h.mkd,h.m4,h.sp,h.us,h.lo,⟨h.ph.os,h.ph.tape,h.ph.output,h.ph.size,h.ph.block⟩⟩;refine⟨gk,ck,gr,cr,K,Kb,k1,k2,k3,fun d j ip il ic zi hj iu hp hb=>(jr d).frameC hm hj iu hp hb Y_ hff,fun d j kd a q p0 p1 p2 p3 p4 l0 l1 l2 l3 l4 c0 c1 c2 c3 c4 hj DY=>?_⟩;by_cases e6:kd=6
 ·subst e6;rcases hmo with e|⟨-,h6⟩
  ·omega
  ·exact h6 _ _ _ _ _ _ _ _ _ _ _ _ _ _ _ _ (jr d) hm hN j hj a q p0 p1 p2 p3 p4 l0 l1 l2 l3 l4 c0 c1 c2 c3 c4
 ·exact(jr d).Fi0 hm hN E0 hj (by rcases hmo with e|⟨e,-⟩<;>omega) a q p0 p1 p2 p3 p4 l0 l1 l2 l3 l4 c0 c1 c2 c3 c4
end
theorem zZ{Post:zn->En->Prop}{w0:En}{bw:Nat}{lp:Option Vm}{len cap:Nat}{mo:Int}(cs:List Xm)(i n mm ff N:Nat)(w:En)(u2 u3 u8 u9 DF EF RD SD jC kC oC qC tC uC vC lD rB uB vB xB lA mA nA pA QB TB UB VB WB mD II JI KI LI u40 u41 u42 u43 u44 u45 u46 u47 u48 u49 u50 u51 u52 u53 u54 u55 u56 u57 u58 u59 u60 u61 u62 u63 u64 u65 u66 u67 u68 u69 u70 u71 u72 u73 u74 u75 u76 u77 u78 u79 u80 u81 u82 u83 u84 u85 u86 u87 u88 u89 u90 u91 u92 u93 u94 u95 u96 u97 u98 u99 UJ:Dn)(hi:i<=1048576)(hN:N<=1000000000000)(hI:Vs w0 bw n mm ff N w)
  (Nx:∀(w':En)(u2 u3 u8 u9 DF EF RD SD jC kC oC qC tC uC vC lD rB uB vB xB lA mA nA pA QB TB UB VB WB mD II JI KI LI u40 u41 u42 u43 u44 u45 u46 u47 u48 u49 u50 u51 u52 u53 u54 u55 u56 u57 u58 u59 u60 u61 u62 u63 u64 u65 u66 u67 u68 u69 u70 u71 u72 u73 u74 u75 u76 u77 u78 u79 u80 u81 u82 u83 u84 u85 u86 u87 u88 u89 u90 u91 u92 u93 u94 u95 u96 u97 u98 u99 UJ:Dn),Vs w0 bw n mm ff N w'->Ko prog Post (G ((base 7).at {tmps:=(List.toArray ((.slice lp len cap)::(.int .i64 mo)::(u2)::(u3)::(.bool Tm)::(.pointer (Gn ⟨bw,0,Hn⟩))::(.bool Um)::(.int .i64 ((i+1:Nat):Int))::(u8)::(u9)::(DF)::(EF)::(RD)::(SD)::(jC)::(kC)::(oC)::(qC)::(tC)::(uC)::(vC)::(lD)::(rB)::(uB)::(vB)::(xB)::(lA)::(mA)::(nA)::(pA)::(QB)::(TB)::(UB)::(VB)::(WB)::(mD)::(II)::(JI)::(KI)::(LI)::(u40)::(u41)::(u42)::(u43)::(u44)::(u45)::(u46)::(u47)::(u48)::(u49)::(u50)::(u51)::(u52)::(u53)::(u54)::(u55)::(u56)::(u57)::(u58)::(u59)::(u60)::(u61)::(u62)::(u63)::(u64)::(u65)::(u66)::(u67)::(u68)::(u69)::(u70)::(u71)::(u72)::(u73)::(u74)::(u75)::(u76)::(u77)::(u78)::(u79)::(u80)::(u81)::(u82)::(u83)::(u84)::(u85)::(u86)::(u87)::(u88)::(u89)::(u90)::(u91)::(u92)::(u93)::(u94)::(u95)::(u96)::(u97)::(u98)::(u99)::(UJ)::[])),defers:=[]} [.code vF,.inLoop vF,.inBlock 0,.code vT]) cs) w'):
  Ko prog Post (G ((base 7).at {tmps:=(List.toArray ((.slice lp len cap)::(.int .i64 mo)::(u2)::(u3)::(.bool Tm)::(.pointer (Gn ⟨bw,0,Hn⟩))::(.bool Um)::(.int .i64 i)::(u8)::(u9)::(DF)::(EF)::(RD)::(SD)::(jC)::(kC)::(oC)::(qC)::(tC)::(uC)::(vC)::(lD)::(rB)::(uB)::(vB)::(xB)::(lA)::(mA)::(nA)::(pA)::(QB)::(TB)::(UB)::(VB)::(WB)::(mD)::(II)::(JI)::(KI)::(LI)::(u40)::(u41)::(u42)::(u43)::(u44)::(u45)::(u46)::(u47)::(u48)::(u49)::(u50)::(u51)::(u52)::(u53)::(u54)::(u55)::(u56)::(u57)::(u58)::(u59)::(u60)::(u61)::(u62)::(u63)::(u64)::(u65)::(u66)::(u67)::(u68)::(u69)::(u70)::(u71)::(u72)::(u73)::(u74)::(u75)::(u76)::(u77)::(u78)::(u79)::(u80)::(u81)::(u82)::(u83)::(u84)::(u85)::(u86)::(u87)::(u88)::(u89)::(u90)::(u91)::(u92)::(u93)::(u94)::(u95)::(u96)::(u97)::(u98)::(u99)::(UJ)::[])),defers:=[]} [.code o90,.inBlock 1,.code Td0,.inLoop vF,.inBlock 0,.code vT]) cs) w:=by
 have hk:(base 7).kind≠.early:=J1;have hwr:IntKind.i64.wrap ((i:Int)+1)=((i+1:Nat):Int):=by rw[IntKind.wrap_i64];omega
 refine uc ?_;have hF:=Is.self w;refine S9 ?_;refine Ag ?_;refine Na ?_;refine .stop rfl fun w4 hR=>?_;obtain⟨d4,rfl⟩:=hF.rely hR;clear hF hR;refine Ko.call rfl I0 hk (fun d=>?MD) (fun d=>?GR) ((hI.is (w':=w.at d4) ⟨d4,rfl⟩).m_ hN) (fun v wS hv=>?_)
 case MD=>kernel_rfl
 case GR=>
  exact Ud
 obtain⟨rfl,hIs⟩:=hv;refine uc ?_;have hF:=Is.self wS;refine um ?_;obtain⟨d5,rfl⟩:=hIs;replace hF:Is w ((w.at d4).at d5):=⟨d5,rfl⟩;refine Fj ?_;refine Ag ?_;iterate 5 (refine .Yo Rn rfl I0 hk ?_;try walk_nrm)
 refine S9 ?_;refine Ce ?_;refine Na ?_;refine S9 ?_;refine Pn.inLoop Rn ?_;refine .stop rfl fun w9 hR=>?_;have hI9:=hI.is (hF.rely hR);exact Nx _ _ _ _ _ _ _ _ _ _ _ _ _ _ _ _ _ _ _ _ _ _ _ _ _ _ _ _ _ _ _ _ _ _ _ _ _ _ _ _ _ _ _ _ _ _ _ _ _ _ _ _ _ _ _ _ _ _ _ _ _ _ _ _ _ _ _ _ _ _ _ _ _ _ _ _ _ _ _ _ _ _ _ _ _ _ _ _ _ _ _ _ _ _ _ _ hI9
end Go.Proofs.YtdoghgnifkgfdaaGreat.Mute
