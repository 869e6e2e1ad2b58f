import Derived.Test.YtdoghgnifkgfdaaGreatP00
import Derived.Test.YtdoghgnifkgfdaaGreatP03
import Derived.Test.YtdoghgnifkgfdaaGreatP06
import Derived.Test.YtdoghgnifkgfdaaGreatP07
import Derived.Test.YtdoghgnifkgfdaaGreatP17
import Derived.Test.YtdoghgnifkgfdaaGreatP22
import Derived.Test.YtdoghgnifkgfdaaGreatP33
import Derived.Test.YtdoghgnifkgfdaaGreatP37
set_option maxRecDepth 100000
set_option maxHeartbeats 16000000
open Option renaming none->Ai,some->yi
open Go renaming World->ui,Value->ti,undef->ri
open Bool renaming true->ji,false->gi
namespace Go.Proofs.YtdoghgnifkgfdaaGreat.Mute
open Tryz Go Go.Conc Go.RowKit
theorem yH:∀(n i:Nat),i<n->(Zo n)[i*3]?=yi (.slice Ai 0 0)/\(Zo n)[i*3+1]?=yi (.slice Ai 0 0)/\(Zo n)[i*3+2]?=yi (.int .i64 0)
 |0,i,h=>absurd h (Nat.not_lt_zero i)
 |n+1,i,h=>by
  have hl:∀n,(Zo n).length=n*3:=fun n=>by
   induction n with
   |zero=>rfl
   |succ n ih=>simp[Zo,ih];omega
  by_cases e:i=n
  ·subst e;have:=hl i;simp[Zo,this]
  ·have h2:=yH n i E0;have:=hl n;simp only[Zo];rw[List.getElem?_append_left E0,List.getElem?_append_left E0,List.getElem?_append_left E0];exact h2
theorem UE:∀(n i:Nat),i<n->(Tm n)[i*4]?=yi (.int .i64 0)/\(Tm n)[i*4+1]?=yi (.int .i64 (-1))/\(Tm n)[i*4+2]?=yi (.int .i64 0)/\(Tm n)[i*4+3]?=yi (.bool gi)
 |0,i,h=>absurd h (Nat.not_lt_zero i)
 |n+1,i,h=>by
  have hl:∀n,(Tm n).length=n*4:=fun n=>by
   induction n with
   |zero=>rfl
   |succ n ih=>simp[Tm,ih];omega
  by_cases e:i=n
  ·subst e;have:=hl i;simp[Tm,this]
  ·have h2:=UE n i E0;have:=hl n;simp only[Tm];rw[List.getElem?_append_left E0,List.getElem?_append_left E0,List.getElem?_append_left E0,List.getElem?_append_left E0];exact h2
theorem eI(z:Nat->Int):∀(n i:Nat),i<n->(jw z n)[i*2]?=yi (.int .i64 (z (i*3+1)))/\(jw z n)[i*2+1]?=yi (.int .i64 (z (i*3+2)))
 |0,i,h=>absurd h (Nat.not_lt_zero i)
 |n+1,i,h=>by
  have hl:∀n,(jw z n).length=n*2:=fun n=>by
   induction n with
   |zero=>rfl
   |succ n ih=>simp[jw,ih];omega
  by_cases e:i=n
  ·subst e;have:=hl i;simp[jw,this]
  ·have h2:=eI z n i E0;have:=hl n;simp only[jw];rw[List.getElem?_append_left E0,List.getElem?_append_left E0];exact h2
def newC:Jl:=⟨[],[],0,0,-1,0,gi⟩
def sN(c:vl):Hy:=⟨fun i=>qt (c.lim i) (c.Vj i) (c.img i),fun _=>0,fun _=>[],fun _=>newC⟩
theorem aP{c:vl}{i:Nat}(h:Wn c i):uq (c.Zi i) c.qj (c.code i):=fun k hk=>by
 obtain⟨-,-,-,h4⟩:=h;obtain⟨h5,h6,h7,h8,h9,wI,VI,q_,h13⟩:=h4 k hk;refine⟨h5,h6,h7,h8,fun hx zN=>?_⟩;rcases hx with e|e|e|e|e|e
 ·exact⟨(h9 e).1,(h9 e).2.1⟩
 ·exact⟨(wI e).1,(wI e).2.1⟩
 ·exact⟨(VI (.inl e)).1,(VI (.inl e)).2.1⟩
 ·exact⟨(q_ e).1,(q_ e).2.1⟩
 ·exact absurd e zN
 ·exact⟨(VI (.inr e)).1,(VI (.inr e)).2.1⟩
theorem Ui.ch8{c:vl}(h:Ui c 0 0):c.qj<=8:=by
 unfold Ui at h;rcases h with h|h|⟨_,_,i,_,h,_⟩|h|⟨_,_,_,_,i,_,h,_⟩|h|⟨_,_,_,_,_,_,i,_,h,_⟩|⟨_,_,_,_,_,_,_,i,_,h,_⟩|h
 ·exact Ih
 ·exact Yg
 ·exact ec
 ·exact Jf
 ·exact ec
 ·exact Ie
 ·exact ec
 ·exact ec
 ·exact h.2.2.2.1
theorem BL{w:ui}{b e s n:Nat}{v:ti}{xs:List ti}(h:w.ownsRow b e s v n xs)(hn:0<n):∃g cap m f,v=.slice (yi ⟨g,0,Ai⟩) n cap/\b<=g/\Ei w g m e f/\n*s<=m/\∀j x,xs[j]?=yi x->f j=x:=by
 rcases h with⟨hl,⟨_,h0⟩|⟨g,cap,cur,hv,hb,hh,h1,h2,h3,h4⟩⟩
 ·omega
 ·refine⟨g,cap,cur.size,fun j=>cur.getD j ri,hv,hb,⟨cur,hh,rfl,fun j hj=>by simp[Array.getD,hj]⟩,by rw[h3];exact Nat.mul_le_mul_right _ h1,fun j x hx=>?_⟩;rw[<-h4,List.getElem?_take]at hx;split at hx
  ·rw[Array.getElem?_toList]at hx;simp[Array.getD_eq_getD_getElem?,hx]
  ·cases hx
def KM2(c:vl)(B K nb:Nat)(v tr:ti)(w:ui):Prop:=
 ∃u xs,Ei w K 5 94 (su v (.int .i64 0) u (.pointer (yi ⟨nb,0,Ai⟩)) tr)/\w.ownsRow (K+1) 143 1 u c.nC xs/\Ext B c nb tr w/\(∃ys,w.ownsRow (K+1) 100 1 v c.nT ys/\zt B c c.nT ys w)/\Tt B c nb c.nC xs w
section
variable {w:ui}
theorem nX{c:vl}{B K nb:Nat}{v tr:ti}(h:KM2 c B K nb v tr w)(hBK:B<=K)(kH:Ui c 0 0):
  ∃k N t f,zq w k N t (sN c) f (fun _=>Ai) 0 (fun b=>B<=b/\b<w.heap.size)/\k.kb=K/\k.nC=c.nC/\k.n=c.Zi/\k.ci=c.code/\(∀i,k.num i=i)/\N.k=c.qj/\(∀i,N.fr i=c.ch (i*3+1))/\(∀i,N.RD i=c.ch (i*3+2))/\t.nT=c.nT/\t.nw=c.nRow/\t.wn=az c:=by
 obtain⟨u,xs,hK,hu,⟨⟨TW,ve,vq,vs,JC,⟨pe,ce,he⟩,⟨pq,cq,hq⟩,⟨ps,cs',hs⟩,oI,YQ,B_⟩,T,hT,htr,hTr⟩,⟨ys,hv,pd0⟩,kb,hinj,N80⟩:=h;obtain⟨⟨KA,hn6⟩,⟨ht1,ht8⟩,Wq⟩:=kH.sizes;have h8:=Ui.ch8 kH;have hra:=Ui.NL kH;obtain⟨C,cC,rfl,hCl,tj0⟩:=hu.form E0;obtain⟨tb,cT,rfl,p_,fi0⟩:=hv.form E0;obtain⟨cv,hcv⟩:=choose_lt (.slice Ai 0 0) N80;have yj0:∀i,i<c.nC->∃p:Nat×Nat,cv i=.slice (yi ⟨p.1,0,Ai⟩) (c.Zi i) p.2/\B<=p.1/\p.1<w.heap.size:=fun i hi=>by
  obtain⟨-,-,-,-,h5⟩:=hcv i hi;obtain⟨g,cap,h6,h7,h8⟩:=h5.form (by have:=(Wq i hi).2.2.1.1;exact this);exact⟨(g,cap),h6,h7,h8⟩
 obtain⟨cp,hcp⟩:=choose_lt (0,0) yj0;obtain⟨rp,hrp⟩:=choose_lt (α:=Nat×Nat) (0,0) (P:=fun i p=>ys[i]?=yi (.slice (yi ⟨p.1,0,Ai⟩) (c.nRow i) p.2)/\w.ownsRow B 102 2 (.slice (yi ⟨p.1,0,Ai⟩) (c.nRow i) p.2) (c.nRow i) ((List.range (c.nRow i*2)).map fun j=>.int .i64 (c.row i j))) (fun i (hi:i<c.nT)=>by
  obtain⟨g,cap,h1,h2⟩:=pd0 i hi;exact⟨(g,cap),h1,h2⟩)
 subst htr;obtain⟨csK,hKh,-⟩:=id hK;obtain⟨csN,hNh,-⟩:=id JC;obtain⟨csC,hCh⟩:=yx hu (g:=C) rfl;obtain⟨csT,hTh⟩:=yx hv (g:=tb) rfl;have Gj:∀i,i<c.nC->w.ownsRow B 97 4 (.slice (yi ⟨(cp i).1,0,Ai⟩) (c.Zi i) (cp i).2) (c.Zi i) ((List.range (c.Zi i*4)).map fun j=>.int .i64 (c.code i j)):=fun i hi=>by
  have:=(hcv i hi).2.2.2.2;rwa [(hcp i hi).1]at this
 have ze0:∀i,i<c.nC->Ei w (kb i) 48 186 (cellV i (.pointer (yi ⟨nb,0,Ai⟩)) (.slice (yi ⟨(cp i).1,0,Ai⟩) (c.Zi i) (cp i).2) (qt (c.lim i) (c.Vj i) (c.img i))):=fun i hi=>by
  have:=(hcv i hi).2.2.2.1;rwa [(hcp i hi).1]at this
 have TJ:=fun i (hi:i<c.nT)=>F70 (hra i hi);obtain⟨N,hNk,hNb,hNf,hNt,hNw,hNq,hNe⟩:∃N:Nl,N.k=c.qj/\N.nb=nb/\(∀i,N.fr i=c.ch (i*3+1))/\(∀i,N.RD i=c.ch (i*3+2))/\sH w N/\VJ w N (fun _=>newC) (fun _=>Ai)/\(0<N.k->(∃m f,B<=N.qb/\Ei w N.qb m 156 f)/\(∃m f,B<=N.sb/\Ei w N.sb m 158 f)/\∃m f,B<=N.eb/\Ei w N.eb m 151 f):=by
  by_cases h0:0<c.qj
  ·obtain⟨eb,ce,em,ef,e1,e2,e3,e4,e5⟩:=BL oI h0;obtain⟨qb,cq,qm,qf,q1,q2,q3,q4,q5⟩:=BL YQ h0;obtain⟨sb,cs,sm,sf,s1,s2,s3,s4,s5⟩:=BL B_ h0;subst e1 q1 s1;refine⟨⟨nb,eb,qb,sb,c.qj,qm,sm,fun i=>c.ch (i*3+1),fun i=>c.ch (i*3+2)⟩,rfl,rfl,fun _=>rfl,fun _=>rfl,⟨⟨_,ce,JC.cell (j:=0) E0,fun _=>rfl⟩,⟨_,cq,JC.cell (j:=1) E0,fun _=>rfl⟩,⟨_,cs,JC.cell (j:=2) E0,fun _=>rfl⟩,fun j hj=>?_,fun j hj=>?_,q4,s4,by show c.qj<=1000;omega⟩,⟨fun _ _=>rfl,fun _ _ _ _ h=>X3,fun _ _ h=>X3,fun _=>⟨qf,sf,q3,s3,fun i hi=>?_⟩⟩,fun _=>⟨⟨_,_,q2,q3⟩,⟨_,_,s2,s3⟩,⟨_,_,e2,e3⟩⟩⟩
   ·have hj:j<c.qj:=hj;rw[e3.cell (j:=j*2) E0,e5 _ _ (eI c.ch c.qj j hj).1]
   ·have hj:j<c.qj:=hj;rw[e3.cell (j:=j*2+1) E0,e5 _ _ (eI c.ch c.qj j hj).2]
   ·have hi:i<c.qj:=hi;have hq:=yH c.qj i hi;have hs:=UE c.qj i hi;exact⟨.inl ⟨rfl,q5 _ _ hq.1,rfl⟩,.inl ⟨rfl,q5 _ _ hq.2.1,rfl⟩,q5 _ _ hq.2.2,s5 _ _ hs.1,s5 _ _ hs.2.1,s5 _ _ hs.2.2.1,s5 _ _ hs.2.2.2⟩
  ·have h0':c.qj=0:=by omega
   subst he hq hs;refine⟨⟨nb,0,0,0,c.qj,c.qj*3,c.qj*4,fun i=>c.ch (i*3+1),fun i=>c.ch (i*3+2)⟩,rfl,rfl,fun _=>rfl,fun _=>rfl,⟨⟨_,ce,JC.cell (j:=0) E0,fun h=>absurd h h0⟩,⟨_,cq,JC.cell (j:=1) E0,fun h=>absurd h h0⟩,⟨_,cs',JC.cell (j:=2) E0,fun h=>absurd h h0⟩,fun j hj=>absurd (Nat.lt_of_le_of_lt (Nat.zero_le j) hj) h0,fun j hj=>absurd (Nat.lt_of_le_of_lt (Nat.zero_le j) hj) h0,Nat.le_refl _,Nat.le_refl _,by show c.qj<=1000;omega⟩,⟨fun _ _=>rfl,fun _ _ _ _ h=>X3,fun _ _ h=>X3,fun h=>absurd h h0⟩,fun h=>absurd h h0⟩
 subst hNb
 let k:Vu:=⟨K,C,T,c.nC,cC,N.nb,kb,fun i=>(cp i).1,fun _=>0,c.Zi,fun i=>(cp i).2,fun i=>i,c.code⟩
 let t:Tab:=⟨tb,cT,c.nT,fun i=>(rp i).1,fun _=>0,fun i=>(rp i).2,c.nRow,az c⟩
 have seb:0<N.k->Ll w N.eb:=fun h0=>by
  obtain⟨-,-,m,f,-,cs,hh,-⟩:=hNe h0;exact Qg
 have scb:∀i,i<c.nC->Ll w (cp i).1:=fun i hi=>by
  obtain⟨cs,hh⟩:=yx (Gj i hi) (g:=(cp i).1) rfl;exact Qg
 have sws:∀i,i<c.nT->Ll w (rp i).1:=fun i hi=>by
  obtain⟨cs,hh⟩:=yx (hrp i hi).2 (g:=(rp i).1) rfl;exact Qg
 have ya0:EB w k N:=by
  refine⟨hK.cell (j:=2) E0,hK.cell (j:=4) E0,⟨csK,_,_,hKh,U0,U0,U0,U0,U0,U0⟩,⟨csC,_,_,hCh,U0,U0,U0,U0,U0,U0⟩,⟨csN,_,_,hNh,U0,U0,U0,U0,U0,U0⟩,seb,scb,fun i hi=>Am hu (hcv i hi).1,fun i hi j hj=>?_,hNw,fun i hi=>(Wq i hi).2.2.1.2,fun i hi=>?_,hinj⟩
  ·show w.cell? ⟨(cp i).1,0+j,Ai⟩=yi (.int .i64 (c.code i j));rw[Nat.zero_add];exact Am (Gj i hi) (by simp[show j<c.Zi i*4 from hj])
  ·rw[hNk];exact aP (Wq i hi)
 have d90:Ux w k N (sN c) (fun _=>.slice Ai 0 0) (fun _=>Ai):=
  ⟨ze0,hTr,fun i hi=>World.ownsRow_nil _ _ _ _,fun i hi=>(pV _ _ _ _ (Wq i hi).2.1).1,fun i j _ _ _ b hb=>by simp[Value.ownBlock]at hb,hNq⟩
 refine⟨k,N,t,fun _=>.slice Ai 0 0,⟨ya0,d90,fun _ _=>⟨Nat.zero_le _,Nat.zero_le _⟩,hK,⟨csT,_,_,hTh,U0,U0,U0,U0,U0,U0⟩,fun i hi=>Am hv (hrp i hi).1,sws,fun i hi j hj=>?_,fun i hi j hj=>?_,by show 0<c.nT;omega,by show c.nT<=1000;omega,fun i hi=>(TJ i hi).1,fun i hi j hj=>((TJ i hi).2 j hj).2.2,fun b hb=>?_,fun b hb=>hb.2,fun b hb=>?_⟩,rfl,rfl,rfl,rfl,fun _=>rfl,hNk,hNf,hNt,rfl,rfl,rfl⟩
 ·show w.cell? ⟨(rp i).1,0+j*2,Ai⟩=yi (.int .i64 ((az c i j).1:Int));have Vs:j<c.nRow i:=hj;rw[Nat.zero_add,((TJ i hi).2 j hj).1];exact Am (hrp i hi).2 (by simp[show j*2<c.nRow i*2 by omega])
 ·show w.cell? ⟨(rp i).1,0+j*2+1,Ai⟩=yi (.int .i64 ((az c i j).2:Int));have Vs:j<c.nRow i:=hj;rw[Nat.zero_add,((TJ i hi).2 j hj).2.1];exact Am (hrp i hi).2 (by simp[show j*2+1<c.nRow i*2 by omega])
 ·rcases hb with hb|(hb|hb|⟨h0,hb⟩|hb|⟨i,hi,hb⟩|⟨i,hi,hb⟩)|(hb|hb|⟨i,hi,hb|hb⟩)
  ·subst hb;exact⟨hBK,hK.lt⟩
  ·subst hb;exact⟨E0,tj0⟩
  ·subst hb;exact⟨TW,JC.lt⟩
  ·subst hb;obtain⟨-,-,m,f,e1,e2⟩:=hNe h0;exact⟨e1,e2.lt⟩
  ·subst hb;exact⟨E0,fi0⟩
  ·subst hb;exact(hcp i hi).2
  ·subst hb;exact(hrp i hi).2.lt _ rfl
  ·subst hb;exact⟨hT,hTr.lt⟩
  ·rcases hb with⟨h0,hb⟩|⟨j,r,hj,_⟩
   ·obtain⟨⟨m,f,e1,e2⟩,⟨m',f',e3,e4⟩,-⟩:=hNe h0;rcases hb with rfl|rfl
    ·exact⟨e1,e2.lt⟩
    ·exact⟨e3,e4.lt⟩
   ·cases hj
  ·subst hb;exact⟨(hcv i hi).2.1,(hcv i hi).2.2.1⟩
  ·exact Wh
 ·rcases hb with rfl|rfl|⟨h0,rfl⟩|rfl|⟨i,hi,rfl⟩|⟨i,hi,rfl⟩
  ·exact lF hCh hKh U0
  ·exact lF hNh hKh U0
  ·obtain⟨-,-,m,f,-,cs,hh,-⟩:=hNe h0;exact lF hh hKh U0
  ·exact lF hTh hKh U0
  ·obtain⟨cs,hh⟩:=yx (Gj i hi) (g:=(cp i).1) rfl;exact lF hh hKh U0
  ·obtain⟨cs,hh⟩:=yx (hrp i hi).2 (g:=(rp i).1) rfl;exact lF hh hKh U0
end
theorem Ui.Td0{c:vl}(h:Ui c 0 0):Hj (bu c) c.qj/\c.nD<=4:=by
 unfold Ui at h;rcases h with h|h|⟨_,_,i,_,h,_⟩|h|⟨_,_,_,_,i,_,h,_⟩|h|⟨_,_,_,_,_,_,i,_,h,_⟩|⟨_,_,_,_,_,_,_,i,_,h,_⟩|h
 ·exact Ih
 ·exact Yg
 ·exact ec
 ·exact Jf
 ·exact ec
 ·exact Ie
 ·exact ec
 ·exact ec
 ·exact⟨h.2.2.2.2.1,h.2.2.2.2.2.1⟩
theorem D30{c:vl}{i:Nat}(h:Wn c i){kind fr:Nat->Int}(hk:∀j,kind j=c.ch (j*3))(hf:∀j,fr j=c.ch (j*3+1)):TC i kind fr c.nD (c.Zi i) (c.code i):=fun k sF=>by
 obtain⟨-,-,-,h4⟩:=h;obtain⟨h5,h6,h7,h8,h9,wI,VI,q_,h13⟩:=h4 k sF;simp only[hk,hf];exact⟨fun e=>(h9 e).2.2,fun e=>(wI e).2.2,fun e=>(VI e).2.2.1,fun e=>(q_ e).2.2.1,fun e=>⟨(h13 e).1,(h13 e).2.1⟩⟩
theorem T30(nl:Bool)(b n:Nat)(h:nl=ji->n=0):∃q cc,zj nl b n=.slice q n cc/\(∀b' o,q=yi ⟨b',o,Ai⟩->nl=gi/\b'=b/\o=0)/\(nl=gi->q=yi ⟨b,0,Ai⟩):=by
 cases nl with
 |true=>exact⟨Ai,0,by rw[h rfl];rfl,fun _ _ e=>G3,fun e=>G3⟩
 |false=>exact⟨yi ⟨b,0,Ai⟩,n+2,rfl,fun b' o e=>(by cases e;exact⟨rfl,rfl,rfl⟩),fun _=>rfl⟩
section
variable {w:ui}
theorem yX{c:vl}{B Kb Gc L:Nat}{o0 o1 o2 o3:ti}{wl:ui}(hl:vu wl c B o0 o1 o2 o3)(hb:Below wl.heap.size wl w)(hr:w00 c wl o0 o1 o2 o3 Kb Gc L w)(kH:Ui c 0 0)
  (hcn:∀i,i<c.nC->c.Xl i=ji->c.Zi i=0)(G_:∀i,i<c.nC->c.Yl i=ji->c.Vj i=0)(Bn:c.Jt=ji->c.qj=0)(AH:c.Ws=ji->c.nD=0){k:Vu}{N:Nl}(vA:k.nC=c.nC)(qA:k.n=c.Zi)(hk3:k.ci=c.code)(hk4:∀i,k.num i=i)(hN1:N.k=c.qj)(hN2:∀i,N.fr i=c.ch (i*3+1)):
  ∃r t x,Bo w k N r t x (sN c) noN (fun _=>kF) (.slice Ai 0 0) [] 0 (fun b=>B<=b/\b<w.heap.size)/\r.Kb=Kb/\t.nT=c.nT/\t.nw=c.nRow/\t.wn=az c/\r.kc=c.qj/\x.ch=c.ch:=by
 obtain⟨⟨cb,rb,yo,Zu,p0,yj,p1,wj,hi,Ny,rfl,l0,z0,Hw,rfl,l1,z1,jV,rfl,rfl,Pm,JK,hB2,Nk,QH,Pc0,hdv,hh⟩,lo0,lo1⟩:=hl;obtain⟨hK,hG,Jj,mF,hGr,hL,hLG,hLK,hLr⟩:=hr;obtain⟨⟨KA,hn6⟩,⟨ht1,ht8⟩,Wq⟩:=kH.sizes;have hra:=Ui.NL kH;have h8:=Ui.ch8 kH;obtain⟨hco,hd4⟩:=Ui.Td0 kH;obtain⟨q2,w_,e2⟩:∃q cc,zj c.Jt yo c.qj=.slice q c.qj cc/\(∀b o,q=yi ⟨b,o,Ai⟩->c.Jt=gi/\b=yo/\o=0)/\(c.Jt=gi->q=yi ⟨yo,0,Ai⟩):=T30 _ _ _ Bn;obtain⟨q3,A_,e3⟩:∃q cc,zj c.Ws Zu c.nD=.slice q c.nD cc:=Tq _ _ _ AH;have TJ:=fun i (hi:i<c.nT)=>F70 (hra i hi);rcases Hw with e|⟨b0,f0,rfl,c0⟩
 ·omega
 rcases jV with e|⟨b1,f1,rfl,c1⟩
 ·omega
 have hB0:B<=b0:=lo0 b0 rfl;have To0:B<=b1:=lo1 b1 rfl;have hb0:b0<wl.heap.size:=cell_lt (c0 0 E0);have Zs:b1<wl.heap.size:=cell_lt (c1 0 E0);have jR:wl.heap.size<=w.heap.size:=hb.size;have up:∀{b o:Nat}{v:ti},b<wl.heap.size->wl.cell? ⟨b,o,Ai⟩=yi v->w.cell? ⟨b,o,Ai⟩=yi v:=fun {b o v} h1 h2=>(cell_of_heap (a:=⟨b,o,Ai⟩) (hb.block b h1)).trans h2;have st:∀{b:Nat},b<wl.heap.size->b<w.heap.size/\(b≠Gc/\b≠L)/\w.heap.size<=w.heap.size:=fun {b} h=>⟨E0,⟨E0,E0⟩,Nat.le_refl _⟩;have cf:∀i,i<c.nC->c.Xl i=false:=fun i hi=>by
  cases e:c.Xl i with
  |false=>rfl
  |true=>have h1:=hcn i hi e;have h2:=(Wq i hi).2.2.1.1;omega
 have Gj:∀i,i<c.nC->∃ty,Ei wl (cb i) ((c.Zi i+2)*4) ty (fun j=>.int .i64 (Pj 4 (c.Zi i) (c.code i) j)):=fun i hi=>Pm.code i hi (cf i hi);have DF:∀i,i<c.nC->cb i<wl.heap.size:=fun i hi=>by obtain⟨ty,h⟩:=Gj i hi;exact h.lt
 have rU:∀i,i<c.nC->c.Yl i=gi->cb i+1<wl.heap.size:=fun i hi e=>by obtain⟨ty,h⟩:=Pm.img i hi e;exact h.lt
 have KQ:∀i,i<c.nT->rb i<wl.heap.size:=fun i hi=>by obtain⟨ty,h⟩:=(Nk i hi).1 rfl;exact h.lt
 have hhl:c.Jt=gi->yo<wl.heap.size:=fun e=>by obtain⟨ty,h⟩:=Pc0 e;exact h.lt
 let r:RK:=⟨w.heap.size,Kb,Gc,b0,f0,yj,cb,fun _=>0,fun i=>c.Zi i+2,fun i=>if c.Yl i then Ai else yi ⟨cb i+1,0,Ai⟩,fun i=>if c.Yl i then 0 else c.Vj i+2,c.Vj,c.img,c.lim,L,c.qj⟩
 let x:RX:=⟨f1,q2,w_,q3,A_,c.nD,c.ch⟩
 let t:Tab:=⟨b1,wj,c.nT,rb,fun _=>0,fun i=>c.nRow i+2,c.nRow,az c⟩
 have hiq:∀i,i<c.nC->∀b o,r.iq i=yi ⟨b,o,Ai⟩->c.Yl i=gi/\b=cb i+1/\o=0:=fun i hi b o e=>by
  have e':(if c.Yl i=ji then Ai else yi (⟨cb i+1,0,Ai⟩:Addr))=yi ⟨b,o,Ai⟩:=e;cases e2:c.Yl i with
  |true=>rw[e2]at e';simp at e'
  |false=>rw[e2]at e';simp at e';exact⟨rfl,e'.1.symm,e'.2.symm⟩
 have dF:Tn w k r (Nx (sN c) noN noN) (sN c).m (sN c).xs:=by
  refine⟨?_,?_,⟨mF.lt,⟨Jj,fun e=>hLK e.symm⟩,Nat.le_refl _⟩,st hb0,fun i hi=>st (DF i E0),fun i hi b o e=>?_,fun i b hi e=>G3,fun i hi=>?_,fun i hi=>?_,fun i hi=>?_,fun i hi j hj=>?_,fun i hi=>?_,?_,fun i hi=>World.ownsRow_nil _ _ _ _,fun i j _ _ _ b e=>G3,fun i hi=>(Wq i E0).2.1,fun i hi=>?_,fun i hi=>?_,fun i hi j _ _=>rfl⟩
  ·rw[vA];exact mF.cell (j:=0) E0
  ·rw[vA];exact mF.cell (j:=4) E0
  ·obtain⟨h1,h2,h3⟩:=hiq i E0 b o e;subst h2;exact st (rU i E0 h1)
  ·have:=up hb0 (c0 (i*3) E0);rw[(Kq c cb i).1,cf i E0]at this;rw[qA];exact nh
  ·have:=up hb0 (c0 (i*3+1) E0);rw[(Kq c cb i).2.1,<-Nat.add_assoc]at this;refine this.trans ?_;show yi (zj (c.Yl i) (cb i+1) (c.Vj i))=yi (.slice (if c.Yl i=ji then Ai else yi ⟨cb i+1,0,Ai⟩) (c.Vj i) (if c.Yl i=ji then 0 else c.Vj i+2));cases e:c.Yl i with
   |true=>rw[G_ i E0 e];rfl
   |false=>rfl
  ·have:=up hb0 (c0 (i*3+2) E0);rw[(Kq c cb i).2.2,<-Nat.add_assoc]at this;exact nh
  ·obtain⟨ty,h⟩:=Gj i E0;rw[qA]at hj;have:=up (DF i E0) (h.cell (j:=j) E0);rw[hk3];show w.cell? ⟨cb i,0+j,Ai⟩=yi (.int .i64 (c.code i j));rw[Nat.zero_add];refine this.trans ?_;unfold Pj;rw[if_pos hj]
  ·show Sl w (if c.Yl i=ji then Ai else yi ⟨cb i+1,0,Ai⟩) (c.Vj i) (fun j=>.int .i64 (c.img i j));cases e:c.Yl i with
   |true=>exact .inl (G_ i E0 e)
   |false=>
    obtain⟨ty,h⟩:=Pm.img i E0 e;refine .inr ⟨cb i+1,0,rfl,fun j hj=>?_⟩;have:=up (rU i E0 e) (h.cell (j:=j) E0);rw[Nat.zero_add];refine this.trans ?_;unfold Pj;rw[if_pos E0]
  ·rw[vA];refine hGr.congr fun j hj=>?_;have Y50:j/26<c.nC:=by omega
   unfold Sj vy Nx sN noN;rw[if_pos Y50];have e46:qt (c.lim (j/26)) (c.Vj (j/26)) (c.img (j/26)) 46=0:=by
    have:=(Wq _ Y50).2.1;unfold qt;exact af
   have e47:qt (c.lim (j/26)) (c.Vj (j/26)) (c.img (j/26)) 47=0:=by
    have:=(Wq _ Y50).2.1;unfold qt;exact af
   have e3:qt (c.lim (j/26)) (c.Vj (j/26)) (c.img (j/26)) 3=c.lim (j/26):=rfl;have:=(Wq _ Y50).1.1;simp only[e46,e47,e3];rw[decide_eq_false E0]
  ·rw[qA];exact(Wq i E0).2.2.1.2
  ·rw[qA,hk3];exact aP (Wq i E0)
 have JC:Om w k.nC r (Nx (sN c) noN noN) (fun _=>[]) (fun _=>kF) (0:Nat) (.slice Ai 0 0) []:=
  ⟨mF.cell (j:=5) E0,mF.cell (j:=6) E0,mF.cell (j:=7) E0,World.ownsRow_nil _ _ _ _,hLr,⟨hLr.lt,hLG,hLK,by show c.qj<=1000;omega,Nat.zero_le _⟩,fun _ _=>World.ownsRow_nil _ _ _ _,fun _ _ _ _ _ b e=>G3,fun _ b _ e=>G3,fun _ _=>World.ownsRow_nil _ _ _ _,fun _ _ _ _ _ b e=>G3,fun _ b _ e=>G3⟩
 have Vh0:RTab w k N r t x:=by
  refine⟨⟨?_,fun i hi=>?_,fun i hi b o e=>?_⟩,hN1,fun i _=>hk4 i,st Zs,?_,fun i hi=>?_,fun i hi=>st (KQ i hi),fun i hi=>?_,fun i hi j hj=>?_,fun i hi j hj=>?_,ht1,by show c.nT<=1000;omega,fun i hi=>(TJ i hi).1,fun i hi j hj=>?_,E0,by show c.nD<=1000;omega,?_,fun b o e=>?_,fun i hi=>?_,fun i hi=>?_⟩
  ·show b0≠Kb;omega
  ·show cb i≠Kb;have:=DF i E0;omega
  ·obtain⟨h1,h2,h3⟩:=hiq i E0 b o e;show b≠Kb;have:=rU i E0 h1;omega
  ·show b1≠Kb;omega
  ·exact up Zs (c1 i hi)
  ·show rb i≠Kb;have:=KQ i hi;omega
  ·obtain⟨ty,h⟩:=(Nk i hi).1 rfl;have Vs:j<c.nRow i:=hj;show w.cell? ⟨rb i,0+j*2,Ai⟩=yi (.int .i64 ((az c i j).1:Int));rw[Nat.zero_add,((TJ i hi).2 j hj).1];refine(up (KQ i hi) (h.cell (j:=j*2) E0)).trans ?_;unfold Pj;rw[if_pos E0]
  ·obtain⟨ty,h⟩:=(Nk i hi).1 rfl;have Vs:j<c.nRow i:=hj;show w.cell? ⟨rb i,0+j*2+1,Ai⟩=yi (.int .i64 ((az c i j).2:Int));rw[Nat.zero_add,((TJ i hi).2 j hj).2.1];refine(up (KQ i hi) (h.cell (j:=j*2+1) E0)).trans ?_;unfold Pj;rw[if_pos E0]
  ·have:=((TJ i hi).2 j hj).2.2;rw[vA];exact nh
  ·cases e:c.Jt with
   |true=>exact .inl (by show c.qj*3=0;rw[Bn e])
   |false=>
    obtain⟨ty,h⟩:=Pc0 e;refine .inr ⟨yo,0,e2.2.2 e,fun j hj=>?_⟩;have Vs:j<c.qj*3:=hj;rw[Nat.zero_add];refine(up (hhl e) (h.cell (j:=j) E0)).trans ?_;show yi (Value.int .i64 (Pj 3 c.qj c.ch j))=yi (.int .i64 (c.ch j));unfold Pj;rw[if_pos Vs]
  ·obtain⟨h1,h2,-⟩:=e2.2.1 b o e;subst h2;have:=hhl h1;exact⟨st this,by show b≠Kb;omega⟩
  ·have:=(hco i hi).2.1;refine⟨hN2 i,?_⟩;rw[hN2,vA];exact nh
  ·rw[qA,hk3];exact D30 (Wq i E0) (fun _=>rfl) hN2
 refine⟨r,t,x,⟨dF,JC,fun i hi=>⟨fun _=>⟨rfl,rfl,rfl⟩,fun _=>⟨rfl,rfl,by simp[ry,newC,sN],fun y l' hl=>by simp[ry]at hl,fun h=>V3⟩⟩,fun i hi=>Nat.zero_le _,fun i hi=>?_,?_,Vh0,fun b uk=>?_,fun b uk=>uk.2⟩,rfl,rfl,rfl,rfl,rfl,rfl⟩
 ·rw[qA];exact pV _ _ _ _ (Wq i E0).2.1
 ·unfold rkV;rw[vA];rw[e2.1,e3]at mF;exact mF
 ·rcases uk with (uk|uk|uk|⟨i,uI,uk⟩|⟨i,uI,uk⟩|uk)|uk|⟨i,uI,uk|⟨o,uk⟩⟩|uk|⟨i,uI,uk⟩|⟨o,uk⟩
  ·subst uk;exact⟨E0,mF.lt⟩
  ·subst uk;exact⟨E0,hGr.lt⟩
  ·subst uk;exact⟨E0,hLr.lt⟩
  ·cases uk
  ·cases uk
  ·cases uk
  ·have e:b=b0:=uk;exact⟨E0,E0⟩
  ·have e:b=cb i:=uk;have h1:=DF i E0;have h2:=(Pm.lo i E0).1;exact⟨E0,E0⟩
  ·obtain⟨h1,h2,h3⟩:=hiq i E0 b o uk;have h4:=rU i E0 h1;have h5:=(Pm.lo i E0).1;exact⟨E0,E0⟩
  ·have e:b=b1:=uk;exact⟨E0,E0⟩
  ·have e:b=rb i:=uk;have h1:=KQ i uI;have h2:=(Nk i uI).2.1;exact⟨E0,E0⟩
  ·obtain⟨h1,h2,-⟩:=e2.2.1 b o uk;have h3:=hhl h1;have h4:=hh.1 h1;exact⟨E0,E0⟩
end
section
theorem MQ{w:ui}{kb il ic:Nat}(ip:Option Addr)(rU:4<il):Fj prog 15 #[.pointer (yi ⟨kb,0,Ai⟩),.slice ip il ic] w (fun v w'=>v=.int .i64 6/\∃d,w'=w.at d):=by
 refine Fj.UD (List.toArray ((.pointer (yi ⟨kb,0,Ai⟩))::(.slice ip il ic)::ri::ri::ri::ri::ri::ri::ri::ri::ri::ri::ri::ri::ri::ri::ri::ri::ri::ri::ri::ri::ri::ri::ri::ri::ri::ri::ri::ri::ri::ri::ri::ri::ri::ri::ri::ri::ri::ri::ri::ri::ri::ri::ri::ri::ri::ri::ri::[])) func15 I0 J0 fun cs Post hp=>?_;have hk:(base 15).kind≠.early:=E1;refine vb ?_;have hF:=Is.self w;have m90:(4:Int)<(il:Int):=E0;refine W9 ?_;refine V8 ?_;refine Zb ?_;refine X8 ?_;refine V8 ?_;refine Ed ?_;refine R9 ?_;refine V8 ?_;refine Ci.zk Di (by first|rfl|simp[Act.eval,m90]) ?_;refine V8 ?_;refine Zb ?_;refine X8 ?_;refine V8 ?_;refine Ci.ret Di fun todo=>?_;refine .stop rfl fun w6 hR=>?_;obtain⟨d,rfl⟩:=hF.rely hR;exact hp _ _ _ _ rfl (fun d=>(resultsC_tmp (t:=4) I0 _ _).1) ⟨rfl,d,rfl⟩
end
def dL:List Nat:=[8,9,11,12,13,14,16,17,18,19,20,22,23,24,25,27,28,29,30,32,33,34,35,36,37,38,39,40,41,42,43,44,45,46,47,48,49,50,51,52,53,54,55,56,58,59,60,61,62,63,64,65,66,67,68,69,70,71,72,73,74,75,76,77,78,79,80,81,82,85,86,87,88,89,90,91,92,93,94,95,96,97,98,99,100,101,102,103,104,105,106,107,108,109,110,112,114,115,116,117,118,119,120,121,122,123,124,125,126,127,128,130,131,132,133,134,135,136,137,138,139,140,142,143,144,146,147]
def K20:List (Nat×Nat):=[(75,14),(76,9),(77,9),(89,1),(89,11),(92,1),(92,11),(95,1),(95,11),(99,29),(116,1),(116,6),(131,1),(131,11),(143,8),(146,1),(146,11)]
def H30:List (Nat×Nat):=[(126,15),(127,7),(128,11)]
def dR:List Nat:=[90,93,96,117,147]
def plan:Ou:={fns:=fun f=>dL.contains f,fs:=fun h t=>K20.contains (h,t),ps:=fun h t=>H30.contains (h,t),cf:=fun f=>dR.contains f}
def L60(P:Program)(A:Ou)(f:Nat):Bool:=match P.funcs[f]? with
 |some fn=>match fn.body with
  |some c=>Tj P A f c
  |none=>ji
 |none=>ji
theorem LS:dL.all (L60 prog plan)=true:=J0
theorem W20:dR.all (fun f=>Eu prog plan f&&fA prog plan f)=true:=J0
def Qa0(P:Program)(l:List (Nat×Nat)):Bool:=l.all fun x=>match P.funcs[x.1]? with
 |some fn=>decide (x.2<fn.ntmps+64)
 |none=>ji
theorem pK:Qa0 prog K20=ji/\Qa0 prog H30=true:=⟨J0,J0⟩
theorem N10{P:Program}{l:List (Nat×Nat)}(h:Qa0 P l=ji){f t:Nat}{fn:Func}(hf:P.funcs[f]?=yi fn)(ht:fn.ntmps+64<=t):l.contains (f,t)=false:=by
 cases hc:l.contains (f,t)with
 |false=>rfl
 |true=>
  have hm:(f,t)∈l:=by simpa using hc
  have:=List.all_eq_true.1 h _ hm;simp only[hf,decide_eq_true_eq]at this;omega
theorem plain:Dk prog plan where
 code f fn c hA hf hc:=by
  have hm:f∈dL:=by simpa[plan]using hA
  have:=List.all_eq_true.1 LS f hm;unfold L60 at this;simpa only [hf,hc]using this
 cf f hc:=by
  have hm:f∈dR:=by simpa[plan]using hc
  have:=List.all_eq_true.1 W20 f hm;exact Yc
 far f t fn hf ht:=⟨N10 pK.1 hf ht,N10 pK.2 hf ht⟩
theorem SQ:prog.funcs.all (fun f=>match f.body with|some c=>(readies c).isEmpty|none=>ji)=true:=J0
theorem BK(g:Nat):prog.stepOf g=none:=by
 unfold Program.stepOf;rw[Array.findIdx?_eq_none_iff];intro f hf;have:=Array.all_eq_true_iff_forall_mem.1 SQ f hf;cases hb:f.body with
 |none=>rfl
 |some c=>
  simp only[hb]at this;have e:readies c=[]:=by simpa using this
  simp[e]
theorem Fj.Nu{w:ui}{f:FuncId}{args:Array ti}{R':ti->ui->Prop}(hen:vo prog plan f args)(R:ti->ui->Prop)(hc:∀τ,Calls prog f args (Rj w τ 0) (fun e w'=>∃v,e=.returned v/\R v w'))(hR:∀v w₁ τ d d',R v (Rj w₁ τ d)->R' v (Rj w₁ w.tape d')):Fj prog f args w R':=
 (Fj.S30 plain BK hen R hc).mono fun v w' ⟨w₁,τ,d,d',h1,h2⟩=>by rw[h2];exact hR v w₁ τ d d' h1
theorem uW(x:ti):vo prog plan 43 #[x]:=⟨J0,Vi plain func43 J0 _⟩
theorem RJ{w:ui}{p:Option Addr}{n cap:Nat}{z:Nat->Int}(hs:Sl w p (n*2) (fun j=>.int .i64 (z j)))(hn:p=Ai->n=0)(hb:16*n<=140737488355328):
  Fj prog 43 #[.slice p n cap] w (fun v w'=>v=.slice (yi ⟨w.heap.size,0,Ai⟩) (n+2:Nat) (n+2:Nat)/\w'.heap.size=w.heap.size+1/\Below w.heap.size w w'/\Ei w' w.heap.size ((n+2)*2) 59 (fun j=>.int .i64 (Pj 2 n z j))):=by
 refine Fj.Nu (uW _) (fun v w'=>v=.slice (yi ⟨w.heap.size,0,Ai⟩) (n+2:Nat) (n+2:Nat)/\w'.heap.size=w.heap.size+1/\(w'.os=w.os/\w'.output=w.output/\∀b,b<w.heap.size->w'.heap[b]?=w.heap[b]?)/\Ei w' w.heap.size ((n+2)*2) 59 (fun j=>.int .i64 (Pj 2 n z j))) (fun τ=>?_) ?_
 ·refine(ins_any p n cap z (Rj w τ 0) hs hn hb).mono ?_;rintro e w' ⟨rfl,h1,h2,h3⟩;exact⟨_,rfl,rfl,h1,⟨h2.os,h2.output,h2.block⟩,h3⟩
 ·rintro v w₁ τ d d' ⟨h1,h2,h3,h4⟩;exact⟨h1,h2,⟨h3.1,rfl,h3.2.1,(by show _<=w₁.heap.size;have e:w₁.heap.size=w.heap.size+1:=h2;omega),h3.2.2⟩,h4⟩
theorem Fz(x y:ti):vo prog plan 44 #[x,y]:=⟨J0,Vi plain func44 J0 _⟩
theorem aW(x:ti):vo prog plan 41 #[x]:=⟨J0,Vi plain func41 J0 _⟩
theorem UZ(a:Int)(w:ui):Fj prog 41 #[.int .i64 a] w (fun v w'=>v=.int .i64 a/\Is w w'):=by
 refine Fj.Nu (aW _) (fun v w'=>v=.int .i64 a/\∃τ d,w'=Rj w τ d) (fun τ=>(Wx a _).mono ?_) ?_
 ·exact Ae
 ·exact ia
theorem Bo.calls{w:ui}{k:Vu}{K:Nl}{r:RK}{t:Tab}{x:RX}{fr:Nat}{s:Hy}{vs:Nat->ti}{Ls:Nat->Ln}{inV:ti}{il:List (Int×Int)}{S:Nat->Prop}(h:Bo w k K r t x s vs Ls inV il fr S)(Dy:fr<=100000000000)(hm:∀i,s.m i+1600<=1000000000){ip:Option Addr}{jl ic:Nat}{zi:Nat->Int}(Pm:Sl w ip (jl*2) (fun j=>.int .i64 (zi j)))(hiK:jl=0\/∀b o,ip=yi ⟨b,o,Ai⟩->b≠r.Kb)(rU:jl<=4):
  Fj prog 44 #[.pointer (yi ⟨r.Kb,0,Ai⟩),.slice ip jl ic] w (fun v w'=>v=.int .i64 0/\(∃Sv Jw Dt kV,Bo w' k K r t x (ju k K (t.wn (fr%t.nT)) (t.nw (fr%t.nT)) ((List.range jl).map fun j=>(zi (j*2),zi (j*2+1))) s) Sv Jw Dt kV (fr+1) (fun b=>S b\/(w.heap.size<=b/\b<w'.heap.size)))/\ak S w w'):=by
 refine Fj.Nu (Fz _ _) (fun v w'=>v=.int .i64 0/\(∃Sv Jw Dt kV,Bo w' k K r t x (ju k K (t.wn (fr%t.nT)) (t.nw (fr%t.nT)) ((List.range jl).map fun j=>(zi (j*2),zi (j*2+1))) s) Sv Jw Dt kV (fr+1) (fun b=>S b\/(w.heap.size<=b/\b<w'.heap.size)))/\w'.os=w.os/\w'.output=w.output/\w.heap.size<=w'.heap.size/\∀b,b<w.heap.size->¬S b->w'.heap[b]?=w.heap[b]?) (fun τ=>((h.keep (w':=Rj w τ 0) (fun _ _=>rfl) (Nat.le_refl _)).frame Dy hm Pm hiK rU).mono ?_) ?_
 ·rintro e w' ⟨rfl,Sv,Jw,Dt,kV,h1,h2⟩;exact⟨_,rfl,rfl,⟨Sv,Jw,Dt,kV,h1⟩,h2.os,h2.output,h2.size,h2.block⟩
 ·rintro v w₁ τ d d' ⟨h1,⟨Sv,Jw,Dt,kV,h2⟩,h3,h4,h5,h6⟩;exact⟨h1,⟨Sv,Jw,Dt,kV,h2.keep (w':=Rj w₁ w.tape d') (fun _ _=>rfl) (Nat.le_refl _)⟩,⟨h3,rfl,h4,h5,h6⟩⟩
theorem MN(Kb:Nat)(ip:Option Addr)(il ic:Nat)(w:ui)(h:4<il):Fj prog 44 #[.pointer (yi ⟨Kb,0,Ai⟩),.slice ip il ic] w (fun v w'=>v=.int .i64 6/\Is w w'):=by
 refine Fj.Nu (Fz _ _) (fun v w'=>v=.int .i64 6/\∃τ d,w'=Rj w τ d) (fun τ=>(qJ Kb ip il ic _ h).mono ?_) ?_
 ·exact Ae
 ·exact ia
theorem x30{S:Nat->Prop}{w w':ui}{p:Option Addr}{n:Nat}{g:Nat->ti}(h:Sl w p n g)(hb:ak S w w')(hn:n=0\/∀lb lo,p=yi ⟨lb,lo,Ai⟩->¬S lb):Sl w' p n g:=by
 rcases h with e|⟨b,o,rfl,hc⟩
 ·exact .inl e
 ·rcases hn with e|hn
  ·exact .inl e
  ·exact .inr ⟨b,o,rfl,fun j hj=>hb.cell (hc j hj) (hn b o rfl)⟩
section
variable {w:ui}{il ic KB RB':Nat}{S S':Nat->Prop}{ip:Option Addr}{zi:Nat->Int}{x:Int}{PK:ui->Prop}{PR:Nat->ui->Prop}
theorem nQ(hl:Sl w ip (il*2) (fun j=>.int .i64 (zi j)))(hnl:ip=Ai->il=0)(hb:16*il<=140737488351232)(hAw:∀b,S b->b<w.heap.size)(nc0:∀b,S' b->b<w.heap.size)(hlS:il=0\/∀lb lo,ip=yi ⟨lb,lo,Ai⟩->¬S lb/\¬S' lb)
  (hK:∀wA,wA.heap.size=w.heap.size+1->Below w.heap.size w wA->Ei wA w.heap.size ((il+2)*2) 59 (fun j=>.int .i64 (Pj 2 il zi j))->∀p jl c,(p=yi ⟨w.heap.size,0,Ai⟩/\jl=il)\/(p=Ai/\jl=0/\il=0)->Fj prog 15 #[.pointer (yi ⟨KB,0,Ai⟩),.slice p jl c] wA (fun v w'=>v=.int .i64 x/\PK w'/\ak S wA w'))
  (hRc:∀wB,w.heap.size+1<=wB.heap.size->(∀b,b<w.heap.size->¬S b->wB.heap[b]?=w.heap[b]?)->Fj prog 44 #[.pointer (yi ⟨RB',0,Ai⟩),.slice ip il ic] wB (fun v w'=>v=.int .i64 x/\PR wB.heap.size w'/\ak S' wB w')):
  Fj prog 21 #[.pointer (yi ⟨KB,0,Ai⟩),.pointer (yi ⟨RB',0,Ai⟩),.slice ip il ic] w (fun v w'=>v=.bool ji/\∃wB wC,PK wB/\PR wB.heap.size wC/\w.heap.size+1<=wB.heap.size/\ak S' wB wC/\(∀b,b<wC.heap.size->b≠w.heap.size->w'.heap[b]?=wC.heap[b]?)/\wC.heap.size<=w'.heap.size/\ak (fun b=>S b\/S' b) w w'):=by
 refine Fj.UD (List.toArray ((.pointer (yi ⟨KB,0,Ai⟩))::(.pointer (yi ⟨RB',0,Ai⟩))::(.slice ip il ic)::ri::ri::ri::ri::ri::ri::ri::ri::ri::ri::ri::ri::ri::ri::ri::ri::ri::ri::ri::ri::ri::ri::ri::ri::ri::ri::ri::ri::ri::ri::ri::ri::ri::ri::ri::ri::ri::ri::ri::ri::ri::ri::ri::ri::ri::ri::ri::ri::ri::ri::ri::ri::ri::ri::[])) func21 I0 J0 fun cs Post hp=>?_;have hk:(base 21).kind≠.early:=E1;refine vb ?_;have hF:=Is.self w;have hsl:(il:Int)<=(il:Int)+2:=E0;have heq:=fun W a n c=>Go.Lib.run_eql_slice_nil (P:=prog) W 29 59 a n c 0 0 underlying29;refine V8 ?_;refine Zb ?_;refine X8 ?_;refine V8 ?_;refine Ed ?_;refine X8 ?_;refine .stop rfl fun w4 hR=>?_;obtain⟨d4,rfl⟩:=hF.rely hR;clear hF hR;refine bj.call rfl I0 hk (fun d=>?zx) (fun d=>?LL) (RJ (w:=w.at d4) (p:=ip) (n:=il) (cap:=ic) (z:=zi) hl hnl E0) (fun v wA hv=>?_)
 case zx=>kernel_rfl
 case LL=>
  exact Xc
 obtain⟨rfl,hA1,JJ,FZ⟩:=hv;refine vb ?_;have hF:=Is.self wA;refine W9 ?_;replace hA1:wA.heap.size=w.heap.size+1:=hA1;replace JJ:Below w.heap.size w wA:=⟨JJ.os,JJ.tape,JJ.output,JJ.size,JJ.block⟩;replace FZ:Ei wA w.heap.size ((il+2)*2) 59 (fun j=>.int .i64 (Pj 2 il zi j)):=FZ;have eA:(w.at d4).heap.size=w.heap.size:=rfl;rw[eA];clear eA;refine X8 ?_;refine V8 ?_;refine Ff ?_;refine R9 ?_;refine K8 fun w1 K hK hF=>?_;refine I8 ?_ ?_
 ·exact Lj plain (Vi plain func21 J0 _) J0 _
 clear hK K;refine W9 ?_;refine X8 ?_;refine V8 ?_;refine .Gi Di [0,1] I0 ?_;refine X8 ?_;refine K8 fun w1 K hK hF=>?_;have hq:=heq w1 ip il ic;refine I8 ?_ ?_
 ·exact Lj plain (Vi plain func21 J0 _) J0 _
 clear hK K;refine W9 ?_;clear heq;have hKC:∀d4 p jl c,(p=yi ⟨w.heap.size,0,Ai⟩/\jl=il)\/(p=Ai/\jl=0/\il=0)->Fj prog 15 #[.pointer (yi ⟨KB,0,Ai⟩),.slice p jl c] (wA.at d4) (fun v w'=>v=.int .i64 x/\PK w'/\ak S (wA.at d4) w'):=fun d4=>hK (wA.at d4) hA1 ⟨JJ.os,JJ.tape,JJ.output,JJ.size,JJ.block⟩ FZ;clear hK;obtain Pm|Pm:ip.isNone=ji\/ip.isNone=false:=by cases ip<;>simp
 case' inl=>
  refine V8 ?_;refine Ci.zk Di (by first|rfl|simp[Act.eval,Pm]) ?_;refine V8 ?_;refine Zb ?_;refine X8 ?_;have hK:=fun d4=>hKC d4 Ai 0 0 (.inr ⟨rfl,rfl,hnl (Option.isNone_iff_eq_none.1 Pm)⟩)
 case' inr=>
  refine V8 ?_;refine Ci.xk Di (by first|rfl|simp[Act.eval,Pm]) ?_;have hK:=fun d4=>hKC d4 (yi ⟨w.heap.size,0,Ai⟩) il (il+2) (.inl ⟨rfl,rfl⟩)
 all_goals
  clear hKC Pm;refine V8 ?_;refine Qe ?_;refine X9 ?_;refine .stop rfl fun w4 hR=>?_;obtain⟨d4,rfl⟩:=hF.rely hR;clear hF hR;refine bj.call rfl I0 hk (fun d=>?mB) (fun d=>?E10) (hK d4) (fun v wB hv=>?_)
  case mB=>kernel_rfl
  case E10=>
   exact Xc
  obtain⟨rfl,hPK,rO⟩:=hv;refine vb ?_;have hF:=Is.self wB;refine W9 ?_;refine X8 ?_;replace rO:ak S wA wB:=⟨rO.os,rO.tape,rO.output,rO.size,rO.block⟩;have hHB:∀b,b<w.heap.size->¬S b->wB.heap[b]?=w.heap[b]?:=fun b h1 h2=>(rO.block b E0 h2).trans (JJ.block b h1);have hsB:=rO.size;refine V8 ?_;refine Qe ?_;refine X9 ?_;refine .stop rfl fun w4 hR=>?_;obtain⟨d4,rfl⟩:=hF.rely hR;clear hF hR;refine bj.call rfl I0 hk (fun d=>?wE) (fun d=>?Da0) (hRc (wB.at d4) (by show _<=wB.heap.size;omega) hHB) (fun v wC hv=>?_)
  case wE=>kernel_rfl
  case Da0=>
   exact Xc
  obtain⟨rfl,hPR,pQ⟩:=hv;refine vb ?_;have hF:=Is.self wC;refine W9 ?_;replace pQ:ak S' wB wC:=⟨pQ.os,pQ.tape,pQ.output,pQ.size,pQ.block⟩;have hlC:=x30 (x30 (hl.below JJ) rO (hlS.imp (fun h=>E0) (fun h lb lo e=>(h lb lo e).1))) pQ (hlS.imp (fun h=>E0) (fun h lb lo e=>(h lb lo e).2));refine X8 ?_;refine V8 ?_;refine Ff ?_;refine X8 ?_;refine .stop rfl fun w4 hR=>?_;obtain⟨d4,rfl⟩:=hF.rely hR;clear hF hR;refine bj.call rfl I0 hk (fun d=>?MD) (fun d=>?t90) (UZ x (wC.at d4)) (fun v wC2 hv=>?_)
  case MD=>kernel_rfl
  case t90=>
   exact Xc
  obtain⟨rfl,hIs⟩:=hv;refine vb ?_;have hF:=Is.self wC2;refine W9 ?_;obtain⟨d5,rfl⟩:=hIs;replace hF:Is wC ((wC.at d4).at d5):=⟨d5,rfl⟩;refine R9 ?_;refine V8 ?_;refine Ed ?_;refine X8 ?_;refine .stop rfl fun w4 hR=>?_;obtain⟨d4,rfl⟩:=hF.rely hR;clear hF hR;refine bj.call rfl I0 hk (fun d=>?ZG) (fun d=>?ji0) (RJ (w:=wC.at d4) (p:=ip) (n:=il) (cap:=ic) (z:=zi) hlC hnl E0) (fun v wD hv=>?_)
  case ZG=>kernel_rfl
  case ji0=>
   exact Xc
  obtain⟨rfl,hD1,C_,hD3⟩:=hv;refine vb ?_;have hF:=Is.self wD;refine W9 ?_;replace hD1:wD.heap.size=wC.heap.size+1:=hD1;replace C_:Below wC.heap.size wC wD:=⟨C_.os,C_.tape,C_.output,C_.size,C_.block⟩;replace hD3:Ei wD wC.heap.size ((il+2)*2) 59 (fun j=>.int .i64 (Pj 2 il zi j)):=hD3;have eD:(wC.at d4).heap.size=wC.heap.size:=rfl;rw[eD];clear eD;refine X8 ?_;refine Ci.regionEnd Di ?_;refine Ci.seq Di ?_;refine .stop rfl fun w9 hR=>?_;obtain⟨d9,rfl⟩:=hF.rely hR;clear hF hR;have hAD:Ei wD w.heap.size ((il+2)*2) 59 (fun j=>.int .i64 (Pj 2 il zi j)):=((FZ.of_heap (rO.block _ FZ.lt (fun h=>by have:=hAw _ h;omega))).of_heap (pQ.block _ (Nat.lt_of_lt_of_le FZ.lt rO.size) (fun h=>by have:=nc0 _ h;omega))).below C_ (Nat.lt_of_lt_of_le (Nat.lt_of_lt_of_le FZ.lt rO.size) pQ.size);have Jj:w.heap.size≠wC.heap.size:=by have:=rO.size;have:=pQ.size;omega
  refine bj.piece plain BK (Qn:=fun a' w'=>a'.tmps.size=57/\a'.tmps.getD 11 ri=.bool ji/\a'.defers=[]/\(w'.os=wD.os/\w'.output=wD.output/\wD.heap.size<=w'.heap.size/\∀b,b<wD.heap.size->b≠w.heap.size->w'.heap[b]?=wD.heap[b]?)) J0 J0 ⟨_,func21⟩ rfl (Vi plain func21 J0 _) rfl (fun τ=>?wp) (fun a' w' τ' d' d hq=>?post)
  case wp=>
   have HA0:Hid (Ei (Rj (wD.at d9) τ 0) w.heap.size ((il+2)*2) 59 (fun j=>.int .i64 (Pj 2 il zi j))):=hAD;have HD0:Hid (Ei (Rj (wD.at d9) τ 0) wC.heap.size ((il+2)*2) 59 (fun j=>.int .i64 (Pj 2 il zi j))):=hD3;have HE0:Hid ((Rj (wD.at d9) τ 0).os=wD.os/\(Rj (wD.at d9) τ 0).output=wD.output/\wD.heap.size<=(Rj (wD.at d9) τ 0).heap.size/\∀b,b<wD.heap.size->b≠w.heap.size->(Rj (wD.at d9) τ 0).heap[b]?=wD.heap[b]?):=⟨rfl,rfl,Nat.le_refl _,fun _ _ _=>rfl⟩;generalize Rj (wD.at d9) τ 0=W0 at *;clear hD1 hA1;generalize hAg:w.heap.size=A at *;generalize hDg:wC.heap.size=D at *;clear hp hK hRc hPK hPR rO pQ hlC JJ FZ C_ hD3 hAD hl hAw nc0 hlS hHB;go_wp2_with fail;go_loopw [11,13] (fun o i wr=>∃j:Nat,j<=il+2/\i=.int .i64 j/\o=.bool ji/\Hid ((∀q,j*2<=q->q<(il+2)*2->wr.cell? ⟨A,q,Ai⟩=yi (.int .i64 (Pj 2 il zi q)))/\(∀q,wr.frozen? ⟨A,q,Ai⟩=gi))/\Hid (Ei wr D ((il+2)*2) 59 (fun j=>.int .i64 (Pj 2 il zi j)))/\Hid (wr.os=wD.os/\wr.output=wD.output/\wD.heap.size<=wr.heap.size/\∀b,b<wD.heap.size->b≠A->wr.heap[b]?=wD.heap[b]?)) (fun _ i _=>il+2-(intOf i).toNat)
   case atStart=>exact⟨0,Nat.zero_le _,rfl,rfl,⟨fun q _ h2=>HA0.out.cell h2,fun q=>HA0.out.frozen q⟩,HD0,HE0⟩
   case round=>
    obtain⟨j,hj,rfl,rfl,HA,HD,HE⟩:=hrel;by_cases Wi:j<il+2
    ·have c0:=HA.out.1 (j*2) E0 E0;have c1:=HA.out.1 (j*2+1) E0 E0;have e0:=HD.out.cell (j:=j*2) E0;have e1:=HD.out.cell (j:=j*2+1) E0;have f0:=HA.out.2 (j*2);have f1:=HA.out.2 (j*2+1);have FC:(j:Int)<(il:Int)+2:=by omega
     generalize Pj 2 il zi (j*2)=x0 at *;generalize Pj 2 il zi (j*2+1)=x1 at *;go_wp2_with fail;go_quiet (fail)
     go_wp2_with fail
     refine⟨⟨j+1,E0,J1,rfl,⟨fun q h1 h2=>?_,fun q=>?_⟩,?_,?_⟩,U1⟩
     ·refine(World.cell?_setCell_other _ _ _ _ (fun e=>by have:=congrArg Addr.off e;simp only at this;omega)).trans ((World.cell?_setCell_other _ _ _ _ (fun e=>by have:=congrArg Addr.off e;simp only at this;omega)).trans ?_);exact HA.out.1 q E0 h2
     ·simpa using HA.out.2 q
     ·have Nk:Ei (wr.drewN nq) D ((il+2)*2) 59 (fun j=>.int .i64 (Pj 2 il zi j)):=HD.out;exact(Nk.other _ _ (by simpa using Jj)).other _ _ (by simpa using Jj)
     ·refine⟨HE.out.1,HE.out.2.1,by rw[size_setCell,size_setCell];exact HE.out.2.2.1,fun b hb hn=>?_⟩;rw[heap_setCell_other _ _ _ _ y5,heap_setCell_other _ _ _ _ y5];exact HE.out.2.2.2 b hb hn
    ·obtain rfl:j=il+2:=by omega
     go_wp2_with fail
     first
      |exact⟨rfl,rfl,rfl,rfl,HE.out⟩
      |exact⟨rfl,rfl,rfl,HE.out⟩
      |exact HE.out
      |simpa using HE.out
  case post=>
   obtain⟨hs,VI,hdf,hE⟩:=hq;refine bj.seq ?_;refine bj.region ?_;show bj prog Post (G ((base 21).at a' (.inRegion _ [0,1]::_)) cs) _;refine Gh ?_;refine Gh ?_;refine bj.regionEnd ?_;refine bj.ret fun todo=>?_;refine hp _ _ _ _ hdf (fun d=>(resultsC_tmp (t:=6) I0 _ _).1) ⟨?_,?_⟩
   ·show ((a'.tmps.setIfInBounds 56 (a'.tmps.getD 11 ri)).setIfInBounds 6 ((a'.tmps.setIfInBounds 56 (a'.tmps.getD 11 ri)).getD 56 ri)).getD 6 ri=.bool ji;rw[VI];simp[hs]
   ·have hsC:=pQ.size;have hE4:∀b,b<wD.heap.size->b≠w.heap.size->w'.heap[b]?=wD.heap[b]?:=hE.2.2.2;have hE3:wD.heap.size<=w'.heap.size:=hE.2.2.1;have toC:∀b,b<wC.heap.size->b≠w.heap.size->w'.heap[b]?=wC.heap[b]?:=fun b hb hn=>(hE4 b E0 hn).trans (C_.block b hb);refine⟨wB,wC,hPK,hPR,E0,pQ,toC,by show wC.heap.size<=w'.heap.size;omega,⟨?_,?_,?_,by show w.heap.size<=w'.heap.size;omega,fun b hb hn=>?_⟩⟩
    ·exact hE.1.trans (C_.os.trans (pQ.os.trans (rO.os.trans JJ.os)))
    ·exact C_.tape.trans (pQ.tape.trans (rO.tape.trans JJ.tape))
    ·exact hE.2.1.trans (C_.output.trans (pQ.output.trans (rO.output.trans JJ.output)))
    ·show w'.heap[b]?=w.heap[b]?;rw[toC b E0 E0,pQ.block b E0 (fun h=>hn (.inr h))];exact hHB b hb (fun h=>hn (.inl h))
end
end Go.Proofs.YtdoghgnifkgfdaaGreat.Mute
