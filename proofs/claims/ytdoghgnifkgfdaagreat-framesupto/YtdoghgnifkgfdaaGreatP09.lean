import Derived.Test.YtdoghgnifkgfdaaGreatP00
import Derived.Test.YtdoghgnifkgfdaaGreatP07
import Derived.Test.YtdoghgnifkgfdaaGreatP08
set_option maxRecDepth 100000
set_option maxHeartbeats 16000000
open Option renaming none->Ai,some->yi
open Go renaming World->ui,Value->ti,undef->ri
open Bool renaming true->ji,false->gi
namespace Go.Proofs.YtdoghgnifkgfdaaGreat
open Tryz Go.RowKit
def bK(j:Nat):Value:=if j%3=2 then .int .i64 0 else .slice Ai 0 0
theorem oO(j:Nat):(Value.agg #[.slice Ai 0 0,.slice Ai 0 0,.int .i64 0]).cells[j%(Value.agg #[.slice Ai 0 0,.slice Ai 0 0,.int .i64 0]).cells.size]! = bK j:=by
 have h:(Value.agg #[.slice Ai 0 0,.slice Ai 0 0,.int .i64 0]).cells=#[.slice Ai 0 0,.slice Ai 0 0,.int .i64 0]:=rfl;rw[h];have:j%3=0\/j%3=1\/j%3=2:=E0;unfold bK;rcases this with e|e|e<;>simp[e]
theorem uO(j:Nat):(Value.slice Ai 0 0).cells[j%(Value.slice Ai 0 0).cells.size]! = Value.slice Ai 0 0:=by
 have h:(Value.slice Ai 0 0).cells=#[.slice Ai 0 0]:=rfl;rw[h];have:j%1=0:=E0;simp[this]
def Dx(n:Nat)(F:Nat->ti)(j:Nat):Value:=if j<n*3 then F j else if j%3=2 then .int .i64 (-77)else .slice Ai 0 0
def outT(m:Nat)(G:Nat->ti)(j:Nat):Value:=if j<m then G j else .slice Ai 0 0
def yC(n k:Nat)(F:Nat->ti)(j:Nat):Value:=if j<n*3 then F j else if j<k*3 then (if j%3=2 then .int .i64 (-77)else .slice Ai 0 0)else bK j
theorem b60(n k j:Nat)(F:Nat->ti)(hk:n<=k):(if j=k*3+2 then Value.int .i64 (-77)else if j=k*3+1 then .slice Ai 0 0 else if j=k*3 then .slice Ai 0 0 else yC n k F j)=yC n (k+1) F j:=by
 unfold yC;repeat' split
 all_goals first
  |rfl
  |(exfalso;omega)
theorem PY(n m yj wj:Nat)(p0 p1:Option Addr)(F G:Nat->ti)(v2 v3:ti)(w:ui)(s0:Sl w p0 (n*3) F)(s1:Sl w p1 m G)(z0:p0=Ai->n=0)(z1:p1=Ai->m=0)(o0:∀j,j<n*3->(F j).oneCell'=ji)(o1:∀j,j<m->(G j).oneCell'=ji)
  (b0:56*n<=140737488355328)(b1:24*m<=140737488355328):
  Calls prog 37 #[.agg #[.slice p0 n yj,.slice p1 m wj,v2,v3]] w fun e w'=>
   e=.returned (.tuple #[.slice (yi ⟨w.heap.size+1,0,Ai⟩) (n+2:Nat) (n+2:Nat),.slice (yi ⟨w.heap.size+1+1,0,Ai⟩) (m+2:Nat) (m+2:Nat)])/\w'.heap.size=w.heap.size+1+1+1/\Below w.heap.size w w'/\
   Ei w' (w.heap.size+1) ((n+2)*3) 53 (Dx n F)/\Ei w' (w.heap.size+1+1) (m+2) 100 (outT m G):=by
 have hb0:n<=2513169434916:=E0;have Zs:m<=5864062014805:=E0;have S0:Hid (Sl w p0 (n*3) F):=s0;have S1:Hid (Sl w p1 m G):=s1;have Z0:Hid (p0=Ai->n=0):=z0;have Z1:Hid (p1=Ai->m=0):=z1;have O0:Hid (∀j,j<n*3->(F j).oneCell'=ji):=o0;have O1:Hid (∀j,j<m->(G j).oneCell'=ji):=o1;have M0:Hid (56*(n+2)<=281474976710656):=by show _<=_;omega
 have M1:Hid (24*(m+2)<=281474976710656):=by show _<=_;omega
 clear s0 s1 z0 z1 o0 o1 b0 b1
 go_enter func37,ntmps37
 go_wp2_with (at_make;refine Ql _ rfl _ _ 23 rfl 53 _ 3 56 underlying23 Wu _ _ _ _ (n+2) rfl rfl E0 E0 M0.out Y1 bK (fun j _=>oO j) ?_)
 intro w1 xo Aq Pn;have R0:=(row4 w (.slice p0 n yj) (.slice p1 m wj) v2 v3 28).below Pn P0;obtain⟨x0,x1,-,-⟩:=R0.at4;have Xq:Hid (Below (w.heap.size+1) (w.alloc (.cells #[.slice p0 n yj,.slice p1 m wj,v2,v3] 28)) w1):=Pn.mono P0;have YB:Hid (w1.heap.size=w.heap.size+1+1):=by show _=_;simpa using Aq
 have iw:Hid (Ei w1 (w.heap.size+1) ((n+2)*3) 53 bK):=by show Ei _ _ _ _ _;simpa using xo
 clear xo Aq Pn R0;go_wp2_with (refine Ul rfl _ _ _ _ rfl 53 _ 3 56 underlying23 Wu (w.heap.size+1) (n+2) (n+2) p0 n yj rfl rfl ((n+2)*3) 53 bK F E0 iw.out E0 (S0.out.below (ij Xq.out)) O0.out Z0.out ?_);intro w2 Kv ez Ks;have y0:=ez.cell x0 P0;have y1:=ez.cell x1 P0;have Qv:Hid (Below (w.heap.size+1) (w.alloc (.cells #[.slice p0 n yj,.slice p1 m wj,v2,v3] 28)) w2):=Xq.out.grown ez (by have:=YB.out;omega) (fun k hk=>U4);have EW:Hid (w2.heap.size=w.heap.size+1+1):=Ks.trans YB.out;have pG:Hid (Ei w2 (w.heap.size+1) ((n+2)*3) 53 (yC n n F)):=Kv.congr (fun j _=>by unfold yC;by_cases h:j<n*3<;>simp[h]);clear Kv ez Ks x0 x1 Xq YB iw;go_wp2_with fail;go_loopw [5] (fun i wr=>∃k:Nat,n<=k/\k<=n+2/\i=.int .i64 k/\Hid (wr.heap.size=w.heap.size+1+1)/\Hid (Below (w.heap.size+1) (w.alloc (.cells #[.slice p0 n yj,.slice p1 m wj,v2,v3] 28)) wr)/\Hid (Ei wr (w.heap.size+1) ((n+2)*3) 53 (yC n k F)))
  (fun i _=>n+2-(intOf i).toNat)
 case atStart=>exact⟨n,Nat.le_refl _,E0,rfl,EW,Qv,pG⟩
 case round=>
  obtain⟨k,vA,qA,rfl,HZ,HB,HR⟩:=hrel;by_cases Wi:k<n+2
  ·have HP:Hid (∀j,_):=fun j=>b60 n k j F vA;refine yh fun c0 c1 c2 f0 f1 f2=>?_;go_wp2
   go_roundw
   case rel=>exact⟨k+1,E0,E0,J1,t7,((HB.out.setCell (Nat.le_refl _) _).setCell (Nat.le_refl _) _).setCell (Nat.le_refl _) _,(((HR.out.set (k*3) _).set (k*3+1) _).set (k*3+2) _).congr (fun j _=>HP.out j)⟩
   case measure=>simp[intOf];omega
  ·obtain rfl:k=n+2:=by omega
   clear Wi vA qA;obtain⟨x0,x1,-,-⟩:=OA HB.out;have hl0:w.heap.size<wr.heap.size:=block_lt_of_cell x0;go_wp2_with (at_make;refine Ql _ rfl _ _ 24 rfl 100 _ 1 24 underlying24 AB _ _ _ _ (m+2) rfl rfl E0 E0 M1.out Y1 (fun _=>.slice Ai 0 0) (fun j _=>uO j) ?_);intro w3 j70 pc0 zU;have q1:=(zU.cell (p:=⟨w.heap.size,1,Ai⟩) hl0).trans x1;have iK:Hid (Below (w.heap.size+1) (w.alloc (.cells #[.slice p0 n yj,.slice p1 m wj,v2,v3] 28)) w3):=VB HB.out zU;have HZ3:Hid (w3.heap.size=w.heap.size+1+1+1):=by show _=_;rw[pc0,HZ.out]
   have HR3:Hid (Ei w3 wr.heap.size (m+2) 100 (fun _=>.slice Ai 0 0)):=by show Ei _ _ _ _ _;simpa using j70
   have HC3:Hid (Ei w3 (w.heap.size+1) ((n+2)*3) 53 (yC n (n+2) F)):=HR.out.below zU (by have:=HZ.out;omega);clear j70 pc0 zU x0 x1 HR HB;go_wp2_with (refine Ul rfl _ _ _ _ rfl 100 _ 1 24 underlying24 AB wr.heap.size (m+2) (m+2) p1 m wj rfl rfl (m+2) 100 (fun _=>.slice Ai 0 0) G E0 HR3.out E0 (by rw[Nat.mul_one];exact S1.out.below (ij iK.out)) (by simpa using O1.out) Z1.out ?_);intro w4 X60 ja0 cd0;have HB4:Hid (Below w.heap.size w w4):=(ij iK.out).grown ja0 (by have:=HZ3.out;omega) (fun k hk=>by simp at hk;have:=HZ.out;omega);have HC4:Hid (Ei w4 (w.heap.size+1) ((n+2)*3) 53 (yC n (n+2) F)):=HC3.out.of_heap (ja0.block _ (by have:=HZ3.out;omega) (by have:=HZ.out;simp;omega));have HZ4:Hid (w4.heap.size=w.heap.size+1+1+1):=cd0.trans HZ3.out;have HR4:Hid (Ei w4 wr.heap.size (m+2) 100 (outT m G)):=X60.congr (fun j _=>by unfold outT;by_cases h:j<m<;>simp[h]);clear X60 ja0 cd0 q1;go_wp2_with fail
   go_ret2
   have hEq:wr.heap.size=w.heap.size+1+1:=HZ.out;rw[<-hEq];exact⟨rfl,HZ4.out.trans (by rw[hEq]),HB4.out,HC4.out.congr (fun j hj=>by unfold yC Dx;by_cases h:j<n*3<;>simp[h,hj]),HR4.out⟩
structure WA(w w':ui)(a b:Nat):Prop where
 os:w'.os=w.os
 tape:w'.tape=w.tape
 output:w'.output=w.output
 size:w.heap.size<=w'.heap.size
 block:∀k,k<w.heap.size->k≠a->k≠b->w'.heap[k]?=w.heap[k]?
theorem WA.set1{w w':ui}{a b:Nat}(h:WA w w' a b)(j:Nat)(v:ti):WA w (w'.setCell ⟨a,j,Ai⟩ v) a b:=
 ⟨h.os,h.tape,h.output,X5,fun k h1 h2 h3=>by rw[heap_setCell_other _ _ _ _ h2];exact h.block k h1 h2 h3⟩
theorem WA.set2{w w':ui}{a b:Nat}(h:WA w w' a b)(j:Nat)(v:ti):WA w (w'.setCell ⟨b,j,Ai⟩ v) a b:=
 ⟨h.os,h.tape,h.output,X5,fun k h1 h2 h3=>by rw[heap_setCell_other _ _ _ _ h3];exact h.block k h1 h2 h3⟩
theorem WA.drewN{w w':ui}{a b:Nat}(h:WA w w' a b)(n:Nat):WA w (w'.drewN n) a b:=⟨h.os,h.tape,h.output,h.size,h.block⟩
theorem WA.below{w0 w w':ui}{a b:Nat}(h:WA w w' a b)(hb:Below w0.heap.size w0 w)(ha:w0.heap.size<=a)(hbb:w0.heap.size<=b):Below w0.heap.size w0 w':=
 hb.trans ⟨h.os,h.tape,h.output,h.size,fun k hk=>h.block k (Nat.lt_of_lt_of_le hk hb.size) E0 E0⟩
def dk(w:ui)(g m t k:Nat)(f:Nat->ti):Prop:=∃f',Ei w g m t f'/\∀j,k<=j->j<m->f' j=f j
theorem dk.of{w:ui}{g m t:Nat}{f:Nat->ti}(h:Ei w g m t f)(k:Nat):dk w g m t k f:=⟨f,h,fun _ _ _=>rfl⟩
theorem dk.cell{w:ui}{g m t k:Nat}{f:Nat->ti}(h:dk w g m t k f){j:Nat}(hk:k<=j)(hj:j<m):w.cell? ⟨g,j,Ai⟩=yi (f j):=by
 obtain⟨f',h1,h2⟩:=h;rw[h1.cell hj,h2 j hk hj]
theorem dk.frozen{w:ui}{g m t k:Nat}{f:Nat->ti}(h:dk w g m t k f)(j:Nat):w.frozen? ⟨g,j,Ai⟩=false:=by
 obtain⟨f',h1,h2⟩:=h;exact h1.frozen j
theorem dk.set{w:ui}{g m t k:Nat}{f:Nat->ti}(h:dk w g m t k f)(j:Nat)(v:ti)(hj:j<k):dk (w.setCell ⟨g,j,Ai⟩ v) g m t k f:=by
 obtain⟨f',h1,h2⟩:=h;exact⟨_,h1.set j v,fun i hi G_=>by rw[if_neg E0];exact h2 i hi G_⟩
theorem dk.mono{w:ui}{g m t k k':Nat}{f:Nat->ti}(h:dk w g m t k f)(hk:k<=k'):dk w g m t k' f:=by
 obtain⟨f',h1,h2⟩:=h;exact⟨f',h1,fun i hi G_=>h2 i E0 G_⟩
theorem dk.drewN{w:ui}{g m t k:Nat}{f:Nat->ti}(h:dk w g m t k f)(n:Nat):dk (w.drewN n) g m t k f:=h
theorem Tq(nl:Bool)(b n:Nat)(h:nl=ji->n=0):∃q cap,zj nl b n=.slice q n cap:=by
 cases nl
 ·exact⟨_,_,rfl⟩
 ·obtain rfl:=h rfl;exact⟨_,_,rfl⟩
theorem WO(c:vl)(v0 v1 v2 v3:ti)(gC gT:Nat)(cb rb:Nat->Nat)(w0 w:ui)(h:Bq w0 v0 v1 v2 v3 c)(hb:Below w0.heap.size w0 w)(h1:w0.heap.size<=gC)(h2:w0.heap.size<=gT)(Jj:gC≠gT)
  (rC:Ei w gC ((c.nC+2)*3) 53 (Dx c.nC (Rm c cb)))(rT:Ei w gT (c.nT+2) 100 (outT c.nT (fun i=>zj gi (rb i) (c.nRow i)))):
  Calls prog 39 #[.slice (yi ⟨gC,0,Ai⟩) (c.nC+2:Nat) (c.nC+2:Nat),.slice (yi ⟨gT,0,Ai⟩) (c.nT+2:Nat) (c.nT+2:Nat),.agg #[v0,v1,v2,v3]] w fun e w'=>e=.returned (.bool ji)/\WA w w' gC gT:=by
 obtain⟨⟨p0,yj,F0,rfl,-,n0,z0,b0,s0,k0⟩,⟨p1,wj,F1,rfl,-,n1,z1,b1,s1,k1⟩,-,-⟩:=h;refine dc fun S0 K0 S1 K1=>?_;have hb0:c.nC<=2513169434916:=E0;have Zs:c.nT<=5864062014805:=E0;have hgC:=rC.lt;have hgT:=rT.lt;have FD:Hid (Below w0.heap.size w0 w):=hb;have HRC:Hid (Ei w gC ((c.nC+2)*3) 53 (Dx c.nC (Rm c cb))):=rC;have HRT:Hid (Ei w gT (c.nT+2) 100 (outT c.nT (fun i=>zj gi (rb i) (c.nRow i)))):=rT;have HNE:Hid (gC≠gT):=Jj;clear s0 k0 s1 k1 n0 z0 n1 z1 b0 b1 rC rT hb Jj
 go_enter func39,ntmps39
 go_wp2_with fail
 refine U8 fun HA=>?_;go_loopw [7,8] (fun o i wr=>∃k:Nat,k<=c.nC+2/\i=.int .i64 k/\o=.bool ji/\Hid (WA w wr gC gT)/\Hid (Ei wr w.heap.size 4 28 (cells4 (.slice p0 c.nC yj) (.slice p1 c.nT wj) v2 v3))/\Hid (dk wr gC ((c.nC+2)*3) 53 (k*3) (Dx c.nC (Rm c cb)))/\Hid (Ei wr gT (c.nT+2) 100 (outT c.nT (fun i=>zj gi (rb i) (c.nRow i))))) (fun _ i _=>c.nC+2-(intOf i).toNat)
 case atStart=>exact⟨0,Nat.zero_le _,rfl,rfl,⟨rfl,rfl,rfl,P0,fun j hj _ _=>(HA.out _).block j hj⟩,row4 _ _ _ _ _ _,dk.of (HRC.out.alloc _) _,HRT.out.alloc _⟩
 case round=>
  obtain⟨k,hk,rfl,rfl,Qv,GR,HF,HT⟩:=hrel;obtain⟨x0,x1,-,-⟩:=GR.out.at4;have hx:w.heap.size<wr.heap.size:=block_lt_of_cell x0;by_cases Wi:k<c.nC+2
  ·have a0:=HF.out.cell (j:=k*3) E0 E0;have a1:=HF.out.cell (j:=k*3+1) E0 E0;have a2:=HF.out.cell (j:=k*3+2) E0 E0;have f0:=HF.out.frozen (k*3);have f1:=HF.out.frozen (k*3+1);have f2:=HF.out.frozen (k*3+2);by_cases Pm:k<c.nC
   ·have Lq:Hid (Below w0.heap.size w0 wr):=Qv.out.below FD.out h1 h2;obtain⟨b,off,rfl,hc⟩:=(S0.out.below Lq.out).at E0;refine Ta fun c0 c1 c2=>?_;rw[<-Nat.add_assoc]at c1 c2;clear hc;obtain⟨⟨pc,Zr,FU,-,nc,zc,bc,-⟩,⟨pi,Yw,hF1,-,ni,zi,bi,-⟩,ql⟩:=K0.out k Pm;rw[FU]at c0;rw[hF1]at c1;rw[ql]at c2;obtain⟨e0,e1,e2⟩:=Kq c cb k;obtain⟨q0,t0,l0⟩:=Tq (c.Xl k) (cb k) (c.Zi k) (fun h=>(zc (nc.2 h)).1);obtain⟨q1,t1,l1⟩:=Tq (c.Yl k) (cb k+1) (c.Vj k) (fun h=>(zi (ni.2 h)).1);have i0:Dx c.nC (Rm c cb) (k*3)=.slice q0 (c.Zi k) t0:=by unfold Dx;rw[if_pos E0,e0,l0]
    have i1:Dx c.nC (Rm c cb) (k*3+1)=.slice q1 (c.Vj k) t1:=by unfold Dx;rw[if_pos E0,e1,l1]
    have i2:Dx c.nC (Rm c cb) (k*3+2)=.int .i64 (c.lim k):=by unfold Dx;rw[if_pos E0,e2]
    rw[i0]at a0;rw[i1]at a1;rw[i2]at a2;have hnc:c.Zi k<=4398046511104:=E0;have hni:c.Vj k<=17592186044416:=E0;clear FU hF1 ql nc zc bc ni zi bi e0 e1 e2 l0 l1 i0 i1 i2;go_wp2_with fail;go_quiet (fail)
    go_wp2_with fail
    exact⟨⟨k+1,E0,J1,rfl,(((Qv.out.drewN _).set1 _ _).set1 _ _).set1 _ _,(((GR.out.drewN _).other _ _ A1).other _ _ A1).other _ _ A1,
     (((((HF.out.drewN _).mono E0).set _ _ E0).set _ _ E0).set _ _ E0:dk _ _ _ _ ((k+1)*3) _),(((HT.out.drewN _).other _ _ l5).other _ _ l5).other _ _ l5⟩,U1⟩
   ·have i0:Dx c.nC (Rm c cb) (k*3)=.slice Ai 0 0:=by unfold Dx;rw[if_neg E0,if_neg E0]
    have i1:Dx c.nC (Rm c cb) (k*3+1)=.slice Ai 0 0:=by unfold Dx;rw[if_neg E0,if_neg E0]
    have i2:Dx c.nC (Rm c cb) (k*3+2)=.int .i64 (-77):=by unfold Dx;rw[if_neg E0,if_pos E0]
    rw[i0]at a0;rw[i1]at a1;rw[i2]at a2;clear i0 i1 i2;go_wp2_with fail;exact⟨⟨k+1,E0,J1,rfl,((Qv.out.set1 _ _).set1 _ _).set1 _ _,((GR.out.other _ _ A1).other _ _ A1).other _ _ A1,
     ((((HF.out.mono E0).set _ _ E0).set _ _ E0).set _ _ E0:dk _ _ _ _ ((k+1)*3) _),((HT.out.other _ _ l5).other _ _ l5).other _ _ l5⟩,U1⟩
  ·obtain rfl:k=c.nC+2:=by omega
   clear Wi hk;have sk0:=Qv;have qh0:=GR;have HT0:=HT;clear Qv GR HT HF x0 x1 hx;go_wp2_with fail;go_loopw [7,9] (fun o i wr=>∃k:Nat,k<=c.nT+2/\i=.int .i64 k/\o=.bool ji/\Hid (WA w wr gC gT)/\Hid (Ei wr w.heap.size 4 28 (cells4 (.slice p0 c.nC yj) (.slice p1 c.nT wj) v2 v3))/\Hid (dk wr gT (c.nT+2) 100 k (outT c.nT (fun i=>zj gi (rb i) (c.nRow i))))) (fun _ i _=>c.nT+2-(intOf i).toNat)
   case atStart=>exact⟨0,Nat.zero_le _,rfl,rfl,sk0,qh0,dk.of HT0.out _⟩
   case round=>
    obtain⟨k,hk,rfl,rfl,Qv,GR,HF⟩:=hrel;obtain⟨x0,x1,-,-⟩:=GR.out.at4;have hx:w.heap.size<wr.heap.size:=block_lt_of_cell x0;by_cases Wi:k<c.nT+2
    ·have a0:=HF.out.cell (j:=k) E0 E0;have f0:=HF.out.frozen k;by_cases Pm:k<c.nT
     ·have Lq:Hid (Below w0.heap.size w0 wr):=Qv.out.below FD.out h1 h2;obtain⟨b,off,rfl,hc⟩:=(S1.out.below Lq.out).at E0;have c0:=hc k E0;clear hc;obtain⟨pr,JI,FU,-,-,-,br,-⟩:=K1.out k Pm;rw[FU]at c0;have i0:outT c.nT (fun i=>zj gi (rb i) (c.nRow i)) k=.slice (yi ⟨rb k,0,Ai⟩) (c.nRow k) (c.nRow k+2):=by unfold outT;rw[if_pos Pm];rfl
      rw[i0]at a0;have hnr:c.nRow k<=8796093022208:=E0;clear FU br i0;go_wp2_with fail;go_quiet (fail)
      go_wp2_with fail
      exact⟨⟨k+1,E0,J1,rfl,(Qv.out.drewN _).set2 _ _,(GR.out.drewN _).other _ _ A1,(((HF.out.drewN _).mono E0).set _ _ E0:dk _ _ _ _ (k+1) _)⟩,U1⟩
     ·have i0:outT c.nT (fun i=>zj gi (rb i) (c.nRow i)) k=.slice Ai 0 0:=by unfold outT;rw[if_neg Pm]
      rw[i0]at a0;clear i0;go_wp2_with fail;exact⟨⟨k+1,E0,J1,rfl,Qv.out.set2 _ _,GR.out.other _ _ A1,((HF.out.mono E0).set _ _ E0:dk _ _ _ _ (k+1) _)⟩,U1⟩
    ·obtain rfl:k=c.nT+2:=by omega
     go_wp2_with fail
     go_ret;exact⟨rfl,Qv.out⟩
structure ak(S:Nat->Prop)(w w':ui):Prop where
 os:w'.os=w.os
 tape:w'.tape=w.tape
 output:w'.output=w.output
 size:w.heap.size<=w'.heap.size
 block:∀k,k<w.heap.size->¬S k->w'.heap[k]?=w.heap[k]?
theorem ak.refl(S:Nat->Prop)(w:ui):ak S w w:=⟨rfl,rfl,rfl,Nat.le_refl _,fun _ _ _=>rfl⟩
theorem ak.trans{S T U:Nat->Prop}{a b c:ui}(h:ak S a b)(k:ak T b c)(hs:∀j,S j->U j)(ht:∀j,j<a.heap.size->T j->U j):ak U a c:=
 ⟨k.os.trans h.os,k.tape.trans h.tape,k.output.trans h.output,Nat.le_trans h.size k.size,fun j hj hn=>by
  rw[k.block j (Nat.lt_of_lt_of_le hj h.size) (fun x=>hn (ht j hj x))];exact h.block j hj (fun x=>hn (hs j x))⟩
theorem ak.of_below{w w':ui}(h:Below w.heap.size w w')(S:Nat->Prop):ak S w w':=⟨h.os,h.tape,h.output,h.size,fun k hk _=>h.block k hk⟩
theorem ak.bI{w w':ui}{g:Nat}(h:w.grownBy w' (yi g)):ak (fun j=>j=g) w w':=⟨h.os,h.tape,h.output,h.size,fun k hk hn=>h.block k hk y5⟩
theorem ak.mono{S T:Nat->Prop}{w w':ui}(h:ak S w w')(hs:∀j,S j->T j):ak T w w':=⟨h.os,h.tape,h.output,h.size,fun k hk hn=>h.block k hk (fun x=>hn (hs k x))⟩
theorem ak.cell{S:Nat->Prop}{w w':ui}(h:ak S w w'){a:Addr}{v:ti}(hc:w.cell? a=yi v)(hn:¬S a.block):w'.cell? a=yi v:=by
 rw[World.cell?_of_block (w:=w) (h.block a.block (block_lt_of_cell hc) hn)];exact hc
theorem ak.below{S:Nat->Prop}{w0 w w':ui}(h:ak S w w')(hb:Below w0.heap.size w0 w)(hs:∀j,S j->w0.heap.size<=j):Below w0.heap.size w0 w':=
 hb.trans ⟨h.os,h.tape,h.output,h.size,fun k hk=>h.block k (Nat.lt_of_lt_of_le hk hb.size) (fun x=>by have:=hs k x;omega)⟩
theorem ak.drew{S:Nat->Prop}{w w':ui}(h:ak S w w'):ak S w w'.drew:=⟨h.os,h.tape,h.output,h.size,h.block⟩
theorem RN{w:ui}{b off m g m' t:Nat}{F:Nat->ti}{f:Nat->Int}(h:∀j,j<m->w.cell? ⟨b,off+j,Ai⟩=yi (F j))(hm:0<m)(hF:∃p n c,F 0=.slice p n c)(hr:Ei w g m' t (fun j=>.int .i64 (f j))):b≠g:=by
 intro e;subst e;obtain⟨p,n,c,hF⟩:=hF;obtain⟨cs,h1,h2,h3⟩:=hr;have hc:=h 0 hm;rw[cell_of_row w b (off+0) cs t (0,0) h1,hF]at hc;by_cases hl:off+0<m'
 ·rw[h3 _ hl]at hc;simp at hc
 ·rw[Array.getElem?_eq_none E0]at hc;cases hc
theorem vH(nl:Bool)(b n:Nat)(z:Nat->Int)(v:ti)(w:ui)(hI:Yu w nl b n 4 z)(hs:Hu w v nl n 4 z 32):
  Calls prog 70 #[zj nl b n,v] w fun e w'=>e=.returned (.bool ji)/\ak (fun j=>nl=gi/\j=b) w w':=by
 obtain⟨p,cap,rfl,-,h1,h2,h3,h4⟩:=hs;cases nl
 ·obtain⟨ty,hr⟩:=hI rfl;cases p with
  |none=>exact absurd (h1.1 rfl) P0
  |some q=>
   obtain⟨bq,oq,sq⟩:=q;exact(rJ b n cap bq oq ty sq z w hr h4 h3).mono fun e w' ⟨g1,g2⟩=>⟨g1,(ak.bI g2).mono (fun j hj=>⟨rfl,hj⟩)⟩
 ·have hp:=h1.2 rfl;subst hp;obtain⟨rfl,rfl⟩:=h2 rfl;exact(DJ w).mono fun e w' ⟨g1,g2⟩=>⟨g1,g2▸ak.refl _ _⟩
theorem NF(nl:Bool)(b n:Nat)(z:Nat->Int)(v:ti)(w:ui)(hI:Yu w nl b n 1 z)(hs:Hu w v nl n 1 z 8):
  Calls prog 71 #[zj nl b n,v] w fun e w'=>e=.returned (.bool ji)/\ak (fun j=>nl=gi/\j=b) w w':=by
 obtain⟨p,cap,rfl,-,h1,h2,h3,h4⟩:=hs;cases nl
 ·obtain⟨ty,hr⟩:=hI rfl;cases p with
  |none=>exact absurd (h1.1 rfl) P0
  |some q=>
   obtain⟨bq,oq,sq⟩:=q;exact(xH b n cap bq oq ty sq z w hr (by rwa [Nat.mul_one]at h4) h3).mono fun e w' ⟨g1,g2⟩=>⟨g1,(ak.bI g2).mono (fun j hj=>⟨rfl,hj⟩)⟩
 ·have hp:=h1.2 rfl;subst hp;obtain⟨rfl,rfl⟩:=h2 rfl;exact(FH w).mono fun e w' ⟨g1,g2⟩=>⟨g1,g2▸ak.refl _ _⟩
theorem EI(nl:Bool)(b n:Nat)(z:Nat->Int)(v:ti)(w:ui)(hI:Yu w gi b n 2 z)(hs:Hu w v nl n 2 z 16):
  Calls prog 72 #[zj gi b n,v] w fun e w'=>e=.returned (.bool ji)/\ak (fun j=>j=b) w w':=by
 obtain⟨p,cap,rfl,-,h1,h2,h3,h4⟩:=hs;obtain⟨ty,hr⟩:=hI rfl;exact(pN b n cap ty p (fun h=>(h2 h).1) z w hr h4 h3).mono fun e w' ⟨g1,g2⟩=>⟨g1,ak.bI g2⟩
def SC(c:vl)(cb:Nat->Nat)(k j:Nat):Prop:=∃i,i<k/\((c.Xl i=gi/\j=cb i)\/(c.Yl i=gi/\j=cb i+1))
def SR(c:vl)(cb rb:Nat->Nat)(k j:Nat):Prop:=SC c cb c.nC j\/∃i,i<k/\j=rb i
theorem grownBy_drew{w w':ui}{row:Option Nat}(h:w.grownBy w' row):w.grownBy w'.drew row:=⟨h.os,h.tape,h.output,h.size,h.block⟩
theorem QT:(prog.info? 131).map (fun i=>(i.zero,i.size,i.bytes))=yi (yi (.agg #[.int .i64 0,.int .i64 0,.int .i64 0,.int .i64 0,.int .i64 0,.int .i64 0,.int .i64 0,.int .i64 0,.int .i64 0,.int .i64 0,.int .i64 0,.int .i64 0,.int .i64 0,.int .i64 0,.int .i64 0,.int .i64 0,.int .i64 0,.int .i64 0,.int .i64 0,.int .i64 0,.int .i64 0,.slice Ai 0 0,.slice Ai 0 0,.int .i64 0,.int .i64 0,.bool gi]),26,240):=J0
theorem KT:(prog.info? 175).map (fun i=>(i.zero,i.size,i.bytes))=yi (yi (.agg #[.slice Ai 0 0,.int .i64 0,.bool gi,.int .i64 0,.int .i64 0]),5,56):=J0
theorem AG{w wr:ui}{nl:Bool}{b n:Nat}{z:Nat->Int}(h:Yu w nl b n 1 z)(hb:Below w.heap.size w wr)(hz:nl=ji->n=0):
  ∃qi ci,zj nl b n=.slice qi n ci/\Sl wr qi n (fun j=>.int .i64 (z j))/\∀b o,qi=yi ⟨b,o,Ai⟩->b<w.heap.size:=by
 cases nl
 ·obtain⟨ty,hr⟩:=h rfl;refine⟨yi ⟨b,0,Ai⟩,n+2,rfl,((hr.below hb hr.lt).EU E0).congr (fun j hj=>J4),fun b' o' e=>?_⟩;have:=Option.some.inj e;simp only[Addr.mk.injEq]at this;rw[<-this.1];exact hr.lt
 ·obtain rfl:=hz rfl;exact⟨Ai,0,rfl,.inl rfl,fun b o e=>G3⟩
open Go.Maps
theorem laidOut:laidOutB prog=true:=J0
theorem Z10:231<prog.types.size:=of_decide_eq_true J0
theorem CL:prog.keyTypeAt 3 231=true:=J0
theorem Qx:Keyed prog 231:=Keyed.of_law (deep_law_laid laidOut (m:=3) E0 Z10 CL (by simp[underlying231]))
theorem eU:prog.keyType 231=true:=J0
theorem L30:prog.cellsOf 231=3:=J0
theorem IZ:∃m,prog.types.size+1=m+2:=⟨prog.types.size-1,by have:=Z10;omega⟩
theorem B30:prog.cellsOf 229=1:=J0
theorem R30:prog.cellsOf 3=1:=J0
theorem RQ:prog.cellsOf 2=1:=J0
theorem M00(a b c:Int):(Value.agg #[.int .i64 a,.int .i64 b,.int .i64 c]).cells=#[.int .i64 a,.int .i64 b,.int .i64 c]:=rfl
theorem UM(a b c:Int)(ha:(Lit.int .i64 a).wf=ji)(hb:(Lit.int .i64 b).wf=ji)(hc:(Lit.int .i64 c).wf=ji):∃kl,keyOf prog 231 (.agg #[.int .i64 a,.int .i64 b,.int .i64 c])=yi kl:=by
 obtain⟨m,hm⟩:=IZ;unfold keyOf;rw[hm];simp[underlying231,underlying229,underlying3,underlying2,eU,Value.formed,L30,Program.keyLits,M00,B30,R30,RQ,ha,hb,hc]
def A50(e k n:Int):Value:=.agg #[.int .i64 e,.int .i64 k,.int .i64 n]
def rD(e k n:Int)(kl:Lit):Prop:=keyOf prog 231 (A50 e k n)=yi kl
theorem w30{e k n e' k' n':Int}(h:A50 e k n=A50 e' k' n'):e=e'/\k=k'/\n=n':=by
 simp[A50]at h;exact h
theorem rD.inj{e k n e' k' n':Int}{kl:Lit}(h:rD e k n kl)(h':rD e' k' n' kl):e=e'/\k=k'/\n=n':=w30 (Qx.inj h h')
theorem rD.fn{e k n:Int}{kl kl':Lit}(h:rD e k n kl)(h':rD e k n kl'):kl=kl':=Option.some.inj (h.symm.trans h')
def Dv(D:DataW Unit)(c:vl)(m:Nat):Prop:=
 IsMap D/\∀e kd n kl,rD e kd n kl->
  (Maps.has D kl=ji↔∃i:Nat,i<m/\n=i/\kd=c.ch (i*3)/\(e=1\/e=2))/\
  ∀i:Nat,i<m->n=i->kd=c.ch (i*3)->(e=1->D.atKey kl (.lit (.int .i64 0))=.lit (.int .i64 (c.ch (i*3+1))))/\(e=2->D.atKey kl (.lit (.int .i64 0))=.lit (.int .i64 (c.ch (i*3+2))))
theorem Dv.zero(c:vl):Dv (.map []) c 0:=by
 refine⟨isMap_empty,fun e kd n kl h=>⟨?_,fun i hi=>absurd hi E0⟩⟩;constructor
 ·intro h;simp[has_eq]at h
 ·rintro⟨i,hi,_⟩;omega
theorem Dv.step{D:DataW Unit}{c:vl}{m:Nat}{k1 k2:Lit}(h:Dv D c m)(h1:rD 1 (c.ch (m*3)) m k1)(h2:rD 2 (c.ch (m*3)) m k2):
  Dv ((D.put k1 (.lit (.int .i64 (c.ch (m*3+1))))).put k2 (.lit (.int .i64 (c.ch (m*3+2))))) c (m+1):=by
 obtain⟨hM,hD⟩:=h;have i1:WideAt.IsKeyLit k1:=Qx.key h1;have i2:WideAt.IsKeyLit k2:=Qx.key h2;have q_:k1≠k2:=by
  intro e;subst e;have:=(h1.inj h2).1;omega
 refine⟨(hM.put _ _).put _ _,fun e kd n kl hk=>?_⟩;by_cases e2:kl=k2
 ·subst e2;obtain⟨r1,r2,r3⟩:=hk.inj h2;subst r1 r2 r3;refine⟨⟨fun _=>⟨m,E0,rfl,rfl,.inr rfl⟩,fun _=>has_put_same (hM.put _ _) i2 _⟩,fun i hi hn YT=>⟨fun h=>absurd h E0,fun _=>?_⟩⟩;obtain rfl:i=m:=by omega
  exact atKey_put_same (hM.put _ _) i2 _ _
 ·by_cases e1:kl=k1
  ·subst e1;obtain⟨r1,r2,r3⟩:=hk.inj h1;subst r1 r2 r3;refine⟨⟨fun _=>⟨m,E0,rfl,rfl,.inl rfl⟩,fun _=>?_⟩,fun i hi hn YT=>⟨fun _=>?_,fun h=>absurd h E0⟩⟩
   ·rw[has_put_other q_];exact has_put_same hM i1 _
   ·obtain rfl:i=m:=by omega
    rw[atKey_put_other q_];exact atKey_put_same hM i1 _ _
  ·obtain⟨g1,g2⟩:=hD e kd n kl hk;have Jj:∀i:Nat,i<m+1->n=i->kd=c.ch (i*3)->(e=1\/e=2)->i<m:=by
    intro i hi hn YT he;rcases Nat.lt_or_ge i m with hl|hl
    ·exact hl
    ·obtain rfl:i=m:=by omega
     subst hn YT;rcases he with rfl|rfl
     ·exact absurd (hk.fn h1) e1
     ·exact absurd (hk.fn h2) e2
   rw[has_put_other e2,has_put_other e1];refine⟨⟨fun h=>?_,fun ⟨i,hi,hn,YT,he⟩=>g1.2 ⟨i,Jj i hi hn YT he,hn,YT,he⟩⟩,fun i hi hn YT=>?_⟩
   ·obtain⟨i,hi,r⟩:=g1.1 h;exact⟨i,E0,r⟩
   ·rw[atKey_put_other e2,atKey_put_other e1];exact⟨fun he=>(g2 i (Jj i hi hn YT (.inl he)) hn YT).1 he,fun he=>(g2 i (Jj i hi hn YT (.inr he)) hn YT).2 he⟩
def Pq(w:ui)(b:Nat)(c:vl):Prop:=∃n D,w.ownsMap prog 231 (plainElem prog 3) b n D/\Dv D c c.qj
def Fd0(c:vl)(w:ui)(e:Ending)(w':ui):Prop:=∃b,e=.returned (.map (yi b))/\Pq w' b c/\Below w.heap.size w w'
theorem D_{a:Int}(h0:-9223372036854775808<=a)(h1:a<=9223372036854775807):(Lit.int .i64 a).wf=true:=WalkArith.wf_i64 ⟨h0,h1⟩
theorem vQ(c:vl)(p:Option Addr)(cap:Nat)(w:ui)(hs:Sl w p (c.qj*3) (fun j=>.int .i64 (c.ch j)))(h8:c.qj<=8)(gl:Hj (bu c) c.qj)(h6:c.nC<=6):
  Calls prog 98 #[.slice p c.qj cap] w (Fd0 c w):=by
 have HS:Hid (Sl w p (c.qj*3) (fun j=>.int .i64 (c.ch j))):=hs;have HO:Hid (Hj (bu c) c.qj):=gl;clear hs gl;have sV:=@run_makeMap prog
 go_enter func98,ntmps98
 go_wp2_with fail
 go_loopw [9] (fun i wr=>∃k:Nat,k<=c.qj/\i=.int .i64 k/\Hid (Below w.heap.size w wr)/\Hid (∃D,wr.ownsMap prog 231 (plainElem prog 3) w.heap.size (2*k) D/\Dv D c k)) (fun i _=>c.qj-(intOf i).toNat)
 case atStart=>exact⟨0,Nat.zero_le _,rfl,(Below.refl _ _).alloc (Nat.le_refl _) _,⟨_,World.ownsMap_made _ _ _ _,Dv.zero c⟩⟩
 case round=>
  obtain⟨k,hk,rfl,HW,HM⟩:=hrel;by_cases Wi:k<c.qj
  ·obtain⟨b,off,rfl,hc⟩:=(HS.out.below HW.out).at E0;refine Ta fun c0 c1 c2=>?_;refine Fg fun yo=>?_;have hsz:w.heap.size<=wr.heap.size:=HW.out.size;rw[<-Nat.add_assoc]at c1 c2;clear hc;obtain⟨D,rj,hD⟩:=HM.out;obtain⟨g1,⟨g2,g3⟩,⟨g4,g5⟩,g6⟩:=HO.out k Wi;obtain⟨k1,vA⟩:=UM 1 (c.ch (k*3)) k (D_ E0 E0) (D_ E0 E0) (D_ E0 E0);obtain⟨k2,qA⟩:=UM 2 (c.ch (k*3)) k (D_ E0 E0) (D_ E0 E0) (D_ E0 E0);have HD:Hid (Dv ((D.put k1 (.lit (.int .i64 (c.ch (k*3+1))))).put k2 (.lit (.int .i64 (c.ch (k*3+2))))) c (k+1)):=hD.step vA qA;have HOW:Hid (wr.ownsMap prog 231 (plainElem prog 3) w.heap.size (2*k) D):=rj;have HK1:Hid (keyOf prog 231 (.agg #[.int .i64 1,.int .i64 (c.ch (k*3)),.int .i64 k])=yi k1):=vA;have HK2:Hid (keyOf prog 231 (.agg #[.int .i64 2,.int .i64 (c.ch (k*3)),.int .i64 k])=yi k2):=qA;have W1:Hid ((Lit.int .i64 (c.ch (k*3+1))).wf=ji):=D_ E0 E0;have W2:Hid ((Lit.int .i64 (c.ch (k*3+2))).wf=ji):=D_ E0 E0;clear rj hD vA qA g1 g2 g3 g4 g5 g6;go_wp2_with (at_mapUpdate;refine wpList_mapUpdate_own _ rfl _ _ _ 204 rfl 231 3 Qx underlying204 _ w.heap.size (2*k) D rfl (HOW.out.alloc _) (by unfold maxLen;omega) _ _ k1 rfl rfl HK1.out _ [] (plainElem_int underlying3 W1.out) ?_);intro w1 Oj Ti;have zo:w.heap.size<wr.heap.size:=HOW.out.lt;obtain⟨y0,_,y2⟩:=tc0 (w:=wr) (Below.refl _ (wr.alloc (.cells #[.int .i64 (c.ch (k*3)),.int .i64 (c.ch (k*3+1)),.int .i64 (c.ch (k*3+2))] 138)));have x0:=Ti.cell y0 A1;have x2:=Ti.cell y2 A1;have HW1:Hid (Below w.heap.size w w1):=(HW.out.alloc hsz _).grown Ti A1 (fun j hj=>by cases hj;exact Nat.le_refl _);have Dc0:Hid (w1.ownsMap prog 231 (plainElem prog 3) w.heap.size (2*k+1) (D.put k1 (.lit (.int .i64 (c.ch (k*3+1)))))):=Oj;clear y0 y2 Oj Ti c0 c1 c2 HOW;go_wp2_with (at_mapUpdate;refine wpList_mapUpdate_own _ rfl _ _ _ 204 rfl 231 3 Qx underlying204 _ w.heap.size (2*k+1) (D.put k1 (.lit (.int .i64 (c.ch (k*3+1))))) rfl Dc0.out (by unfold maxLen;omega) _ _ k2 rfl rfl HK2.out _ [] (plainElem_int underlying3 W2.out) ?_);intro w2 O60 q00;have HW2:Hid (Below w.heap.size w w2):=HW1.out.grown q00 HW1.out.size (fun j hj=>by cases hj;exact Nat.le_refl _);have Dk0:Hid (w2.ownsMap prog 231 (plainElem prog 3) w.heap.size (2*(k+1)) ((D.put k1 (.lit (.int .i64 (c.ch (k*3+1))))).put k2 (.lit (.int .i64 (c.ch (k*3+2)))))):=O60;clear O60 q00 Dc0 HW1 x0 x2;go_wp2_with fail;exact⟨⟨k+1,E0,J1,HW2.out,⟨_,Dk0.out,HD.out⟩⟩,U1⟩
  ·obtain rfl:k=c.qj:=by omega
   go_wp2_with fail
   go_ret;obtain⟨D,rj,hD⟩:=HM.out;exact⟨_,rfl,⟨_,D,rj,hD⟩,HW.out⟩
theorem Ij(a b:Int)(w:ui):
  Calls prog 97 #[.int .i64 a,.int .i64 b] w (sk (0<=a/\a<b) (·=w)):=by
 go_enter func97,ntmps97
 go_wp2
 ·go_ret;exact sk.of (b:=decide (a<b)) Y5 rfl
 ·go_ret;exact sk.no E0 rfl
theorem Ew(a b:Int)(w:ui):
  Calls prog 132 #[.int .i64 a,.int .i64 b] w (sk (0<=a/\a<b) (·=w)):=by
 go_enter func132,ntmps132
 go_wp2
 ·go_ret;exact sk.of (b:=decide (a<b)) Y5 rfl
 ·go_ret;exact sk.no E0 rfl
def lV(n k:Nat)(z:Nat->Int):Prop:=(∀i,i<k->xG n z i)/\sumTo z k<=200
theorem lV.step{n k:Nat}{z:Nat->Int}(h:lV n k z)(h1:0<=z (k*2)/\z (k*2)<n)(h2:1<=z (k*2+1))(h3:z (k*2+1)<=200-sumTo z k):lV n (k+1) z:=by
 refine⟨fun i hi=>?_,by simp only[sumTo];omega⟩;rcases Nat.lt_or_ge i k with hl|hl
 ·exact h.1 i hl
 ·obtain rfl:i=k:=by omega
  exact⟨h1.1,h1.2,h2⟩
theorem xR(z:Nat->Int)(k m:Nat)(hkm:k<=m)(h:∀i,i<m->1<=z (i*2+1)):sumTo z k<=sumTo z m:=by
 induction m with
 |zero=>obtain rfl:k=0:=by omega
        exact Int.le_refl _
 |succ m ih=>
  rcases Nat.lt_or_ge k (m+1)with hl|hl
  ·have h1:=ih E0 (fun i hi=>h i E0);have h2:=h m E0;simp only[sumTo];omega
  ·obtain rfl:k=m+1:=by omega
   exact Int.le_refl _
theorem H50{n m k:Nat}{z:Nat->Int}(hk:k<m)(h:¬(0<=z (k*2)/\z (k*2)<n)\/z (k*2+1)<1\/200-sumTo z k<z (k*2+1)):¬DC n m z:=by
 intro ⟨_,h2,h3⟩;have hw:=h2 k hk;unfold xG at hw;have:=xR z (k+1) m hk (fun i hi=>(h2 i hi).2.2);simp only[sumTo]at this;omega
theorem UC(p:Option Addr)(m cap n:Nat)(z:Nat->Int)(w:ui)(hs:Sl w p (m*2) (fun j=>.int .i64 (z j)))(hb:16*m<=140737488355328):
  Calls prog 91 #[.slice p m cap,.int .i64 n] w (sk (DC n m z) (Below w.heap.size w)):=by
 have hB:m<=8796093022208:=E0;have HS:Hid (Sl w p (m*2) (fun j=>.int .i64 (z j))):=hs;clear hs hb;by_cases h6:m<=6
 ·go_enter func91,ntmps91
  go_wp2_with fail
  go_loopw [5,13] (fun l i wr=>∃k:Nat,k<=m/\i=.int .i64 k/\l=.int .i64 (200-sumTo z k)/\Hid (lV n k z)/\Hid (Below w.heap.size w wr)) (fun _ i _=>m-(intOf i).toNat)
  case atStart=>exact⟨0,Nat.zero_le _,rfl,rfl,⟨fun i hi=>absurd hi E0,by simp[sumTo]⟩,Below.refl _ _⟩
  case round=>
   obtain⟨k,hk,rfl,rfl,HI,HW⟩:=hrel;have jV:sumTo z k<=200:=HI.out.2;have Hw:0<=sumTo z k:=by have:=(FG z k (fun i hi=>(HI.out.1 i hi).2.2)).1;omega
   have hsz:w.heap.size<=wr.heap.size:=HW.out.size;by_cases Wi:k<m
   ·obtain⟨b,off,rfl,hc⟩:=(HS.out.below HW.out).at E0;have c0:=hc (k*2) E0;have c1:=hc (k*2+1) E0;refine Fg fun yo=>?_;rw[<-Nat.add_assoc]at c1;clear hc;have HT:Hid (∀_,_):=fun h=>@H50 n m k z Wi h;have HU:Hid (∀_ _ _,_):=fun h1 h2 h3=>HI.out.step (k:=k) h1 h2 h3;have HS1:Hid (sumTo z (k+1)=sumTo z k+z (k*2+1)):=rfl;by_cases hx:0<=z (k*2)/\z (k*2)<(n:Int)
    ·have HX:Hid (0<=z (k*2)/\z (k*2)<(n:Int)):=hx;clear hx;generalize hz:z (k*2)=x at *;generalize hy:z (k*2+1)=y at *;have HZ:Hid (z (k*2)=x):=hz;have HY:Hid (z (k*2+1)=y):=hy;clear hz hy;go_wp2_with (go_at_call 97;refine(sk.says (Ij _ _ _) HX.out).mono ?_;rintro e w' ⟨rfl,rfl⟩)
     case roundEnd=>
      refine⟨⟨k+1,E0,J1,by rw[HS1.out];go_num,?_,?_⟩,U1⟩
      ·refine HU.out HX.out ?_ ?_<;>omega
      ·exact HW.out.alloc E0 _
     all_goals
      go_ret;exact sk.no (HT.out E0) (HW.out.alloc E0 _)
    ·have HX:Hid (¬(0<=z (k*2)/\z (k*2)<(n:Int))):=hx;clear hx;generalize hz:z (k*2)=x at *;generalize hy:z (k*2+1)=y at *;go_wp2_with (go_at_call 97;refine(sk.Lp (Ij _ _ _) HX.out).mono ?_;rintro e w' ⟨rfl,rfl⟩);go_ret;exact sk.no (HT.out (Or.inl HX.out)) (HW.out.alloc E0 _)
   ·obtain rfl:k=m:=by omega
    go_wp2_with fail
    go_ret;exact sk.yes ⟨h6,HI.out.1,HI.out.2⟩ HW.out
 ·go_enter func91,ntmps91
  go_wp2_with fail
  go_ret;exact sk.no (fun h=>h6 h.1) (Below.refl _ _)
def WH(P:Nat->Prop)(n:Nat)(w:ui)(e:Ending)(w':ui):Prop:=
 ∃x:Int,e=.returned (.int .i64 x)/\((x=-1/\Hj P n)\/∃i:Nat,x=i/\Ky P n i)/\Below w.heap.size w w'
theorem WH.none{P:Nat->Prop}{n:Nat}{w w':ui}(h:Hj P n)(hb:Below w.heap.size w w'):WH P n w (.returned (.int .i64 (-1))) w':=⟨-1,rfl,.inl ⟨rfl,h⟩,hb⟩
theorem WH.some{P:Nat->Prop}{n i:Nat}{w w':ui}(h:Ky P n i)(hb:Below w.heap.size w w'):WH P n w (.returned (.int .i64 i)) w':=⟨i,rfl,.inr ⟨i,rfl,h⟩,hb⟩
theorem XG(p:Option Addr)(m cap n h:Nat)(z:Nat->Int)(w:ui)(hh:w.cell? ⟨h,0,Ai⟩=yi (.int .i64 n))(hs:Sl w p (m*2) (fun j=>.int .i64 (z j)))(hb:16*m<=140737488355328):
  Calls prog 90 #[.slice p m cap,.pointer (yi ⟨h,0,Ai⟩)] w (sk (¬DC n m z) (Below w.heap.size w)):=by
 have HS:Hid (Sl w p (m*2) (fun j=>.int .i64 (z j))):=hs;have HN:Hid (16*m<=140737488355328):=hb;clear hs hb;by_cases gl:DC n m z
 ·have HO:Hid (DC n m z):=gl;clear gl
  go_enter func90,ntmps90
  go_wp2_with (go_at_call 91;refine(sk.says (UC p m cap n z _ HS.out HN.out) HO.out).mono ?_;rintro e w' ⟨rfl,Wj⟩)
  go_ret;exact sk.no (fun h=>h HO.out) Wj
 ·have HO:Hid (¬DC n m z):=gl;clear gl
  go_enter func90,ntmps90
  go_wp2_with (go_at_call 91;refine(sk.Lp (UC p m cap n z _ HS.out HN.out) HO.out).mono ?_;rintro e w' ⟨rfl,Wj⟩)
  go_ret;exact sk.yes HO.out Wj
theorem WM(p:Option Addr)(n cap:Nat)(F:Nat->ti)(h:Nat)(P:Nat->Prop)(w:ui)(hs:Sl w p n F)(hb:n<=8796093022208)
  (DF:∀i,i<n->∀wr,Below w.heap.size w wr->Calls prog 90 #[F i,.pointer (yi ⟨h,0,Ai⟩)] wr (sk (¬P i) (Below wr.heap.size wr))):
  Calls prog 89 #[.slice p n cap,.func (.func 90) #[] #[.pointer (yi ⟨h,0,Ai⟩)]] w (WH P n w):=by
 have HS:Hid (Sl w p n F):=hs;have HC:Hid (∀i,i<n->∀wr,Below w.heap.size w wr->Calls prog 90 #[F i,.pointer (yi ⟨h,0,Ai⟩)] wr (sk (¬P i) (Below wr.heap.size wr))):=DF;clear hs DF
 go_enter func89,ntmps89
 go_wp2_with fail
 go_loopw [8] (fun i wr=>∃k:Nat,k<=n/\i=.int .i64 k/\Hid (Hj P k)/\Hid (Below w.heap.size w wr)) (fun i _=>n-(intOf i).toNat)
 case atStart=>exact⟨0,Nat.zero_le _,rfl,Hj.zero _,Below.refl _ _⟩
 case round=>
  obtain⟨k,hk,rfl,HI,HW⟩:=hrel;by_cases Wi:k<n
  ·obtain⟨b,off,rfl,hc⟩:=(HS.out.below HW.out).at E0;have c0:=hc k E0;clear hc;by_cases gl:P k
   ·have HO:Hid (P k):=gl;clear gl;go_wp2_with (go_at_call 90;refine(sk.Lp (HC.out k Wi wr HW.out) (fun h=>h HO.out)).mono ?_;rintro e w' ⟨rfl,Wj⟩);exact Db
   ·have HO:Hid (¬P k):=gl;clear gl;go_wp2_with (go_at_call 90;refine(sk.says (HC.out k Wi wr HW.out) HO.out).mono ?_;rintro e w' ⟨rfl,Wj⟩);exact Jc
  ·obtain rfl:k=n:=by omega
   exact Ve
def ChV(n:Nat)(k f t:Int):Prop:=(k=1\/k=2)/\(0<=f/\f<n)/\(0<=t/\t<n)/\f≠t
theorem FA(k f t:Int)(n:Nat)(w:ui):
  Calls prog 94 #[.agg #[.int .i64 k,.int .i64 f,.int .i64 t],.int .i64 n] w (sk (ChV n k f t) (Below w.heap.size w)):=by
 refine sd fun HB=>?_;by_cases hk:k=1\/k=2
 ·have sF:(k != 1)=gi\/((k != 1)=ji/\(k != 2)=gi):=by
   rcases hk with h|h
   ·exact .inl Y2
   ·exact .inr ⟨by subst h;rfl,Y2⟩
  have HK:Hid (k=1\/k=2):=hk;clear hk;by_cases hf:0<=f/\f<(n:Int)
  ·have HF:Hid (0<=f/\f<(n:Int)):=hf;clear hf;by_cases ht:0<=t/\t<(n:Int)
   ·have HT:Hid (0<=t/\t<(n:Int)):=ht;clear ht;rcases sF with h1|⟨h1,h2⟩
    all_goals
     go_enter func94,ntmps94
     go_wp2_with (first|(go_at_call_of 97 (f);refine(sk.says (Ij f _ _) HF.out).mono ?_;rintro e w' ⟨rfl,rfl⟩)|(go_at_call_of 97 (t);refine(sk.says (Ij t _ _) HT.out).mono ?_;rintro e w' ⟨rfl,rfl⟩))
     go_ret;refine sk.of (b:=(f != t)) ?_ (HB.out _);simp only[bne_iff_ne,ne_eq,ChV];exact⟨fun h=>⟨HK.out,HF.out,HT.out,h⟩,fun h=>h.2.2.2⟩
   ·have HT:Hid (¬(0<=t/\t<(n:Int))):=ht;clear ht;rcases sF with h1|⟨h1,h2⟩
    all_goals
     go_enter func94,ntmps94
     go_wp2_with (first|(go_at_call_of 97 (f);refine(sk.says (Ij f _ _) HF.out).mono ?_;rintro e w' ⟨rfl,rfl⟩)|(go_at_call_of 97 (t);refine(sk.Lp (Ij t _ _) HT.out).mono ?_;rintro e w' ⟨rfl,rfl⟩))
     go_ret;exact sk.no (fun h=>HT.out h.2.2.1) (HB.out _)
  ·have HF:Hid (¬(0<=f/\f<(n:Int))):=hf;clear hf;rcases sF with h1|⟨h1,h2⟩
   all_goals
    go_enter func94,ntmps94
    go_wp2_with (go_at_call 97;refine(sk.Lp (Ij f _ _) HF.out).mono ?_;rintro e w' ⟨rfl,rfl⟩)
    go_ret;exact sk.no (fun h=>HF.out h.2.1) (HB.out _)
 ·have h1:(k != 1)=true:=by simp;omega
  have h2:(k != 2)=true:=by simp;omega
  have HK:Hid (¬(k=1\/k=2)):=hk;clear hk
  go_enter func94,ntmps94
  go_wp2_with fail
  go_ret;exact sk.no (fun h=>HK.out h.1) (HB.out _)
theorem bG(k f t:Int)(n h:Nat)(w:ui)(hh:w.cell? ⟨h,0,Ai⟩=yi (.int .i64 n)):
  Calls prog 93 #[.agg #[.int .i64 k,.int .i64 f,.int .i64 t],.pointer (yi ⟨h,0,Ai⟩)] w (sk (¬ChV n k f t) (Below w.heap.size w)):=by
 have Wi:h<w.heap.size:=block_lt_of_cell hh;by_cases gl:ChV n k f t
 ·have HO:Hid (ChV n k f t):=gl;clear gl
  go_enter func93,ntmps93
  go_wp2_with (go_at_call 94;refine(sk.says (FA k f t n _) HO.out).mono ?_;rintro e w' ⟨rfl,Wj⟩)
  go_ret;exact sk.no (fun h=>h HO.out) (Yr Wj)
 ·have HO:Hid (¬ChV n k f t):=gl;clear gl
  go_enter func93,ntmps93
  go_wp2_with (go_at_call 94;refine(sk.Lp (FA k f t n _) HO.out).mono ?_;rintro e w' ⟨rfl,Wj⟩)
  go_ret;exact sk.yes HO.out (Yr Wj)
theorem CG(d:Int)(n h:Nat)(w:ui)(hh:w.cell? ⟨h,0,Ai⟩=yi (.int .i64 n)):
  Calls prog 96 #[.int .i64 d,.pointer (yi ⟨h,0,Ai⟩)] w (sk (¬(0<=d/\d<(n:Int))) (Below w.heap.size w)):=by
 have Wi:h<w.heap.size:=block_lt_of_cell hh;by_cases gl:(0<=d/\d<(n:Int))
 ·have HO:Hid ((0<=d/\d<(n:Int))):=gl;clear gl
  go_enter func96,ntmps96
  go_wp2_with (go_at_call 97;refine(sk.says (Ij d n _) HO.out).mono ?_;rintro e w' ⟨rfl,rfl⟩)
  go_ret;exact sk.no (fun h=>h HO.out) (Below.refl _ _)
 ·have HO:Hid (¬(0<=d/\d<(n:Int))):=gl;clear gl
  go_enter func96,ntmps96
  go_wp2_with (go_at_call 97;refine(sk.Lp (Ij d n _) HO.out).mono ?_;rintro e w' ⟨rfl,rfl⟩)
  go_ret;exact sk.yes HO.out (Below.refl _ _)
theorem dJ(p:Option Addr)(n cap:Nat)(z:Nat->Int)(h:Nat)(P:Nat->Prop)(w:ui)(hs:Sl w p (n*3) (fun j=>.int .i64 (z j)))(hb:n<=17592186044416)
  (DF:∀i,i<n->∀wr,Below w.heap.size w wr->Calls prog 93 #[.agg #[.int .i64 (z (i*3)),.int .i64 (z (i*3+1)),.int .i64 (z (i*3+2))],.pointer (yi ⟨h,0,Ai⟩)] wr (sk (¬P i) (Below wr.heap.size wr))):
  Calls prog 92 #[.slice p n cap,.func (.func 93) #[] #[.pointer (yi ⟨h,0,Ai⟩)]] w (WH P n w):=by
 have HS:Hid (Sl w p (n*3) (fun j=>.int .i64 (z j))):=hs;have HC:Hid (∀i,i<n->∀wr,Below w.heap.size w wr->Calls prog 93 #[.agg #[.int .i64 (z (i*3)),.int .i64 (z (i*3+1)),.int .i64 (z (i*3+2))],.pointer (yi ⟨h,0,Ai⟩)] wr (sk (¬P i) (Below wr.heap.size wr))):=DF;clear hs DF
 go_enter func92,ntmps92
 go_wp2_with fail
 go_loopw [8] (fun i wr=>∃k:Nat,k<=n/\i=.int .i64 k/\Hid (Hj P k)/\Hid (Below w.heap.size w wr)) (fun i _=>n-(intOf i).toNat)
 case atStart=>exact⟨0,Nat.zero_le _,rfl,Hj.zero _,Below.refl _ _⟩
 case round=>
  obtain⟨k,hk,rfl,HI,HW⟩:=hrel;by_cases Wi:k<n
  ·obtain⟨b,off,rfl,hc⟩:=(HS.out.below HW.out).at E0;refine Ta fun c0 c1 c2=>?_;rw[<-Nat.add_assoc]at c1 c2;clear hc;by_cases gl:P k
   ·have HO:Hid (P k):=gl;clear gl;go_wp2_with (go_at_call 93;refine(sk.Lp (HC.out k Wi wr HW.out) (fun h=>h HO.out)).mono ?_;rintro e w' ⟨rfl,Wj⟩);exact Db
   ·have HO:Hid (¬P k):=gl;clear gl;go_wp2_with (go_at_call 93;refine(sk.says (HC.out k Wi wr HW.out) HO.out).mono ?_;rintro e w' ⟨rfl,Wj⟩);exact Jc
  ·obtain rfl:k=n:=by omega
   exact Ve
theorem bM(p:Option Addr)(n cap:Nat)(z:Nat->Int)(h:Nat)(P:Nat->Prop)(w:ui)(hs:Sl w p (n) (fun j=>.int .i64 (z j)))(hb:n<=17592186044416)
  (DF:∀i,i<n->∀wr,Below w.heap.size w wr->Calls prog 96 #[.int .i64 (z i),.pointer (yi ⟨h,0,Ai⟩)] wr (sk (¬P i) (Below wr.heap.size wr))):
  Calls prog 95 #[.slice p n cap,.func (.func 96) #[] #[.pointer (yi ⟨h,0,Ai⟩)]] w (WH P n w):=by
 have HS:Hid (Sl w p (n) (fun j=>.int .i64 (z j))):=hs;have HC:Hid (∀i,i<n->∀wr,Below w.heap.size w wr->Calls prog 96 #[.int .i64 (z i),.pointer (yi ⟨h,0,Ai⟩)] wr (sk (¬P i) (Below wr.heap.size wr))):=DF;clear hs DF
 go_enter func95,ntmps95
 go_wp2_with fail
 go_loopw [8] (fun i wr=>∃k:Nat,k<=n/\i=.int .i64 k/\Hid (Hj P k)/\Hid (Below w.heap.size w wr)) (fun i _=>n-(intOf i).toNat)
 case atStart=>exact⟨0,Nat.zero_le _,rfl,Hj.zero _,Below.refl _ _⟩
 case round=>
  obtain⟨k,hk,rfl,HI,HW⟩:=hrel;by_cases Wi:k<n
  ·obtain⟨b,off,rfl,hc⟩:=(HS.out.below HW.out).at E0;have c0:=hc (k) E0;clear hc;by_cases gl:P k
   ·have HO:Hid (P k):=gl;clear gl;go_wp2_with (go_at_call 96;refine(sk.Lp (HC.out k Wi wr HW.out) (fun h=>h HO.out)).mono ?_;rintro e w' ⟨rfl,Wj⟩);exact Db
   ·have HO:Hid (¬P k):=gl;clear gl;go_wp2_with (go_at_call 96;refine(sk.says (HC.out k Wi wr HW.out) HO.out).mono ?_;rintro e w' ⟨rfl,Wj⟩);exact Jc
  ·obtain rfl:k=n:=by omega
   exact Ve
end Go.Proofs.YtdoghgnifkgfdaaGreat
