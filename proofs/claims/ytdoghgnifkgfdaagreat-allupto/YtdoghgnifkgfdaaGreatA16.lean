import Derived.Test.YtdoghgnifkgfdaaGreatA15
set_option maxRecDepth 100000
set_option maxHeartbeats 16000000
open Option renaming none->Hn,some->Gn
open Go renaming World->En,Value->Dn,undef->Bn,Goroutine->zn,Calls->Zm,Program->Ym,Frame->Xm,Addr->Vm
open Bool renaming true->Um,false->Tm
open Go.RowKit renaming Below->Sm
open Go.Conc renaming run_eq_of->Rm
open Nat renaming le_trans->Qm,lt_of_lt_of_le->Lm,add_assoc->Jm
open List renaming getElem?_append_left->Em
namespace Go.Proofs.YtdoghgnifkgfdaaGreat.Mute
open Tryz Go Go.Conc Go.RowKit
section
variable {w w':En}{k:RA}{r:RK}{Q:Nat->RC}{m:Nat->Nat}{xs:Nat->List Dn}{n:Nat}{nl:Nat->List (Int×Int)}{Ls:Nat->Ln}{kind fr:Nat->Int}{F:Int}{inV:Dn}{il:List (Int×Int)}{C:Nat->Us}{c':RC}
section
variable (hN:lu w k.nC r Q nl Ls F inV il)
include hN
theorem lu.note(h:Uu w k r Q m xs)(hn:n<k.nC)(hb:Jq (fun j=>j=r.Gc\/(Q n).nt.ownBlock=Gn j) w w'){l':List (Int×Int)}(ho:w'.ownsRow 0 177 2 c'.nt l'.length (gw l'))(hk:∀b,c'.nt.ownBlock=Gn b->(Q n).nt.ownBlock=Gn b\/w.heap.size<=b):
  lu w' k.nC r (Qo Q n c') (Qo nl n l') Ls F inV il:=by
 have ty:∀{b e s n2:Nat}{v:Dn}{ys:List Dn},w.ownsRow b e s v n2 ys->e≠131->e≠177->w'.ownsRow b e s v n2 ys:=fun ho h1 h2=>Lr ho fun g hg=>hb.block g (Qv ho hg) (fun e=>by
  rcases e with e|e
  ·exact xp ho h.row h1 l5
  ·exact ED ho (hN.yJ n hn) h2 hg e)
 have kK:w'.heap[r.Kb]?=w.heap[r.Kb]?:=hb.block _ h.sK.lt (fun e=>by
  rcases e with e|e
  ·exact h.sK.2.1.1 e
  ·exact h.sK.yz (fun b=>hN.noh n b hn) e)
 have kL:w'.heap[r.Lb]?=w.heap[r.Lb]?:=hb.block _ hN.row.lt (fun e=>by
  rcases e with e|e
  ·exact hN.lo.2.1 e
  ·exact xp (hN.yJ n hn) hN.row U0 e)
 have O80:∀i,i<k.nC->i≠n->∀b,(Q i).nt.ownBlock=Gn b->b<w.heap.size/\w'.heap[b]?=w.heap[b]?:=fun i hi Yp b Xq=>by
  have yo:=Qv (hN.yJ i hi) Xq;refine⟨yo,hb.block b yo (fun e=>?_)⟩;rcases e with e|e
  ·exact xp (hN.yJ i hi) h.row U0 (by rw[<-e];exact Xq)
  ·exact hN.qL i n hi hn Yp b Xq e
 refine⟨(Zn (a:=⟨r.Kb,5,Hn⟩) kK).trans hN.h5,(Zn (a:=⟨r.Kb,6,Hn⟩) kK).trans hN.h6,(Zn (a:=⟨r.Kb,7,Hn⟩) kK).trans hN.h7,ty hN.ino U0 U0,hN.row.of_heap kL,hN.lo,fun c hc=>ty (hN.own c hc) U0 U0,hN.Wu,hN.oh,fun i hi=>?_,fun i j hi hj Yp b Dx Vx=>?_,fun i b hi Xq=>?_⟩
 ·by_cases e:i=n
  ·subst e;rw[Yn,Yn];exact ho
  ·rw[Oo _ _ e,Oo _ _ e];exact Lr (hN.yJ i hi) fun b Xq=>(O80 i hi e b Xq).2
 ·by_cases e:i=n
  ·subst e;rw[Yn]at Dx;rw[Oo _ _ (fun x=>Yp x.symm)]at Vx;rcases hk b Dx with x|x
   ·exact hN.qL i j hi hj Yp b x Vx
   ·have:=(O80 j hj (fun x=>Yp x.symm) b Vx).1;omega
  ·rw[Oo _ _ e]at Dx;by_cases e2:j=n
   ·subst e2;rw[Yn]at Vx;rcases hk b Vx with x|x
    ·exact hN.qL i j hi hj Yp b Dx x
    ·have:=(O80 i hi e b Dx).1;omega
   ·rw[Oo _ _ e2]at Vx;exact hN.qL i j hi hj Yp b Dx Vx
 ·by_cases e:i=n
  ·subst e;rw[Yn]at Xq;rcases hk b Xq with x|x
   ·exact hN.noh i b hi x
   ·exact Qm h.sK.2.2 x
  ·rw[Oo _ _ e]at Xq;exact hN.noh i b hi Xq
theorem lu.line(h:Uu w k r Q m xs)(hb:Jq (fun j=>j=r.Gc\/j=r.Lb) w w')(hc:c'.nt=(Q n).nt){c:Nat}(W_:c<r.kc){ln:Ln}(Ir:Tn w' r.Lb (r.kc*5) 175 (eu (Qo Ls c ln)))(ho:w'.ownsRow 0 2 1 ln.wv ln.ws.length (vE ln.ws))(hk:∀b,ln.wv.ownBlock=Gn b->(Ls c).wv.ownBlock=Gn b\/w.heap.size<=b):
  lu w' k.nC r (Qo Q n c') nl (Qo Ls c ln) F inV il/\∀d b,d<r.kc->(Qo Ls c ln d).wv.ownBlock=Gn b->(Ls d).wv.ownBlock=Gn b\/w.heap.size<=b:=by
 have ty:∀{b e s n2:Nat}{v:Dn}{ys:List Dn},w.ownsRow b e s v n2 ys->e≠131->e≠175->w'.ownsRow b e s v n2 ys:=fun ho h1 h2=>Lr ho fun g hg=>hb.block g (Qv ho hg) (fun e=>by
  rcases e with e|e
  ·exact xp ho h.row h1 l5
  ·exact xp ho hN.row h2 l5)
 have kK:w'.heap[r.Kb]?=w.heap[r.Kb]?:=hb.block _ h.sK.lt (fun e=>by
  rcases e with e|e
  ·exact h.sK.2.1.1 e
  ·exact h.sK.2.1.2 e)
 have eq:∀i,(Qo Q n c' i).nt=(Q i).nt:=fun i=>by
  by_cases e:i=n
  ·subst e;rw[Yn];exact hc
  ·rw[Oo _ _ e]
 have wlt:∀d b,d<r.kc->(Ls d).wv.ownBlock=Gn b->b<w.heap.size:=fun d b hd Xq=>Qv (hN.own d hd) Xq;refine⟨⟨(Zn (a:=⟨r.Kb,5,Hn⟩) kK).trans hN.h5,(Zn (a:=⟨r.Kb,6,Hn⟩) kK).trans hN.h6,(Zn (a:=⟨r.Kb,7,Hn⟩) kK).trans hN.h7,ty hN.ino U0 U0,Ir,hN.lo,fun d hd=>?_,fun d d' hd eP Yp b Dx Vx=>?_,fun d b hd Xq=>?_,fun i hi=>?_,fun i j hi hj Yp b=>?_,fun i b hi=>?_⟩,fun d b hd Xq=>?_⟩
 ·by_cases e:d=c
  ·subst e;rw[Yn];exact ho
  ·refine Xk ?_;exact ty (hN.own d hd) U0 U0
 ·by_cases e:d=c
  ·subst e;rw[Yn]at Dx;rw[Oo _ _ (fun x=>Yp x.symm)]at Vx;rcases hk b Dx with x|x
   ·exact hN.Wu d d' hd eP Yp b x Vx
   ·have:=wlt d' b eP Vx;omega
  ·rw[Oo _ _ e]at Dx;by_cases e2:d'=c
   ·subst e2;rw[Yn]at Vx;rcases hk b Vx with x|x
    ·exact hN.Wu d d' hd eP Yp b Dx x
    ·have:=wlt d b hd Dx;omega
   ·rw[Oo _ _ e2]at Vx;exact hN.Wu d d' hd eP Yp b Dx Vx
 ·by_cases e:d=c
  ·subst e;rw[Yn]at Xq;rcases hk b Xq with x|x
   ·exact hN.oh d b hd x
   ·exact Qm h.sK.2.2 x
  ·rw[Oo _ _ e]at Xq;exact hN.oh d b hd Xq
 ·rw[eq];exact ty (hN.yJ i hi) U0 U0
 ·rw[eq,eq];exact hN.qL i j hi hj Yp b
 ·rw[eq];exact hN.noh i b hi
 ·by_cases e:d=c
  ·subst e;rw[Yn]at Xq;exact hk b Xq
  ·rw[Oo _ _ e]at Xq;exact .inl Xq
theorem lu.ink:∃pi ci,inV=.slice pi il.length ci/\InK w pi il:=by
 obtain⟨p,c,e⟩:=BN hN.ino;refine⟨p,c,e,fun j x hj=>?_⟩;have ho:=hN.ino;rw[e]at ho;rcases ho.2 with⟨_,h0⟩|⟨g,cap,Ov,ev,_⟩
 ·have:=(List.getElem?_eq_some_iff.1 hj).1;omega
 ·injection ev with e1
  subst e1;have key:∀(l:List (Int×Int))(j:Nat)(x:Int×Int),l[j]?=Gn x->(gw l)[j*2]?=Gn (.int .i64 x.1)/\(gw l)[j*2+1]?=Gn (.int .i64 x.2):=by
   intro l;induction l with
   |nil=>intro j x h;simp at h
   |cons p l ih=>
    intro j x h;have e:gw (p::l)=.int .i64 p.1::.int .i64 p.2::gw l:=rfl;cases j with
    |zero=>
     have:p=x:=X2;subst this;exact⟨rfl,rfl⟩
    |succ j=>
     obtain⟨h1,h2⟩:=ih j x X2;rw[e,show (j+1)*2=j*2+1+1 by omega];exact⟨K5,by simpa using h2⟩
  obtain⟨h1,h2⟩:=key il j x hj;have c0:=ho.cells (g:=g) rfl _ _ h1;have c1:=ho.cells (g:=g) rfl _ _ h2;rw[Addr.add_lit]at c0 c1;exact⟨g,0,rfl,c0,c1⟩
end
theorem jX(z:Nat->Int){nx:Nat}(Nx:z 45=nx)(i i':Nat)(v v':Int)(j:Nat)(h:(25<=j/\j<46)\/j=47):Wn (Wn (Wn z 45 (nx+1)) i v) i' v' j=Wn (Wn (Xn z) i v) i' v' j:=by
 rw[QA (Wn (Wn z 45 _) i v) i' v' j,QA (Wn (Xn z) i v) i' v' j];by_cases e:j=i'
 ·rw[if_pos e,if_pos e]
 ·rw[if_neg e,if_neg e];exact dB z Nx i v j h
theorem YF{Z Z':Nat->Int}{c0:RC}{Gc nC t:Nat}(Ir:Tn w' Gc (nC*26) t (yq (Qo Q n {c0 with z:=Z})))(he:∀j,(25<=j/\j<46)\/j=47->Z j=Z' j):Tn w' Gc (nC*26) t (yq (Qo Q n {c0 with z:=Z'})):=Ir.congr fun j _=>by
 unfold yq;by_cases e:j/26=n
 ·rw[e,Yn,Yn];exact qB he _
 ·rw[Oo _ _ e,Oo _ _ e]
theorem QD{S:Nat->Prop}(h:Uu w k r Q m xs)(hn:n<k.nC)(hb:Jq S w w')(hS:∀b,(Q n).v.ownBlock=Gn b->¬S b):w'.ownsRow 0 111 3 (Q n).v (m n) (xs n):=Lr (h.own n hn) fun b Xq=>hb.block b (Qv (h.own n hn) Xq) (hS b Xq)
section
variable {ins:List (Int×Int)}{nD:Nat}(h:Uu w k r Q m xs)(hN:lu w k.nC r Q nl Ls F inV il)(nU:Ns r.kc kind fr nl Ls F C)(hn:n<k.nC)(h45:0<=(Q n).z 45/\(Q n).z 45<=k.n n)
include ins nD h hN nU hn h45
theorem D90(hz:(Q n).z 45≠k.n n)(hx:pF (k.ci n (((Q n).z 45).toNat*4)))(qX:tH n kind fr nD (k.n n) (k.ci n))(iu:∀N:Int,0<=N->N<nD->Yt il N=Yt ins N)(hl:(nl n).length<1000000000)(hF:0<=F/\F<=1000000000000)(hwl:∀c,c<r.kc->(C c).wait.length<=1000):
  Zm prog 88 #[.pointer (Gn ⟨r.Kb,0,Hn⟩),.int .i64 n] w fun e w'=>e=.returned (.int .i64 0)/\jz w k.nC r n Q nl Ls kind fr F inV il (qA ins (k.ci n (((Q n).z 45).toNat*4)) (k.ci n (((Q n).z 45).toNat*4+1)).toNat (k.ci n (((Q n).z 45).toNat*4+2)).toNat (k.ci n (((Q n).z 45).toNat*4+3)) (Xn (Q n).z) C).2 (qA ins (k.ci n (((Q n).z 45).toNat*4)) (k.ci n (((Q n).z 45).toNat*4+1)).toNat (k.ci n (((Q n).z 45).toNat*4+2)).toNat (k.ci n (((Q n).z 45).toNat*4+3)) (Xn (Q n).z) C).1 (Q n).s (Q n).b (m n) (xs n) 1 w':=by
 have gK:=h.sK.Kx;have gb:=h.sb.Kx;have gc:=(h.sc n hn).Kx;obtain⟨nx,Nx⟩:∃nx:Nat,(Q n).z 45=nx:=⟨((Q n).z 45).toNat,E0⟩;have yo:nx<k.n n:=E0;have ht:((Q n).z 45).toNat=nx:=E0;rw[ht]at hx ⊢;obtain⟨-,⟨r0,r4⟩,⟨a0,a4⟩,-,hNc⟩:=h.ok n hn nx yo;obtain⟨R,hR⟩:∃R:Nat,k.ci n (nx*4+1)=R:=⟨(k.ci n (nx*4+1)).toNat,E0⟩;obtain⟨A,hA⟩:∃A:Nat,k.ci n (nx*4+2)=A:=⟨(k.ci n (nx*4+2)).toNat,E0⟩;have xw:R<4:=E0;have vw:A<4:=E0;have c0:=h.code n hn (nx*4) E0;have c1:=h.code n hn (nx*4+1) E0;have c2:=h.code n hn (nx*4+2) E0;have c3:=h.code n hn (nx*4+3) E0;rw[<-Jm]at c1 c2 c3;rw[hR]at c1;rw[hA]at c2;have zR:=UR (Q n).z (i:=25+R) E0 E0;rw[show (k.ci n (nx*4+1)).toNat=R by omega,show (k.ci n (nx*4+2)).toNat=A by omega];have chan:k.ci n (nx*4)≠14->∃c:Nat,k.ci n (nx*4+3)=c/\c<r.kc:=fun e=>by
  obtain⟨h1,h2⟩:=hNc hx e;exact⟨(k.ci n (nx*4+3)).toNat,E0,E0⟩
 have Vk0:∀b,(Q n).v.ownBlock=Gn b->¬(b=r.Gc\/b=r.Lb):=fun b hb x=>by
  rcases x with x|x
  ·exact vk
  ·exact xp (h.own n hn) hN.row U0 G5
 refine Oc fun st=>?_;have quiet:∀{rv av:Int} {op:Int} (_:op=12\/op=13\/op=14) (_:k.ci n (nx*4)=op) (_:qA ins op R A (k.ci n (nx*4+3)) (Xn (Q n).z) C=(Wn (Wn (Xn (Q n).z) (25+R) rv) (25+A) av,C)) (_:∀V,Jq (fun j=>j=r.Gc) w V->Zm prog 115 #[.pointer (Gn ⟨r.Kb,0,Hn⟩),.agg #[.int .i64 op,.int .i64 R,.int .i64 A,.int .i64 (k.ci n (nx*4+3))]] V fun e w'=>e=.returned (.tuple #[.int .i64 rv,.int .i64 av])/\Sm V.heap.size V w'),
   Zm prog 88 #[.pointer (Gn ⟨r.Kb,0,Hn⟩),.int .i64 n] w fun e w'=>e=.returned (.int .i64 0)/\jz w k.nC r n Q nl Ls kind fr F inV il (qA ins (k.ci n (nx*4)) R A (k.ci n (nx*4+3)) (Xn (Q n).z) C).2 (qA ins (k.ci n (nx*4)) R A (k.ci n (nx*4+3)) (Xn (Q n).z) C).1 (Q n).s (Q n).b (m n) (xs n) 1 w':=by
  intro rv av op ep ho he O10;rw[ho]at c0;rw[ho,he];refine(FQ (st c0 c3) ep r.Lb hN.lo.2.1 hN.row.lt rv av (fun V=>V.heap[r.Lb]?=w.heap[r.Lb]?) (fun V V' hb e=>(hb.block _ (by
   have:=(Array.getElem?_eq_some_iff.1 (e.trans (hN.row.choose_spec.1))).1;exact this) hN.lo.2.1).trans e) (fun V hV=>(O10 V hV).mono fun e w' ⟨h1,h2⟩=>⟨h1,⟨h2.os,h2.tape,h2.output,h2.size,fun j hj _=>h2.block j hj⟩,(h2.block _ (Lm hN.row.lt hV.size)).trans (hV.block _ hN.row.lt hN.lo.2.1)⟩)).mono ?_
  rintro e w' ⟨rfl,h1,h2,h3⟩;have Vx:Jq (fun j=>j=r.Gc) w w':=⟨h2.os,h2.tape,h2.output,h2.size,fun j hj Yp=>by
   by_cases e:j=r.Lb
   ·subst e;exact h3
   ·exact h2.block j hj (fun x=>x.elim Yp e)⟩
  exact⟨rfl,aH h hN nU hn h1 Vx (fun j hj=>jX _ Nx _ _ _ _ j hj)⟩
 have Z80:∀{V:En},Jq (fun j=>j=r.Gc) w V->lu V k.nC r (Qo Q n (Q n)) nl Ls F inV il:=fun hV=>hN.same (c':=Q n) h hn (hV.mono fun _ x=>.inl x) rfl;rcases hx with ho|ho|ho|ho|ho|ho
 ·rw[ho]at c0;obtain⟨c,hc,WH⟩:=chan S5;have hk:=(qX nx yo).1 ho;rw[hc,Int.toNat_natCast]at hk;rw[hc]at c3;refine(NZ (st c0 c3) c rfl (nl n).length (gw (nl n)) (hN.yJ n hn) (xp (hN.yJ n hn) h.row U0) hl).mono ?_;rintro e w' ⟨rfl,v',h1,h2,h3,h4⟩;have e1:qA ins 10 R A ((c:Nat):Int) (Xn (Q n).z) C=(Xn (Q n).z,uN C c {C c with sent:=(C c).sent++[(Q n).z (25+R)]}):=by unfold qA;simp[zR]
  rw[ho,hc,e1];rw[<-xJ (nl n) ((c:Int),(Q n).z (25+R))]at h3;have yY:w'.ownsRow 0 177 2 v' (nl n++[((c:Int),(Q n).z (25+R))]).length (gw (nl n++[((c:Int),(Q n).z (25+R))])):=by rw[List.length_append];exact h3
  exact⟨rfl,(Q n).v,v',nl n++[((c:Int),(Q n).z (25+R))],Ls,P0,⟨YF (c0:={Q n with nt:=v'}) h1 (fun j hj=>cF _ Nx j hj),h2.mono fun _ x=>x.elim (fun x=>.inl (.inl x)) (fun x=>.inr (.inr x)),QD h hn h2 (fun b hb x=>by
   rcases x with x|x
   ·exact vk
   ·exact ED (h.own n hn) (hN.yJ n hn) U0 hb x),fun _ x=>.inl x,h4⟩,hN.note (c':=⟨Xn (Q n).z,(Q n).s,(Q n).v,(Q n).b,v'⟩) h hn h2 yY h4,nU.send hk.2 hk.1,fun _ _ _ x=>.inl x⟩
 ·rw[ho]at c0;obtain⟨c,hc,WH⟩:=chan S5;have hk:=(qX nx yo).2.1 ho;rw[hc,Int.toNat_natCast]at hk;rw[hc]at c3;refine(qW (st c0 c3) c rfl (nl n).length (gw (nl n)) (hN.yJ n hn) (xp (hN.yJ n hn) h.row U0) hl).mono ?_;rintro e w' ⟨rfl,v',h1,h2,h3,h4⟩;have e1:qA ins 11 R A ((c:Nat):Int) (Xn (Q n).z) C=(Xn (Q n).z,uN C c {C c with Hu:=(Q n).z (25+R),anew:=Um}):=by unfold qA;simp[zR]
  rw[ho,hc,e1];rw[<-xJ (nl n) ((c:Int),(Q n).z (25+R))]at h3;have yY:w'.ownsRow 0 177 2 v' (nl n++[((c:Int),(Q n).z (25+R))]).length (gw (nl n++[((c:Int),(Q n).z (25+R))])):=by rw[List.length_append];exact h3
  exact⟨rfl,(Q n).v,v',nl n++[((c:Int),(Q n).z (25+R))],Ls,P0,⟨YF (c0:={Q n with nt:=v'}) h1 (fun j hj=>cF _ Nx j hj),h2.mono fun _ x=>x.elim (fun x=>.inl (.inl x)) (fun x=>.inr (.inr x)),QD h hn h2 (fun b hb x=>by
   rcases x with x|x
   ·exact vk
   ·exact ED (h.own n hn) (hN.yJ n hn) U0 hb x),fun _ x=>.inl x,h4⟩,hN.note (c':=⟨Xn (Q n).z,(Q n).s,(Q n).v,(Q n).b,v'⟩) h hn h2 yY h4,nU.write hk.2 hk.1,fun _ _ _ x=>.inl x⟩
 ·obtain⟨c,hc,WH⟩:=chan S5;have hk:=(qX nx yo).2.2.1 (.inl ho);rw[hc,Int.toNat_natCast]at hk;have hq:=(nU c WH).q hk;cases QY:(Ls c).ws with
  |nil=>
   have e1:qA ins 12 R A (k.ci n (nx*4+3)) (Xn (Q n).z) C=(Wn (Wn (Xn (Q n).z) (25+R) 0) (25+A) 0,C):=by rw[hc];unfold qA;simp[hq.1,QY]
   refine quiet (.inl rfl) ho e1 fun V hV=>?_;have hv:=Z80 hV;obtain⟨p,cc,hp⟩:=BN (hN.own c WH);rw[QY]at hp;rw[hc];exact eT r.Kb r.Lb r.kc c R A Ls V hv.h5 hv.row WH hN.lo.2.2.2.1 p cc hp
  |cons x l=>
   rw[ho]at c0;rw[hc]at c3;have e1:qA ins 12 R A ((c:Nat):Int) (Xn (Q n).z) C=(Wn (Wn (Xn (Q n).z) (25+R) x) (25+A) 1,uN C c {C c with wait:=l}):=by unfold qA;simp[hq.1,QY]
   rw[ho,hc,e1];have hG:=h.row.lt;refine(FQ (st c0 c3) (.inl rfl) r.Lb hN.lo.2.1 hN.row.lt x 1 (fun V=>w.heap.size<=V.heap.size/\∃v',Tn V r.Lb (r.kc*5) 175 (eu (Qo Ls c {Ls c with wv:=v',ws:=l}))/\V.ownsRow 0 2 1 v' l.length (vE l)/\∀b,v'.ownBlock=Gn b->w.heap.size<=b) (fun V V' hb ⟨g0,v',g1,g2,g3⟩=>⟨Qm g0 hb.size,v',g1.of_heap (hb.block _ g1.lt hN.lo.2.1),Lr g2 fun b Xq=>hb.block b (Qv g2 Xq) (by have:=g3 b Xq;omega),g3⟩) (fun V hV=>?_)).mono ?_
   ·have hv:=Z80 hV;have IY:=hv.own c WH;rw[QY]at IY;refine(jT r.Kb r.Lb r.kc c R A Ls V hv.h5 hv.row WH hN.lo.2.2.2.1 x l IY (by have:=hwl c WH;rw[hq.1,QY]at this;simp at this;omega)).mono ?_;rintro e w' ⟨g0,v',g1,g2,g3,g4⟩;exact⟨g0,g2,Qm hV.size g2.size,v',g1,g3,fun b hb=>Qm hV.size (g4 b hb)⟩
   ·rintro e w' ⟨rfl,h1,h2,-,v',g1,g2,g3⟩;obtain⟨n1,n2⟩:=hN.line (n:=n) (c':=⟨Wn (Wn (Xn (Q n).z) (25+R) x) (25+A) 1,(Q n).s,(Q n).v,(Q n).b,(Q n).nt⟩) h h2 rfl WH g1 g2 (fun b hb=>.inr (g3 b hb));exact⟨rfl,(Q n).v,(Q n).nt,nl n,_,Nat.le_add_right _ _,⟨YF (c0:=Q n) h1 (fun j hj=>jX _ Nx _ _ _ _ j hj),h2.mono fun _ x=>.inl x,QD h hn h2 Vk0,fun _ x=>.inl x,fun _ x=>.inl x⟩,by rw[ov nl];exact n1,by rw[ov nl];exact nU.line hk rfl hq.2.1 rfl,n2⟩
 ·obtain⟨c,hc,WH⟩:=chan S5;have hk:=(qX nx yo).2.2.2.1 ho;rw[hc,Int.toNat_natCast]at hk;obtain⟨s1,s2,-,-,s5⟩:=(nU c WH).s hk;by_cases xX:(Ls c).shown=Um
  ·rw[if_pos xX]at s1 s2;have e1:qA ins 13 R A (k.ci n (nx*4+3)) (Xn (Q n).z) C=(Wn (Wn (Xn (Q n).z) (25+R) (Ls c).shows) (25+A) (IntKind.i64.wrap (F-(Ls c).since)),C):=by
    rw[hc,show IntKind.i64.wrap (F-(Ls c).since)=F-(Ls c).since by rw[IntKind.wrap_i64];have:=s5 xX;omega];unfold qA;simp[s1,s2]
   refine quiet (.inr (.inl rfl)) ho e1 fun V hV=>?_;have hv:=Z80 hV;rw[hc];exact iT r.Kb r.Lb r.kc c R A Ls V hv.h5 hv.row WH hN.lo.2.2.2.1 xX F hv.h6
  ·have xX:(Ls c).shown=false:=by simpa using xX
   rw[if_neg (by rw[xX];decide)]at s1 s2;have e1:qA ins 13 R A (k.ci n (nx*4+3)) (Xn (Q n).z) C=(Wn (Wn (Xn (Q n).z) (25+R) 0) (25+A) (-1),C):=by
    rw[hc];unfold qA;simp[s1,s2]
   refine quiet (.inr (.inl rfl)) ho e1 fun V hV=>?_;have hv:=Z80 hV;rw[hc];exact rP r.Kb r.Lb r.kc c R A Ls V hv.h5 hv.row WH hN.lo.2.2.2.1 xX
 ·obtain⟨d0,d1⟩:=(qX nx yo).2.2.2.2 ho;have hs:=iu _ d0 d1;have e1:qA ins 14 R A (k.ci n (nx*4+3)) (Xn (Q n).z) C=(Wn (Wn (Xn (Q n).z) (25+R) (Yt il (k.ci n (nx*4+3))).1) (25+A) (Yt il (k.ci n (nx*4+3))).2,C):=by
   rw[hs];unfold qA;simp
  refine quiet (.inr (.inr rfl)) ho e1 fun V hV=>?_;have hv:=Z80 hV;obtain⟨pi,ci,hp,hi⟩:=hv.ink;exact sP r.Kb ci pi il R A _ V (by rw[<-hp];exact hv.h7) hi hN.lo.2.2.2.2
 ·obtain⟨c,hc,WH⟩:=chan S5;have hk:=(qX nx yo).2.2.1 (.inr ho);rw[hc,Int.toNat_natCast]at hk;have hq:=(nU c WH).q hk;rw[ho]at c0;rw[hc]at c3;have e1:qA ins 16 R A ((c:Nat):Int) (Xn (Q n).z) C=(Wn (Xn (Q n).z) (25+R) (Ls c).lost,uN C c {C c with lost:=0}):=by unfold qA;simp[hq.2.1]
  rw[ho,hc,e1];refine(MZ (st c0 c3) c r.Lb r.kc Ls rfl WH hN.lo.2.1 h.sK.2.1.2 hN.h5 hN.row).mono ?_;rintro e w' ⟨rfl,h1,h2,h3⟩;obtain⟨n1,n2⟩:=hN.line (n:=n) (c':=⟨Wn (Xn (Q n).z) (25+R) (Ls c).lost,(Q n).s,(Q n).v,(Q n).b,(Q n).nt⟩) h h2 rfl WH h3 (Lr (hN.own c WH) fun b hb=>h2.block b (Qv (hN.own c WH) hb) (fun x=>by
   rcases x with x|x
   ·exact xp (hN.own c WH) h.row U0 G5
   ·exact xp (hN.own c WH) hN.row U0 G5)) (fun b hb=>.inl hb)
  exact⟨rfl,(Q n).v,(Q n).nt,nl n,_,Nat.le_add_right _ _,⟨YF (c0:=Q n) h1 (fun j hj=>dB _ Nx _ _ j hj),h2.mono fun _ x=>.inl x,QD h hn h2 Vk0,fun _ x=>.inl x,fun _ x=>.inl x⟩,by rw[ov nl];exact n1,by rw[ov nl];exact nU.line hk hq.1 rfl rfl,n2⟩
theorem q30(hm:m n<1000000000)(qX:tH n kind fr nD (k.n n) (k.ci n))(iu:∀N:Int,0<=N->N<nD->Yt il N=Yt ins N)(hl:(nl n).length<1000000000)(hF:0<=F/\F<=1000000000000)(hwl:∀c,c<r.kc->(C c).wait.length<=1000):
  Zm prog 88 #[.pointer (Gn ⟨r.Kb,0,Hn⟩),.int .i64 n] w fun e w'=>e=.returned (.int .i64 (Gx C (Pq (k.n n) (k.ci n) ins (Q n).z C)).1)/\jz w k.nC r n Q nl Ls kind fr F inV il (Gx C (Pq (k.n n) (k.ci n) ins (Q n).z C)).2.2 (Gx C (Pq (k.n n) (k.ci n) ins (Q n).z C)).2.1 (Q n).s (Q n).b (m n+(Pq (k.n n) (k.ci n) ins (Q n).z C).sent.length) (xs n++(Pq (k.n n) (k.ci n) ins (Q n).z C).sent.flatMap tq) 1 w':=by
 by_cases hx:(Q n).z 45≠k.n n/\pF (k.ci n (((Q n).z 45).toNat*4))
 ·have e:Pq (k.n n) (k.ci n) ins (Q n).z C=.on (k.ci n (((Q n).z 45).toNat*4)) Hn (qA ins (k.ci n (((Q n).z 45).toNat*4)) (k.ci n (((Q n).z 45).toNat*4+1)).toNat (k.ci n (((Q n).z 45).toNat*4+2)).toNat (k.ci n (((Q n).z 45).toNat*4+3)) (Xn (Q n).z) C).1 (qA ins (k.ci n (((Q n).z 45).toNat*4)) (k.ci n (((Q n).z 45).toNat*4+1)).toNat (k.ci n (((Q n).z 45).toNat*4+2)).toNat (k.ci n (((Q n).z 45).toNat*4+3)) (Xn (Q n).z) C).2:=by
   unfold Pq;rw[if_pos hx]
  have h0:k.ci n (((Q n).z 45).toNat*4)≠0:=fun e0=>by have:=hx.2;rw[e0]at this;unfold pF at this;omega
  rw[e];refine(D90 h hN nU hn h45 hx.1 hx.2 qX iu hl hF hwl).mono fun e' w' x=>?_;simpa[Gx,BH.sent,h0]using x
 ·have e:Pq (k.n n) (k.ci n) ins (Q n).z C=(dp (k.n n) (k.ci n) (Q n).z).with C:=by unfold Pq;rw[if_neg hx]
  rw[e,bH,kU.NQ];exact lW h hN nU hn h45 hm (fun h1 h2=>hx ⟨h1,h2⟩)
end
end
def LsW(w:En)(v:Dn)(xs:List Int)(r:Option Jp):Prop:=
 (r=Hn/\v=.slice Hn 0 0/\xs=[])\/∃r',r=Gn r'/\Tn w r'.g r'.m r'.t r'.f/\r'.t=2/\v=.slice (Gn ⟨r'.g,0,Hn⟩) xs.length r'.m/\xs.length<=r'.m/\r'.m<=maxLen/\∀j,j<xs.length->r'.f j=.int .i64 (xs.getD j 0)
structure ChW(w:En)(fq fs:Nat->Dn)(c:Us)(i:Nat)(rw rs:Option Jp):Prop where
 wait:LsW w (fq (i*3)) c.wait rw
 sent:LsW w (fq (i*3+1)) c.sent rs
 lost:fq (i*3+2)=.int .i64 c.lost
 shown:fs (i*4)=.int .i64 c.shown
 age:fs (i*4+1)=.int .i64 c.age
 Hu:fs (i*4+2)=.int .i64 c.Hu
 anew:fs (i*4+3)=.bool c.anew
structure NtX(w:En)(K:Ys)(C:Nat->Us)(lr:Nat->Option Jp)(fq fs:Nat->Dn):Prop where
 q:Tn w K.qb K.qm 156 fq
 s:Tn w K.sb K.sm 158 fs
 ch:∀i,i<K.k->ChW w fq fs (C i) i (lr (2*i)) (lr (2*i+1))
structure XP(w:En)(K:Ys)(C:Nat->Us)(lr:Nat->Option Jp):Prop where
 out:∀j,2*K.k<=j->lr j=Hn
 ne:∀j j' r r',lr j=Gn r->lr j'=Gn r'->j≠j'->r.g≠r'.g
 row:∀j r,lr j=Gn r->Tn w r.g r.m r.t r.f/\r.t=2
 x:0<K.k->∃fq fs,NtX w K C lr fq fs
def Ar(K:Ys)(lr:Nat->Option Jp)(b:Nat):Prop:=(0<K.k/\(b=K.qb\/b=K.sb))\/∃j r,lr j=Gn r/\r.g=b
theorem LsW.of_heap{w w':En}{v:Dn}{xs:List Int}{r:Option Jp}(h:LsW w v xs r)(hk:∀r',r=Gn r'->w'.heap[r'.g]?=w.heap[r'.g]?):LsW w' v xs r:=by
 rcases h with h|⟨r',h1,h2,h3⟩
 ·exact .inl h
 ·exact .inr ⟨r',h1,h2.of_heap (hk r' h1),h3⟩
section
variable {w w':En}{K:Ys}{C:Nat->Us}{lr:Nat->Option Jp}
theorem XP.keep(h:XP w K C lr)(hk:∀b,Ar K lr b->w'.heap[b]?=w.heap[b]?):XP w' K C lr:=by
 refine⟨h.out,h.ne,fun j r hj=>⟨(h.row j r hj).1.of_heap (hk _ (.inr ⟨j,r,hj,rfl⟩)),(h.row j r hj).2⟩,fun h0=>?_⟩;obtain⟨fq,fs,hx⟩:=h.x h0;exact⟨fq,fs,hx.q.of_heap (hk _ (.inl ⟨h0,.inl rfl⟩)),hx.s.of_heap (hk _ (.inl ⟨h0,.inr rfl⟩)),fun i hi=>⟨(hx.ch i hi).wait.of_heap fun r hr=>hk _ (.inr ⟨_,r,hr,rfl⟩),(hx.ch i hi).sent.of_heap fun r hr=>hk _ (.inr ⟨_,r,hr,rfl⟩),(hx.ch i hi).lost,(hx.ch i hi).shown,(hx.ch i hi).age,(hx.ch i hi).Hu,(hx.ch i hi).anew⟩⟩
theorem XP.at(h:XP w K C lr){b:Nat}(hb:Ar K lr b):∃m t f,Tn w b m t f/\(t=156\/t=158\/t=2):=by
 rcases hb with⟨h0,hb⟩|⟨j,r,hj,rfl⟩
 ·obtain⟨fq,fs,hx⟩:=h.x h0;rcases hb with rfl|rfl
  ·exact⟨_,_,_,hx.q,.inl rfl⟩
  ·exact⟨_,_,_,hx.s,.inr (.inl rfl)⟩
 ·exact⟨_,_,_,(h.row j r hj).1,.inr (.inr (h.row j r hj).2)⟩
theorem XP.lt(h:XP w K C lr){b:Nat}(hb:Ar K lr b):b<w.heap.size:=by
 obtain⟨m,t,f,hr,_⟩:=h.at hb;exact hr.lt
theorem zV(lr:Nat->Option Jp):∀n:Nat,∃(rl:List Jp)(p:Nat->Option Nat),(∀j,n<=j->p j=Hn)/\(∀j,j<n->(lr j=Hn/\p j=Hn)\/∃r x,lr j=Gn r/\p j=Gn x/\rl[x]?=Gn r)/\(∀j j' x,p j=Gn x->p j'=Gn x->j=j')/\(∀x r,rl[x]?=Gn r->∃j,j<n/\p j=Gn x/\lr j=Gn r)
 |0=>⟨[],fun _=>Hn,fun _ _=>rfl,fun j hj=>absurd hj (Nat.not_lt_zero j),fun _ _ _ h=>D4,fun x r h=>D4⟩
 |n+1=>by
  obtain⟨rl,p,h1,h2,h3,h4⟩:=zV lr n;cases hn:lr n with
  |none=>
   refine⟨rl,p,fun j hj=>h1 j E0,fun j hj=>?_,h3,fun x r hx=>?_⟩
   ·by_cases e:j=n
    ·subst e;exact .inl ⟨hn,h1 j E0⟩
    ·exact h2 j E0
   ·obtain⟨j,hj,e⟩:=h4 x r hx;exact⟨j,E0,e⟩
  |some r0=>
   have pl:∀j x,p j=Gn x->x<rl.length:=fun j x hp=>by
    by_cases hj:j<n
    ·rcases h2 j hj with⟨_,e⟩|⟨r,x',_,e,e2⟩
     ·rw[e]at hp;cases hp
     ·rw[e]at hp;cases hp;exact(List.getElem?_eq_some_iff.1 e2).1
    ·rw[h1 j E0]at hp;cases hp
   have ps:uN p n (Gn rl.length) n=Gn rl.length:=qt _ _ _;have pn:∀j,j≠n->uN p n (Gn rl.length) j=p j:=fun j hj=>Vy _ _ hj;refine⟨rl++[r0],uN p n (Gn rl.length),fun j hj=>by rw[pn j E0];exact h1 j E0,fun j hj=>?_,fun j j' x hx eE=>?_,fun x r hx=>?_⟩
   ·by_cases e:j=n
    ·subst e;exact .inr ⟨r0,rl.length,hn,ps,P0⟩
    ·rw[pn j e];rcases h2 j E0 with h|⟨r,x,e1,e2,e3⟩
     ·exact .inl h
     ·exact .inr ⟨r,x,e1,e2,by rw[Em (pl j x e2)];exact e3⟩
   ·by_cases e:j=n
    ·by_cases e':j'=n
     ·omega
     ·subst e;rw[ps]at hx;rw[pn j' e']at eE;have:=pl _ _ eE;have:=Option.some.inj hx;omega
    ·by_cases e':j'=n
     ·subst e';rw[ps]at eE;rw[pn j e]at hx;have:=pl _ _ hx;have:=Option.some.inj eE;omega
     ·rw[pn j e]at hx;rw[pn j' e']at eE;exact h3 j j' x hx eE
   ·rw[List.getElem?_append]at hx;by_cases hl:x<rl.length
    ·rw[if_pos hl]at hx;obtain⟨j,hj,e1,e2⟩:=h4 x r hx;exact⟨j,E0,by rw[pn j E0];exact e1,e2⟩
    ·rw[if_neg hl,List.getElem?_singleton]at hx;split at hx
     ·rename_i pV
      have:x=rl.length:=E0;subst this;cases hx;exact⟨n,E0,ps,hn⟩
     ·cases hx
theorem XP.lay(h:XP w K C lr):∃rn,NR K rn C/\(∀(i:Nat)(r:Jp),rn[i]?=Gn r->Tn w r.g r.m r.t r.f/\Ar K lr r.g)/\∀(i j:Nat)(r s:Jp),rn[i]?=Gn r->rn[j]?=Gn s->i≠j->r.g≠s.g:=by
 by_cases h0:0<K.k
 ·obtain⟨fq,fs,hx⟩:=h.x h0;obtain⟨rl,p,h1,h2,h3,h4⟩:=zV lr (2*K.k);have ty:∀(x:Nat)(r:Jp),rl[x]?=Gn r->Tn w r.g r.m r.t r.f/\r.t=2/\Ar K lr r.g:=fun x r hr=>by
   obtain⟨j,_,_,e⟩:=h4 x r hr;exact⟨(h.row j r e).1,(h.row j r e).2,.inr ⟨j,r,e,rfl⟩⟩
  have ls:∀j v xs,j<2*K.k->LsW w v xs (lr j)->Xy (Tv K fq::Ft K fs::rl) v xs ((p j).map (·+2)):=fun j v xs hj hl=>by
   rcases h2 j hj with⟨e1,e2⟩|⟨r,x,e1,e2,e3⟩
   ·rw[e1]at hl;rw[e2];rcases hl with⟨_,hl⟩|⟨r',hl,_⟩
    ·exact .inl ⟨rfl,hl⟩
    ·cases hl
   ·rw[e1]at hl;rw[e2];rcases hl with⟨hl,_⟩|⟨r',hl,g1,g2,g3,g4,g5,g6⟩
    ·cases hl
    ·cases hl;exact .inr ⟨x+2,r,rfl,e3,g2,g3,g4,g5,g6⟩
  have qs:K.qb≠K.sb:=Fz hx.q hx.s U0;refine⟨Tv K fq::Ft K fs::rl,fun _=>⟨fq,fs,fun j=>(p j).map (·+2),rfl,rfl,fun i hi=>?_,fun j x hj=>?_,fun j j' x hj kz=>?_⟩,fun i r hr=>?_,fun i j r s hr hs Yp=>?_⟩
  ·have hc:=hx.ch i hi;exact⟨ls _ _ _ E0 hc.wait,ls _ _ _ E0 hc.sent,hc.lost,hc.shown,hc.age,hc.Hu,hc.anew⟩
  ·cases hp:p j with
   |none=>simp[hp]at hj
   |some y=>simp[hp]at hj;omega
  ·cases hp:p j with
   |none=>simp[hp]at hj
   |some y=>
    cases lV:p j' with
    |none=>simp[lV]at kz
    |some y'=>
     simp[hp]at hj;simp[lV]at kz;exact h3 j j' y hp (by rw[lV];congr 1;omega)
  ·match i,hr with
   |0,hr=>cases hr;exact⟨hx.q,.inl ⟨h0,.inl rfl⟩⟩
   |1,hr=>cases hr;exact⟨hx.s,.inl ⟨h0,.inr rfl⟩⟩
   |i+2,hr=>exact⟨(ty i r hr).1,(ty i r hr).2.2⟩
  ·have lq:∀(x:Nat)(r:Jp),rl[x]?=Gn r->K.qb≠r.g/\K.sb≠r.g:=fun x r hr=>by
    obtain⟨a,b,_⟩:=ty x r hr;exact⟨Fz hx.q a (by rw[b];decide),Fz hx.s a (by rw[b];decide)⟩
   match i,j,hr,hs with
   |0,0,_,_=>exact absurd rfl Yp
   |0,1,hr,hs=>cases hr;cases hs;exact qs
   |1,0,hr,hs=>cases hr;cases hs;exact qs.symm
   |1,1,_,_=>exact absurd rfl Yp
   |0,j+2,hr,hs=>cases hr;exact(lq j s hs).1
   |1,j+2,hr,hs=>cases hr;exact(lq j s hs).2
   |i+2,0,hr,hs=>cases hs;exact(lq i r hr).1.symm
   |i+2,1,hr,hs=>cases hs;exact(lq i r hr).2.symm
   |i+2,j+2,hr,hs=>
    obtain⟨a,_,a1,a2⟩:=h4 i r hr;obtain⟨b,_,b1,b2⟩:=h4 j s hs;refine h.ne a b r s a2 b2 fun e=>?_;subst e;rw[a1]at b1;have:=Option.some.inj b1;omega
 ·exact⟨[],fun h=>absurd h h0,fun i r h=>D4,fun i j r s h=>D4⟩
theorem XP.back{rn:List Jp}(hN:NR K rn C)(hr:∀(i:Nat)(r:Jp),rn[i]?=Gn r->Tn w r.g r.m r.t r.f)(Yp:∀(i j:Nat)(r s:Jp),rn[i]?=Gn r->rn[j]?=Gn s->i≠j->r.g≠s.g):∃Oy,XP w K C Oy/\∀b,Ar K Oy b->(0<K.k/\(b=K.qb\/b=K.sb))\/∃(i:Nat)(r:Jp),rn[i]?=Gn r/\r.g=b:=by
 by_cases h0:0<K.k
 ·obtain⟨fq,fs,p,hx⟩:=hN h0;have ty:∀j r,j<2*K.k->(p j).bind (rn[·]?)=Gn r->r.t=2:=fun j r hj e=>by
   have hm:j/2<K.k:=E0;have key:∀v xs,Xy rn v xs (p j)->r.t=2:=fun v xs hl=>by
    rcases hl with⟨e0,_⟩|⟨k,r',e0,e1,e2,_⟩
    ·rw[e0]at e;cases e
    ·rw[e0]at e;have e:rn[k]?=Gn r:=e;rw[e1]at e;cases e;exact e2
   rcases Nat.mod_two_eq_zero_or_one j with e0|e0
   ·have:=(hx.ch _ hm).wait;rw[show 2*(j/2)=j by omega]at this;exact key _ _ this
   ·have:=(hx.ch _ hm).sent;rw[show 2*(j/2)+1=j by omega]at this;exact key _ _ this
  have pos:∀j r,(p j).bind (rn[·]?)=Gn r->∃x,p j=Gn x/\rn[x]?=Gn r:=fun j r e=>by
   cases hp:p j with
   |none=>rw[hp]at e;cases e
   |some x=>rw[hp]at e;exact⟨x,rfl,e⟩
  let Oy:Nat->Option Jp:=fun j=>if j<2*K.k then (p j).bind (rn[·]?)else Hn
  have Rd0:∀j,j<2*K.k->Oy j=(p j).bind (rn[·]?):=fun j hj=>if_pos hj;have KL:∀j r,Oy j=Gn r->j<2*K.k/\(p j).bind (rn[·]?)=Gn r:=fun j r e=>by
   by_cases hj:j<2*K.k
   ·rw[Rd0 j hj]at e;exact⟨hj,e⟩
   ·have:Oy j=none:=if_neg hj;rw[this]at e;cases e
  have lw:∀j v xs,j<2*K.k->Xy rn v xs (p j)->LsW w v xs (Oy j):=fun j v xs hj hl=>by
   rw[Rd0 j hj];rcases hl with⟨e0,e1⟩|⟨k,r',e0,e1,e2⟩
   ·rw[e0];exact .inl ⟨rfl,e1⟩
   ·rw[e0];exact .inr ⟨r',e1,hr k r' e1,e2⟩
  refine⟨Oy,⟨fun j hj=>if_neg E0,fun j j' r r' hj kz hn=>?_,fun j r hj=>?_,fun _=>⟨fq,fs,hr 0 _ hx.q,hr 1 _ hx.s,fun i hi=>?_⟩⟩,fun b hb=>?_⟩
  ·obtain⟨a1,a2⟩:=KL j r hj;obtain⟨b1,b2⟩:=KL j' r' kz;obtain⟨x,x1,x2⟩:=pos j r a2;obtain⟨y,y1,y2⟩:=pos j' r' b2;exact Yp x y r r' x2 y2 fun e=>hn (hx.inj j j' x x1 (by rw[y1,e]))
  ·obtain⟨a1,a2⟩:=KL j r hj;obtain⟨x,x1,x2⟩:=pos j r a2;exact⟨hr x r x2,ty j r a1 a2⟩
  ·have hc:=hx.ch i hi;exact⟨lw _ _ _ E0 hc.wait,lw _ _ _ E0 hc.sent,hc.lost,hc.shown,hc.age,hc.Hu,hc.anew⟩
  ·rcases hb with hb|⟨j,r,hj,rfl⟩
   ·exact .inl hb
   ·obtain⟨a1,a2⟩:=KL j r hj;obtain⟨x,x1,x2⟩:=pos j r a2;exact .inr ⟨x,r,x2,rfl⟩
 ·refine⟨fun _=>Hn,⟨fun _ _=>rfl,fun _ _ _ _ h=>D4,fun _ _ h=>D4,fun h=>absurd h h0⟩,fun b hb=>?_⟩;rcases hb with hb|⟨j,r,hj,_⟩
  ·exact .inl hb
  ·cases hj
end
def Jw(c:Us)(x:Int):Us:=if c.wait.length<4 then {c with wait:=c.wait++[x]}else {c with lost:=IntKind.i64.wrap (c.lost+1)}
def az(c:Us):Us:={c.sent.foldl Jw c with sent:=[]}
def yB(c:Us):Us:=if c.anew=Um then {c with shown:=c.Hu,age:=0,Hu:=0,anew:=Tm}else if c.age=-1 then c else {c with age:=IntKind.i64.wrap (c.age+1)}
theorem c30{c:Us}{x:Int}(h:c.wait.length<=4):(Jw c x).wait.length<=4:=by
 unfold Jw;split
 ·simp;omega
 ·exact h
theorem XU:∀(xs:List Int)(c:Us),c.wait.length<=4->(xs.foldl Jw c).wait.length<=4
 | [],_,h=>h
 |x::xs,c,h=>XU xs (Jw c x) (c30 h)
theorem D70{c:Us}(h:c.wait.length<=4):(az c).wait.length<=4:=XU c.sent c h
def pz(k:Nat)(h:Us->Us)(C:Nat->Us)(i:Nat):Us:=if i<k then h (C i)else C i
theorem bK(h:Us->Us)(C:Nat->Us):pz 0 h C=C:=funext fun i=>if_neg E0
theorem aK(h:Us->Us)(C:Nat->Us)(k:Nat):pz (k+1) h C=uN (pz k h C) k (h (C k)):=funext fun i=>by
 by_cases e:i=k
 ·subst e;rw[qt];exact if_pos E0
 ·rw[Vy _ _ e];unfold pz;by_cases h1:i<k
  ·rw[if_pos E0,if_pos h1]
  ·rw[if_neg E0,if_neg h1]
theorem QF(h:Us->Us)(C:Nat->Us)(k:Nat):pz k h C k=C k:=if_neg E0
def MH(k:Nat)(C:Nat->Us):Nat->Us:=pz k yB (pz k az C)
section
variable {K:Ys}{rn:List Jp}{C:Nat->Us}{fq fs:Nat->Dn}{p:Nat->Option Nat}{i:Nat}
theorem AH.wait(h:AH K rn C fq fs p)(hi:i<K.k){xs:List Int}{v':Dn}{Nw:List Jp}{q:Option Nat}(h0:Nw[0]?=Gn ((Tv K fq).put (i*3) v'))(hl:Xy Nw v' xs q)(hq:q=p (2*i)\/q=Gn rn.length)(hk:∀k,k≠0->p (2*i)≠Gn k->k<rn.length->Nw[k]?=rn[k]?):
  AH K Nw (uN C i {C i with wait:=xs}) (upd fq (i*3) v') fs (fun j=>if j<2*K.k then (if j=2*i then q else p j)else Hn):=by
 have l1:=(List.getElem?_eq_some_iff.1 h.s).1;refine⟨h0,?_,fun j hj=>?_,fun j y hy=>?_,fun j j' y hy XC=>?_⟩
 ·rw[hk 1 E0 (fun e=>by have:=h.two _ _ e;omega) l1];exact h.s
 ·have hc:=h.ch j hj;have yo:=fun{x:Nat}=>h.lt hj (x:=x);have ks:∀{v xs q'} (jj:Nat),q'=p jj->jj≠2*i->(∀y,q'=Gn y->y<rn.length)->Xy rn v xs q'->Xy Nw v xs q':=fun jj e Yp hb hl=>hl.same fun y hy=>hk y (by have:=h.two jj y (e▸hy);omega) (fun e2=>Yp (h.inj jj _ y (e▸hy) e2)) (hb y hy);have a2:=ks (2*j+1) rfl E0 (fun y hy=>yo.2 hy) hc.sent;show ChR Nw _ fs _ j (if 2*j<2*K.k then (if 2*j=2*i then q else p (2*j))else Hn) (if 2*j+1<2*K.k then (if 2*j+1=2*i then q else p (2*j+1))else Hn);rw[if_pos (show 2*j<2*K.k by omega),if_pos (show 2*j+1<2*K.k by omega),if_neg (show ¬2*j+1=2*i by omega)];by_cases gy:j=i
  ·subst gy;rw[qt,if_pos rfl];exact⟨by rw[upd_same];exact hl,D8,y8,hc.shown,hc.age,hc.Hu,hc.anew⟩
  ·rw[Vy _ _ gy,if_neg E0];have a1:=ks (2*j) rfl E0 (fun y hy=>yo.1 hy) hc.wait;exact Ae
 ·change (if j<2*K.k then (if j=2*i then q else p j)else Hn)=Gn y at hy;by_cases hj:j<2*K.k
  ·rw[if_pos hj]at hy;by_cases e:j=2*i
   ·rw[if_pos e]at hy;rcases hq with rfl|rfl
    ·exact h.two _ _ hy
    ·have:=Option.some.inj hy;omega
   ·rw[if_neg e]at hy;exact h.two _ _ hy
  ·exact Uk
 ·change (if j<2*K.k then (if j=2*i then q else p j)else Hn)=Gn y at hy;change (if j'<2*K.k then (if j'=2*i then q else p j')else Hn)=Gn y at XC;have hb:∀m,m<2*K.k->p m=Gn rn.length->False:=fun m hm e=>by
   have hm2:m/2<K.k:=E0;rcases Nat.mod_two_eq_zero_or_one m with e0|e0
   ·have:m=2*(m/2):=by omega
    rw[this]at e;exact absurd ((h.lt hm2).1 e) E0
   ·have:m=2*(m/2)+1:=by omega
    rw[this]at e;exact absurd ((h.lt hm2).2 e) E0
  by_cases hj:j<2*K.k
  ·by_cases kz:j'<2*K.k
   ·rw[if_pos hj]at hy;rw[if_pos kz]at XC;by_cases e:j=2*i
    ·by_cases e':j'=2*i
     ·omega
     ·rw[if_pos e]at hy;rw[if_neg e']at XC;rcases hq with rfl|rfl
      ·exact Zh
      ·cases hy;exact(hb j' kz XC).elim
    ·rw[if_neg e]at hy;by_cases e':j'=2*i
     ·rw[if_pos e']at XC;rcases hq with rfl|rfl
      ·exact Zh
      ·cases XC;exact(hb j hj hy).elim
     ·rw[if_neg e']at XC;exact h.inj _ _ _ hy XC
   ·rw[if_neg kz]at XC;cases XC
  ·exact Uk
theorem AH.clear(h:AH K rn C fq fs p)(hi:i<K.k):AH K (rn.set 0 ((Tv K fq).put (i*3+1) (.slice Hn 0 0))) (uN C i {C i with sent:=[]}) (upd fq (i*3+1) (.slice Hn 0 0)) fs (uN p (2*i+1) Hn):=by
 refine⟨ao h.q _,F8,fun j hj=>?_,fun j y hy=>?_,fun j j' y hy XC=>?_⟩
 ·have hc:=h.ch j hj;have hs:∀{v xs q},Xy rn v xs q->(∀y,q=Gn y->2<=y)->Xy (rn.set 0 ((Tv K fq).put (i*3+1) (.slice Hn 0 0))) v xs q:=fun hl h2=>hl.same fun y hy=>Fo G6 _;refine Il fun a1 a2=>?_;rw[Vy p _ (show 2*j≠2*i+1 by omega)];by_cases gy:j=i
  ·subst gy;rw[qt,qt];exact⟨A8,.inl ⟨rfl,upd_same _ _ _,rfl⟩,y8,hc.shown,hc.age,hc.Hu,hc.anew⟩
  ·rw[Vy _ _ gy,Vy p _ (show 2*j+1≠2*i+1 by omega)];exact Ae
 ·by_cases e:j=2*i+1
  ·subst e;rw[qt]at hy;cases hy
  ·rw[Vy _ _ e]at hy;exact h.two _ _ hy
 ·by_cases e:j=2*i+1
  ·subst e;rw[qt]at hy;cases hy
  ·by_cases e':j'=2*i+1
   ·subst e';rw[qt]at XC;cases XC
   ·rw[Vy _ _ e]at hy;rw[Vy _ _ e']at XC;exact h.inj _ _ _ hy XC
theorem AH.WT(h:AH K rn C fq fs p)(hi:i<K.k){g:Nat->Dn}{c:Us}(hw:c.wait=(C i).wait)(hs:c.sent=(C i).sent)(hl:c.lost=(C i).lost)(h0:g (i*4)=.int .i64 c.shown)(h1:g (i*4+1)=.int .i64 c.age)(h2:g (i*4+2)=.int .i64 c.Hu)(h3:g (i*4+3)=.bool c.anew)(ho:∀j,j/4≠i->g j=fs j):AH K (rn.set 1 (Ft K g)) (uN C i c) fq g p:=by
 refine⟨G8,ao h.s _,fun j hj=>?_,h.two,h.inj⟩;have hc:=h.ch j hj;have ks:∀{v xs q},Xy rn v xs q->(∀y,q=Gn y->2<=y)->Xy (rn.set 1 (Ft K g)) v xs q:=fun hl h2=>hl.same fun y hy=>Fo G6 _;have a1:=ks hc.wait (h.two _);have a2:=ks hc.sent (h.two _);by_cases gy:j=i
 ·subst gy;rw[qt];exact⟨by rw[hw];exact a1,by rw[hs];exact a2,by rw[hl];exact hc.lost,h0,h1,h2,h3⟩
 ·rw[Vy _ _ gy];exact⟨a1,a2,hc.lost,by rw[ho _ E0];exact hc.shown,by rw[ho _ E0];exact hc.age,by rw[ho _ E0];exact hc.Hu,by rw[ho _ E0];exact hc.anew⟩
end
section
variable {P:Ym}{main:Bool}{R R':En->En->Prop}{D D':En->En->Array Event->Prop}{I:En->En->Prop}{Bo:zn->En->Prop}{g:zn}{w:En}
theorem Pn.inv(hI:∀a b c,I a b->I b c->I a c)(hr:∀a b,R' a b->R a b)(hd:∀a b es,D a b es->D' a b es)(i1:∀a b,R' a b->I a b)(i2:∀a b es,D a b es->I a b)(h:Pn P main R D Bo g w):Pn P main R' D' (fun g w'=>Bo g w'/\I w w') g w:=by
 induction h with
 |stop hs h=>exact .stop hs fun w1 h1=>⟨h w1 (hr _ _ h1),i1 _ _ h1⟩
 |step nx hs h1 h2 ih=>exact .step nx hs (fun w1 r=>⟨(h1 w1 (hr _ _ r)).1,hd _ _ _ (h1 w1 (hr _ _ r)).2⟩) fun w1 r=>(ih w1 (hr _ _ r)).mono fun g w' x=>⟨x.1,hI _ _ _ (i1 _ _ r) (hI _ _ _ (i2 _ _ _ (h1 w1 (hr _ _ r)).2) x.2)⟩
theorem Ao.solo{L:Bt}{f:FuncId}{args:Array Dn}{Post:Dn->En->Prop}(h:Ao P Um L.R1 L.D1 f args w Post (fun _ _=>False))(st:∀v w w',Post v w->L.R1 w w'->Post v w'):Ao P Um RS DS f args w (fun v w'=>Post v w'/\w'.heap[L.c]?=w.heap[L.c]?) (fun _ _=>False):=fun cl cs Bo h1 _=>by
 have hg:=h cl cs (fun g w'=>∃v,Post v w'/\g=G (cl.finish v) cs) (fun v w' hp=>.stop rfl fun w1 r=>⟨v,st v _ _ hp r,rfl⟩) (fun _ _ x=>x.elim);refine(hg.inv (I:=fun a b=>b.heap[L.c]?=a.heap[L.c]?) (R':=RS) (D':=DS) (fun a b c x y=>y.trans x) (fun a b r=>by obtain⟨d,rfl⟩:=r;exact .at _ _) (fun a b es d e he=>(d.evs e he).1) (fun a b r=>by obtain⟨d,rfl⟩:=r;rfl) fun a b es d=>d.chan).bind (fun w=>⟨w.drawn,rfl⟩) fun g' w' ⟨⟨v,hp,e⟩,hc⟩=>?_;rw[e];exact h1 v w' ⟨hp,hc⟩
end
noncomputable def s90:Code:=match Tryz.f58.body with
 |some (.seq (.seq _ (.block _ (.loop c))) _)=>c
 |_=>.skip
noncomputable def t90:Code:=match Tryz.f58.body with
 |some (.seq _ c)=>c
 |_=>.skip
section
variable {L:Bt}{w0:En}{K:Ys}{i:Nat}
theorem Xy.at{rows:List Jp}{v:Dn}{xs:List Int}{p:Option Nat}(h:Xy rows v xs p){j:Nat}(hj:j<xs.length):∃(k:Nat)(r:Jp),rows[k]?=Gn r/\v=Value.slice (Gn ⟨r.g,0,Hn⟩) xs.length r.m/\j<r.m/\r.f j=.int .i64 (xs.getD j 0):=by
 rcases h with⟨_,_,h⟩|⟨k,r,_,h1,_,h2,h3,_,h4⟩
 ·rw[h]at hj;simp at hj
 ·exact⟨k,r,h1,h2,E0,h4 j hj⟩
theorem d30(Et:((2:Nat)==L.ev)=Tm)(xy:i<K.k)(bN:K.k*3<=K.qm){xs:List Int}(hn:xs.length<=1000000000)(sa:Option Vm)(sc:Nat){Bo:zn->En->Prop}(cs:List Xm)(Cf:Nat->Us)
  (tt:∀(rn:List Jp)(fq fs:Nat->Dn)(p:Nat->Option Nat)(C:Nat->Us)(w':En)(u1 u2 u3 DF EF RD SD jC kC oC qC tC uC vC lD rB uB vB xB lA mA nA pA QB TB UB VB WB mD II JI KI LI:Dn),AH K rn C fq fs p->uN C i {C i with sent:=[]}=Cf->ko L w0 rn [] w'->Pn prog Um L.R1 L.D1 Bo (G ((base 58).at {tmps:=#[.pointer (Gn ⟨K.qb,i*3,Hn⟩),u1,u2,u3,.pointer (Gn ⟨K.qb,i*3,Hn⟩),.pointer (Gn ⟨K.qb,i*3,Hn⟩),.pointer (Gn ⟨K.qb,i*3+1,Hn⟩),.slice sa xs.length sc,.int .i64 xs.length,.int .i64 xs.length,DF,EF,RD,SD,jC,kC,oC,qC,tC,uC,vC,lD,rB,uB,vB,xB,lA,mA,nA,pA,QB,TB,UB,VB,WB,mD,II,JI,KI,LI],defers:=[]} [.code t90]) cs) w'):
  ∀(ez j:Nat)(rn:List Jp)(fq fs:Nat->Dn)(p:Nat->Option Nat)(C:Nat->Us)(w:En)(u1 u2 u3 DF EF RD SD jC kC oC qC tC uC vC lD rB uB vB xB lA mA nA pA QB TB UB VB WB mD II JI KI LI:Dn),j+ez=xs.length->AH K rn C fq fs p->(C i).sent=xs->fq (i*3+1)=.slice sa xs.length sc->(C i).wait.length<=4->uN C i {(xs.drop j).foldl Jw (C i)with sent:=[]}=Cf->ko L w0 rn [] w->
   Pn prog Um L.R1 L.D1 Bo (G ((base 58).at {tmps:=#[.pointer (Gn ⟨K.qb,i*3,Hn⟩),u1,u2,u3,.pointer (Gn ⟨K.qb,i*3,Hn⟩),.pointer (Gn ⟨K.qb,i*3,Hn⟩),.pointer (Gn ⟨K.qb,i*3+1,Hn⟩),.slice sa xs.length sc,.int .i64 xs.length,.int .i64 j,DF,EF,RD,SD,jC,kC,oC,qC,tC,uC,vC,lD,rB,uB,vB,xB,lA,mA,nA,pA,QB,TB,UB,VB,WB,mD,II,JI,KI,LI],defers:=[]} [.code s90,.inLoop s90,.inBlock 0,.code t90]) cs) w:=by
 have hk:(base 58).kind≠.early:=J1;intro ez;induction ez with
 |zero=>
  intro j rn fq fs p C w u1 u2 u3 DF EF RD SD jC kC oC qC tC uC vC lD rB uB vB xB lA mA nA pA QB TB UB VB WB mD II JI KI LI hj hx hs hsv hwl fS hF;obtain rfl:j=xs.length:=E0;refine bj ?_;refine je ?_;refine tt rn fq fs p C _ _ _ _ _ _ _ _ _ _ _ _ _ _ _ _ _ _ _ _ _ _ _ _ _ _ _ _ _ _ _ _ _ _ hx ?_ hF;rw[<-fS,List.drop_length];rfl
 |succ ez ih=>
  intro j rn fq fs p C w u1 u2 u3 DF EF RD SD jC kC oC qC tC uC vC lD rB uB vB xB lA mA nA pA QB TB UB VB WB mD II JI KI LI hj hx hs hsv hwl fS hF;have yo:j<xs.length:=E0;have lG:(j:Int)<(xs.length:Int):=E0;have hwr:IntKind.i64.wrap ((j:Int)+1)=((j+1:Nat):Int):=by rw[IntKind.wrap_i64];omega
  have hc:=hx.ch i xy;have Ad0:xs.drop j=xs.getD j 0::xs.drop (j+1):=by rw[List.drop_eq_getElem_cons yo];simp[yo]
  rw[Ad0,List.foldl_cons]at fS;have C80:=hc.sent;rw[hs]at C80;obtain⟨ks,r2,s1,s2,s3,s4⟩:=C80.at yo;rw[hsv]at s2;injection s2 with sa1 _ sc1
  subst sa1;subst sc1;clear Ad0 C80;generalize xs.getD j 0=x at s4 fS;obtain⟨wa,wn,wc,hwv⟩:=hc.wait.slice;have nQ:wn=(C i).wait.length:=by
   rcases hc.wait with⟨_,e1,e2⟩|⟨_,_,_,_,_,e1,_⟩
   ·rw[hwv]at e1;injection e1 with _ e1 _;rw[e2];exact e1
   ·rw[hwv]at e1;injection e1 with _ e1 _
  subst nQ;refine bj ?_;refine Pn.vr L.Nn s7 ?_;refine J9 ?_;refine La ?_;refine N9 fun w1 K_ hK hF=>?_;refine vm ?_ ?_
  ·exact Uh
  clear hK K_;refine um ?_;refine N9 fun w1 K_ hK hF=>?_;have mH:World.cell? _ ⟨r2.g,j,Hn⟩=Gn (.int .i64 x):=(hF.cell s1 s3).trans (by rw[s4]);refine vm ?_ ?_
  ·refine hF.looks s1 ?_;exact T9
  clear hK K_;clear mH;refine um ?_;refine qj ?_;refine Ha ?_;refine xj fun w1 K_ hK hF=>?_;refine ai fun mH=>?_;refine vm ?_ ?_
  ·exact yj
  clear hK K_;clear mH;refine um ?_;refine uj ?_;by_cases bI:(C i).wait.length<4
  ·skip;have hpq:Jw (C i) x={C i with wait:=(C i).wait++[x]}:=by unfold Jw;rw[if_pos bI]
   have hde:decide (((C i).wait.length:Int)<4)=true:=by simp;omega
   refine Pn.vr L.Nn H6 ?_;refine J9 ?_;refine .Un L.Nn [0,1,2,3,4,5,6,7,8,9,10] I0 ?_;refine Ja ?_;refine N9 fun w1 K_ hK hF=>?_;refine ai fun mH=>?_;refine vm ?_ ?_
   ·exact yj
   clear hK K_;clear mH;refine um ?_;refine M9 ?_;refine N9 fun w1 K_ hK hF=>?_;refine vm ?_ ?_
   ·exact sj
   clear hK K_;have hN:=hF.alloc #[.int .i64 x] 2 (fun _=>.int .i64 x) Et (fun j hj=>by
    have:j=0:=E2;subst this;rfl)
   replace hF:ko L w0 rn [⟨w1.heap.size,1,2,fun _=>.int .i64 x⟩] _:=hN;clear hN;generalize hB:w1.heap.size=B at *;generalize hW:(w1.alloc (.cells #[.int .i64 x] 2))=w3 at *;clear hW hB w1;refine um ?_;have hl:=hc.wait;rw[hwv]at hl;have hp:p (2*i)≠Gn 0:=fun e=>by have:=hx.two _ _ e;omega
   have hn4:(C i).wait.length<=1000000000:=E0;refine N9 fun w1 K_ hK hF=>?_;have hS:(rn++[(⟨B,1,2,fun _=>.int .i64 x⟩:Jp)])[rn.length]?=Gn ⟨B,1,2,fun _=>.int .i64 x⟩:=ux _;obtain⟨v',Iq,p',w',JA,hK',hL',hT',WR,TM⟩:=Kn.appended hF Et (hl.app _) hS hn4 51;refine uponK_append (.tmp 23) (.tmp 25) 51 rfl rfl rfl JA (hK _ _ ⟨Kn.cM hF (hl.app _) hS hn4 hT' WR (.tmp 23) (.tmp 25) rfl rfl rfl,?_⟩);clear hK K_ JA hT' WR;obtain⟨rows2,p2,hK2,lO,hL2,sX,gP,hpp,hpi⟩:=sG hx.q hp hl hK' hL' TM;obtain⟨va,vn,vc,rfl⟩:=hL'.slice;clear hK' hL' TM hF hS;have hF:=hK2;clear hK2;refine um ?_;refine W9 ?_;refine N9 fun w1 K_ hK hF=>?_;have zu:World.frozen? _ ⟨K.qb,i*3,Hn⟩=false:=hF.frozen (r:=Tv K fq) lO (i*3);have mH:World.cell? _ ⟨K.qb,i*3,Hn⟩=Gn _:=hF.cell (r:=Tv K fq) lO (j:=i*3) y5;refine vm ?_ ?_
   ·refine hF.does (r:=Tv K fq) lO (i*3) _ ?_;exact Yb
   clear hK K_;clear zu mH;replace hF:=hF.set (r:=Tv K fq) lO (i*3) (.slice va vn vc);refine um ?_;have hL3:Xy (rows2.set 0 ((Tv K fq).put (i*3) (.slice va vn vc))) (.slice va vn vc) ((C i).wait++[x]) p2:=hL2.same fun y hy=>Fo (fun e=>hpi (by rw[hy,e])) _;have mF:=hx.wait (i:=i) xy (ao lO _) hL3 hpp fun k h1 h2 h3=>by rw[Fo h1];exact gP k h2 h3
   replace hF:=hF.lay;refine gj ?_;refine Dk ?_ ?_ ?_
   ·rw[qt];exact hs
   ·rw[qt];show ((C i).wait++[x]).length<=4;simp;omega
   ·rw[<-fS,qt,hpq];funext m;unfold uN;split<;>rfl
  ·skip;have hpq:Jw (C i) x={C i with lost:=IntKind.i64.wrap ((C i).lost+1)}:=by unfold Jw;rw[if_neg bI]
   have hde:decide (((C i).wait.length:Int)<4)=false:=by simp;omega
   refine Pn.Zq L.Nn H6 ?_;refine J9 ?_;refine zd ?_;refine xj fun w1 K_ hK hF=>?_;have mH:World.cell? _ ⟨K.qb,i*3+2,Hn⟩=Gn (.int .i64 (C i).lost):=(ko.cell (r:=Tv K fq) hF hx.q (j:=i*3+2) y5).trans (congrArg Gn hc.lost);refine vm ?_ ?_
   ·exact yj
   clear hK K_;clear mH;refine um ?_;refine xj fun w1 K_ hK hF=>?_;have zu:World.frozen? _ ⟨K.qb,i*3+2,Hn⟩=false:=ko.frozen (r:=Tv K fq) hF hx.q (i*3+2);have mH:World.cell? _ ⟨K.qb,i*3+2,Hn⟩=Gn _:=ko.cell (r:=Tv K fq) hF hx.q (j:=i*3+2) y5;refine vm ?_ ?_
   ·refine ko.does (r:=Tv K fq) hF hx.q (i*3+2) _ ?_;exact yd
   clear hK K_;clear zu mH;replace hF:=(Kn.set (r:=Tv K fq) hF.drop hx.q (i*3+2) (.int .i64 (IntKind.i64.wrap ((C i).lost+1)))).lay;refine um ?_;have mF:=hx.B00 (i:=i) xy (IntKind.i64.wrap ((C i).lost+1));refine gj ?_;refine Dk ?_ ?_ ?_
   ·rw[qt];exact hs
   ·rw[qt];exact hwl
   ·rw[<-fS,qt,hpq];funext m;unfold uN;split<;>rfl
theorem yg0{rn:List Jp}{C:Nat->Us}(Et:((2:Nat)==L.ev)=Tm)(xy:i<K.k)(bN:K.k*3<=K.qm)(hN:NR K rn C)(hn:(C i).sent.length<=1000000000)(hwl:(C i).wait.length<=4)(w:En)(hF:Kn L w0 rn w):
  Ao prog Um L.R1 L.D1 58 #[.pointer (Gn ⟨K.qb,i*3,Hn⟩)] w (fun v w'=>v=.tuple #[]/\∃Nw,NR K Nw (uN C i (az (C i)))/\Kn L w0 Nw w') (fun _ _=>False):=by
 obtain⟨fq,fs,p,hx⟩:=hN E0;replace hF:=hF.lay;have hc:=hx.ch i xy;obtain⟨sa,sn,sc,hsv⟩:=hc.sent.slice;have hsn:sn=(C i).sent.length:=by
  rcases hc.sent with⟨_,e1,e2⟩|⟨_,_,_,_,_,e1,_⟩
  ·rw[hsv]at e1;injection e1 with _ e1 _;rw[e2];exact e1
  ·rw[hsv]at e1;injection e1 with _ e1 _
 subst hsn;have hk:(base 58).kind≠.early:=J1;refine Ao.intro L.Nn #[.pointer (Gn ⟨K.qb,i*3,Hn⟩),Bn,Bn,Bn,Bn,Bn,Bn,Bn,Bn,Bn,Bn,Bn,Bn,Bn,Bn,Bn,Bn,Bn,Bn,Bn,Bn,Bn,Bn,Bn,Bn,Bn,Bn,Bn,Bn,Bn,Bn,Bn,Bn,Bn,Bn,Bn,Bn,Bn,Bn,Bn] func58 rfl J0 fun cl cs Bo tt _=>?_;refine km ?_;refine xj fun w1 K_ hK hF=>?_;have mH:World.cell? _ ⟨K.qb,i*3+1,Hn⟩=Gn (.slice sa (C i).sent.length sc):=(ko.cell (r:=Tv K fq) hF hx.q (j:=i*3+1) y5).trans (congrArg Gn hsv);refine vm ?_ ?_
 ·exact yj
 clear hK K_;clear mH;refine um ?_;refine uj ?_;refine Di ?_;refine d30 Et xy bN hn sa sc _ (uN C i (az (C i))) (fun rn fq fs p C' w' u1 u2 u3 DF EF RD SD jC kC oC qC tC uC vC lD rB uB vB xB lA mA nA pA QB TB UB VB WB mD II JI KI LI hx fS hF=>?_) (C i).sent.length 0 rn fq fs p C _ _ _ _ _ _ _ _ _ _ _ _ _ _ _ _ _ _ _ _ _ _ _ _ _ _ _ _ _ _ _ _ _ _ E0 hx rfl hsv hwl rfl hF;refine um ?_;refine J9 ?_;refine Ec ?_;refine xj fun w1 K_ hK hF=>?_;have zu:World.frozen? _ ⟨K.qb,i*3+1,Hn⟩=false:=ko.frozen (r:=Tv K fq) hF hx.q (i*3+1);have mH:World.cell? _ ⟨K.qb,i*3+1,Hn⟩=Gn _:=ko.cell (r:=Tv K fq) hF hx.q (j:=i*3+1) y5;refine vm ?_ ?_
 ·refine ko.does (r:=Tv K fq) hF hx.q (i*3+1) _ ?_;exact Yb
 clear hK K_;clear zu mH;replace hF:=Kn.set (r:=Tv K fq) hF.drop hx.q (i*3+1) (.slice Hn 0 0);refine um ?_;refine Aj ?_;have mF:=hx.clear (i:=i) xy;rw[fS]at mF;exact tt _ [] _ _ rfl (Ep L.Nn I0 _) ⟨rfl,_,fun _=>⟨_,_,_,mF⟩,hF⟩
end
section
variable {L:Bt}{w0:En}{K:Ys}{i:Nat}
theorem Kn.AB{rows:List Jp}{w:En}{r:Jp}{ir o:Nat}(h:Kn L w0 rows w)(hr:rows[ir]?=Gn r)(a b c d:Dn):
  Kn L w0 (rows.set ir {r with f:=upd (upd (upd (upd r.f o a) (o+1) b) (o+2) c) (o+3) d}) ((((w.setCell ⟨r.g,o,Hn⟩ a).setCell ⟨r.g,o+1,Hn⟩ b).setCell ⟨r.g,o+2,Hn⟩ c).setCell ⟨r.g,o+3,Hn⟩ d)/\∀{es:Array Event},(∀e∈es,∃j wr,e=⟨.cell ⟨r.g,j,Hn⟩,wr,Tm⟩)->L.D1 w ((((w.setCell ⟨r.g,o,Hn⟩ a).setCell ⟨r.g,o+1,Hn⟩ b).setCell ⟨r.g,o+2,Hn⟩ c).setCell ⟨r.g,o+3,Hn⟩ d) es:=by
 have s0:=h.set hr o a;have k0:=ao hr (r.put o a);have s1:=s0.set k0 (o+1) b;have k1:=ao k0 ((r.put o a).put (o+1) b);have s2:=s1.set k1 (o+2) c;have k2:=ao k1 (((r.put o a).put (o+1) b).put (o+2) c);have s3:=s2.set k2 (o+3) d;simp only[List.set_set]at s3;refine⟨s3,fun Eu=>Kn.DR h hr ?_ ?_ Eu⟩
 ·exact(((Kn.Ss h hr o _).trans (Kn.Ss s0 k0 (o+1) _)).trans (Kn.Ss s1 k1 (o+2) _)).trans (Kn.Ss s2 k2 (o+3) _)
 ·exact(Kn.Yx s2 k2 (o+3) _).trans ((Kn.Yx s1 k1 (o+2) _).trans ((Kn.Yx s0 k0 (o+1) _).trans (Kn.Yx h hr o _)))
theorem SZ{rn:List Jp}{C:Nat->Us}(xy:i<K.k)(rU:K.k*4<=K.sm)(hN:NR K rn C)(w:En)(hF:Kn L w0 rn w):
  Ao prog Um L.R1 L.D1 59 #[.pointer (Gn ⟨K.sb,i*4,Hn⟩)] w (fun v w'=>v=.tuple #[]/\∃Nw,NR K Nw (uN C i (yB (C i)))/\Kn L w0 Nw w') (fun _ _=>False):=by
 obtain⟨fq,fs,p,hx⟩:=hN E0;replace hF:=hF.lay;have hc:=hx.ch i xy;have hk:(base 59).kind≠.early:=J1;refine Ao.intro L.Nn #[.pointer (Gn ⟨K.sb,i*4,Hn⟩),Bn,Bn,Bn,Bn,Bn,Bn,Bn,Bn,Bn,Bn,Bn,Bn,Bn,Bn,Bn,Bn,Bn,Bn,Bn,Bn,Bn,Bn,Bn,Bn,Bn,Bn] func59 rfl J0 fun cl cs Bo tt _=>?_;refine J9 ?_;refine og ?_;refine xj fun w1 K_ hK hF=>?_;refine Ni fun hc3=>?_;refine vm ?_ ?_
 ·exact wj
 clear hK K_;clear hc3;refine um ?_;refine qj ?_;cases han:(C i).anew
 ·skip;refine Pn.Zq L.Nn (by first|rfl|simp[Act.eval,han]) ?_;refine km ?_;refine xj fun w1 K_ hK hF=>?_;refine Jb fun QM=>?_;refine vm ?_ ?_
  ·exact wj
  clear hK K_;clear QM;refine um ?_;refine uj ?_;by_cases hag:(C i).age=-1
  ·skip;refine Pn.Zq L.Nn (by first|rfl|simp[Act.eval,hag]) ?_;refine Aj ?_;have e:yB (C i)=C i:=by unfold yB;rw[if_neg (by rw[han];simp),if_pos hag]
   refine tt _ [] _ _ rfl (Ep L.Nn I0 _) ⟨rfl,rn,fun _=>⟨fq,fs,p,?_⟩,hF.drop⟩;rw[e,show uN C i (C i)=C from funext fun m=>by unfold uN;split<;>simp[*]];exact hx
  ·skip;refine Pn.vr L.Nn (by first|rfl|simp[Act.eval,hag]) ?_;refine J9 ?_;refine zd ?_;refine xj fun w1 K_ hK hF=>?_;refine Jb fun QM=>?_;refine vm ?_ ?_
   ·exact wj
   clear hK K_;clear QM;refine um ?_;refine xj fun w1 K_ hK hF=>?_;refine Jb fun QM=>?_;have lP:World.frozen? _ ⟨K.sb,i*4+1,Hn⟩=false:=ko.frozen (r:=Ft K fs) hF hx.s (i*4+1);refine vm ?_ ?_
   ·refine ko.does (r:=Ft K fs) hF hx.s (i*4+1) _ ?_;exact yd
   clear hK K_;clear QM lP;replace hF:=Kn.set (r:=Ft K fs) hF.drop hx.s (i*4+1) (.int .i64 (IntKind.i64.wrap ((C i).age+1)));refine um ?_;refine Aj ?_;have e:yB (C i)={C i with age:=IntKind.i64.wrap ((C i).age+1)}:=by unfold yB;rw[if_neg (by rw[han];simp),if_neg hag]
   refine tt _ [] _ _ rfl (Ep L.Nn I0 _) ⟨rfl,_,fun _=>⟨fq,upd fs (i*4+1) (.int .i64 (IntKind.i64.wrap ((C i).age+1))),p,?_⟩,hF⟩;rw[e];exact hx.WT (g:=upd fs (i*4+1) (.int .i64 (IntKind.i64.wrap ((C i).age+1)))) xy rfl rfl rfl ((upd_ne _ _ E0).trans hc.shown) (upd_same _ _ _) ((upd_ne _ _ E0).trans hc.Hu) ((upd_ne _ _ E0).trans hc.anew) fun j hj=>upd_ne _ _ E0
 ·skip;refine Pn.vr L.Nn (by first|rfl|simp[Act.eval,han]) ?_;refine J9 ?_;refine zd ?_;refine Ja ?_;refine N9 fun w1 K_ hK hF=>?_;refine di fun mH=>?_;refine vm ?_ ?_
  ·exact wj
  clear hK K_;clear mH;refine um ?_;refine W9 ?_;refine N9 fun w1 K_ hK hF=>?_;have pU:World.cell? _ ⟨K.sb,i*4,Hn⟩=Gn (.int .i64 (C i).shown):=(ko.cell (r:=Ft K fs) hF hx.s (j:=i*4) J4).trans (congrArg Gn hc.shown);refine Jb fun QM=>?_;refine di fun mH=>?_;refine Ni fun hc3=>?_;have hz0:World.frozen? _ ⟨K.sb,i*4,Hn⟩=false:=ko.frozen (r:=Ft K fs) hF hx.s (i*4);have lP:World.frozen? _ ⟨K.sb,i*4+1,Hn⟩=false:=ko.frozen (r:=Ft K fs) hF hx.s (i*4+1);have zu:World.frozen? _ ⟨K.sb,i*4+2,Hn⟩=false:=ko.frozen (r:=Ft K fs) hF hx.s (i*4+2);have JL:World.frozen? _ ⟨K.sb,i*4+3,Hn⟩=false:=ko.frozen (r:=Ft K fs) hF hx.s (i*4+3);refine vm ?_ ?_
  ·refine(Kn.AB (r:=Ft K fs) (o:=i*4) hF.drop hx.s (.int .i64 (C i).Hu) (.int .i64 0) (.int .i64 0) (.bool Tm)).2 ?_;(intro e he;have hm:=mem_listed he;simp[go_sem,F70, *]at hm;rcases hm with rfl|rfl|rfl|rfl<;>exact⟨_,_,rfl⟩)
  clear hK K_;clear pU QM mH hc3 hz0 lP zu JL;replace hF:=(Kn.AB (r:=Ft K fs) (o:=i*4) hF.drop hx.s (.int .i64 (C i).Hu) (.int .i64 0) (.int .i64 0) (.bool Tm)).1;refine um ?_;refine Aj ?_;have e:yB (C i)={C i with shown:=(C i).Hu,age:=0,Hu:=0,anew:=Tm}:=by unfold yB;rw[if_pos han]
  refine tt _ [] _ _ rfl (Ep L.Nn I0 _) ⟨rfl,_,fun _=>⟨fq,upd (upd (upd (upd fs (i*4) (.int .i64 (C i).Hu)) (i*4+1) (.int .i64 0)) (i*4+2) (.int .i64 0)) (i*4+3) (.bool Tm),p,?_⟩,hF⟩;rw[e];refine hx.WT xy rfl rfl rfl ?_ ?_ ?_ ?_ fun j hj=>?_
  ·show upd (upd (upd (upd fs (i*4) _) (i*4+1) _) (i*4+2) _) (i*4+3) _ (i*4)=_;rw[upd_ne _ _ E0,upd_ne _ _ E0,upd_ne _ _ E0,upd_same]
  ·show upd (upd (upd (upd fs (i*4) _) (i*4+1) _) (i*4+2) _) (i*4+3) _ (i*4+1)=_;rw[upd_ne _ _ E0,upd_ne _ _ E0,upd_same]
  ·show upd (upd (upd (upd fs (i*4) _) (i*4+1) _) (i*4+2) _) (i*4+3) _ (i*4+2)=_;rw[upd_ne _ _ E0,upd_same]
  ·show upd (upd (upd (upd fs (i*4) _) (i*4+1) _) (i*4+2) _) (i*4+3) _ (i*4+3)=_;rw[upd_same]
  ·show upd (upd (upd (upd fs (i*4) _) (i*4+1) _) (i*4+2) _) (i*4+3) _ j=_;rw[upd_ne _ _ E0,upd_ne _ _ E0,upd_ne _ _ E0,upd_ne _ _ E0]
end
noncomputable def M_:Code:=match Tryz.f32.body with
 |some (.seq (.seq _ (.block _ (.loop c))) _)=>c
 |_=>.skip
noncomputable def y70:Code:=match Tryz.f32.body with
 |some (.seq _ c)=>c
 |_=>.skip
noncomputable def N_:Code:=match Tryz.f32.body with
 |some (.seq _ (.seq _ (.block _ (.loop c))))=>c
 |_=>.skip
section
variable {L:Bt}{w0:En}{K:Ys}{cq eY:Nat}
theorem A70(Et:((2:Nat)==L.ev)=Tm)(hW:UK L w0 K)(TC:0<K.k)(n1:w0.cell? ⟨K.nb,1,Hn⟩=Gn (.slice (Gn ⟨K.qb,0,Hn⟩) K.k cq)){C:Nat->Us}(hl:∀i,i<K.k->(C i).sent.length<=1000000000/\(C i).wait.length<=4){Bo:zn->En->Prop}(cs:List Xm)
  (tt:∀(rn:List Jp)(w':En)(u1 u2 u3 DF EF RD SD jC kC oC qC tC uC vC lD rB uB vB xB lA mA nA pA QB TB UB VB WB mD:Dn),NR K rn (pz K.k az C)->ko L w0 rn [] w'->Pn prog Um L.R1 L.D1 Bo (G ((base 32).at {tmps:=#[.pointer (Gn ⟨K.nb,0,Hn⟩),u1,u2,u3,.pointer (Gn ⟨K.nb,0,Hn⟩),.pointer (Gn ⟨K.nb,0,Hn⟩),.pointer (Gn ⟨K.nb,1,Hn⟩),.slice (Gn ⟨K.qb,0,Hn⟩) K.k cq,.int .i64 K.k,.int .i64 K.k,DF,EF,RD,SD,jC,kC,oC,qC,tC,uC,vC,lD,rB,uB,vB,xB,lA,mA,nA,pA,QB,TB,UB,VB,WB,mD],defers:=[]} [.code y70]) cs) w'):
  ∀(ez i:Nat)(rn:List Jp)(w:En)(u1 u2 u3 DF EF RD SD jC kC oC qC tC uC vC lD rB uB vB xB lA mA nA pA QB TB UB VB WB mD:Dn),i+ez=K.k->NR K rn (pz i az C)->ko L w0 rn [] w->
   Pn prog Um L.R1 L.D1 Bo (G ((base 32).at {tmps:=#[.pointer (Gn ⟨K.nb,0,Hn⟩),u1,u2,u3,.pointer (Gn ⟨K.nb,0,Hn⟩),.pointer (Gn ⟨K.nb,0,Hn⟩),.pointer (Gn ⟨K.nb,1,Hn⟩),.slice (Gn ⟨K.qb,0,Hn⟩) K.k cq,.int .i64 K.k,.int .i64 i,DF,EF,RD,SD,jC,kC,oC,qC,tC,uC,vC,lD,rB,uB,vB,xB,lA,mA,nA,pA,QB,TB,UB,VB,WB,mD],defers:=[]} [.code M_,.inLoop M_,.inBlock 0,.code y70]) cs) w:=by
 have hk:(base 32).kind≠.early:=J1;have hk8:=hW.hk;intro ez;induction ez with
 |zero=>
  intro i rn w u1 u2 u3 DF EF RD SD jC kC oC qC tC uC vC lD rB uB vB xB lA mA nA pA QB TB UB VB WB mD hi hN hF;obtain rfl:i=K.k:=E0;refine bj ?_;refine je ?_;exact tt rn _ _ _ _ _ _ _ _ _ _ _ _ _ _ _ _ _ _ _ _ _ _ _ _ _ _ _ _ _ _ hN hF
 |succ ez ih=>
  intro i rn w u1 u2 u3 DF EF RD SD jC kC oC qC tC uC vC lD rB uB vB xB lA mA nA pA QB TB UB VB WB mD hi hN hF;have yo:i<K.k:=E0;have lG:(i:Int)<(K.k:Int):=E0;have hwr:IntKind.i64.wrap ((i:Int)+1)=((i+1:Nat):Int):=by rw[IntKind.wrap_i64];omega
  refine bj ?_;refine Pn.vr L.Nn s7 ?_;refine gj ?_;refine Xa ?_;refine xj fun w1 K_ hK hF=>?_;have mG:World.cell? _ ⟨K.nb,1,Hn⟩=Gn (.slice (Gn ⟨K.qb,0,Hn⟩) K.k cq):=(hF.Xo hW.sn).trans n1;refine vm ?_ ?_
  ·exact Gj
  clear hK K_;clear mG;refine um ?_;refine M9 ?_;refine N9 fun w1 K_ hK hF=>?_;refine vm ?_ ?_
  ·exact Uh
  clear hK K_;refine um ?_;refine Pn.bB L.Nn rfl I0 hk rfl func58 I0 rfl #[.pointer (Gn ⟨K.qb,i*3,Hn⟩)] J0 (yg0 Et yo hW.bN hN (by rw[QF];exact(hl i yo).1) (by rw[QF];exact(hl i yo).2) _ hF.drop) ?_ S8;rintro v w2 ⟨rfl,rn2,hN2,Gs⟩;rw[QF,<-aK]at hN2;replace hF:=Gs.lay;clear Gs;refine um ?_;refine gj ?_;refine Ug ?_;exact ih (i+1) rn2 _ _ _ _ _ _ _ _ _ _ _ _ _ _ _ _ _ _ _ _ _ _ _ _ _ _ _ _ _ _ E0 hN2 hF
theorem B70(hW:UK L w0 K)(TC:0<K.k)(n2:w0.cell? ⟨K.nb,2,Hn⟩=Gn (.slice (Gn ⟨K.sb,0,Hn⟩) K.k eY)){C:Nat->Us}{Bo:zn->En->Prop}(cs:List Xm)
  (tt:∀(a:Act)(todo:List Item)(w':En)(v:Dn),a.defers=[]->yw prog L.R1 L.D1 32 Tryz.f32 a.tmps w' v->(v=.tuple #[]/\∃Nw,NR K Nw (pz K.k yB C)/\Kn L w0 Nw w')->Pn prog Um L.R1 L.D1 Bo (G {(base 32).at a todo with mode:=.returning} cs) w'):
  ∀(ez i:Nat)(rn:List Jp)(w:En)(u1 u2 u3 u4 u5 u6 u7 u8 u9 DF EF RD SD jC kC oC qC tC uC lA mA nA pA QB TB UB VB WB mD:Dn),i+ez=K.k->NR K rn (pz i yB C)->ko L w0 rn [] w->
   Pn prog Um L.R1 L.D1 Bo (G ((base 32).at {tmps:=#[.pointer (Gn ⟨K.nb,0,Hn⟩),u1,u2,u3,u4,u5,u6,u7,u8,u9,DF,EF,RD,SD,jC,kC,oC,qC,tC,uC,.pointer (Gn ⟨K.nb,0,Hn⟩),.pointer (Gn ⟨K.nb,0,Hn⟩),.pointer (Gn ⟨K.nb,2,Hn⟩),.slice (Gn ⟨K.sb,0,Hn⟩) K.k eY,.int .i64 K.k,.int .i64 i,lA,mA,nA,pA,QB,TB,UB,VB,WB,mD],defers:=[]} [.code N_,.inLoop N_,.inBlock 2]) cs) w:=by
 have hk:(base 32).kind≠.early:=J1;have hk8:=hW.hk;intro ez;induction ez with
 |zero=>
  intro i rn w u1 u2 u3 u4 u5 u6 u7 u8 u9 DF EF RD SD jC kC oC qC tC uC lA mA nA pA QB TB UB VB WB mD hi hN hF;obtain rfl:i=K.k:=E0;refine bj ?_;refine je ?_;refine Aj ?_;exact tt _ [] _ _ rfl (Ep L.Nn I0 _) ⟨rfl,rn,hN,hF.drop⟩
 |succ ez ih=>
  intro i rn w u1 u2 u3 u4 u5 u6 u7 u8 u9 DF EF RD SD jC kC oC qC tC uC lA mA nA pA QB TB UB VB WB mD hi hN hF;have yo:i<K.k:=E0;have lG:(i:Int)<(K.k:Int):=E0;have hwr:IntKind.i64.wrap ((i:Int)+1)=((i+1:Nat):Int):=by rw[IntKind.wrap_i64];omega
  refine bj ?_;refine Pn.vr L.Nn s7 ?_;refine gj ?_;refine Xa ?_;refine xj fun w1 K_ hK hF=>?_;have hn2:World.cell? _ ⟨K.nb,2,Hn⟩=Gn (.slice (Gn ⟨K.sb,0,Hn⟩) K.k eY):=(hF.Xo hW.sn).trans n2;refine vm ?_ ?_
  ·exact Gj
  clear hK K_;clear hn2;refine um ?_;refine M9 ?_;refine N9 fun w1 K_ hK hF=>?_;refine vm ?_ ?_
  ·exact Uh
  clear hK K_;refine um ?_;refine Pn.bB L.Nn rfl I0 hk rfl func59 I0 rfl #[.pointer (Gn ⟨K.sb,i*4,Hn⟩)] J0 (SZ yo hW.rU hN _ hF.drop) ?_ S8;rintro v w2 ⟨rfl,rn2,hN2,Gs⟩;rw[QF,<-aK]at hN2;replace hF:=Gs.lay;clear Gs;refine um ?_;refine gj ?_;refine Ug ?_;exact ih (i+1) rn2 _ _ _ _ _ _ _ _ _ _ _ _ _ _ _ _ _ _ _ _ _ _ _ _ _ _ _ _ _ _ E0 hN2 hF
theorem iY(Et:((2:Nat)==L.ev)=Tm)(hW:UK L w0 K)(TC:0<K.k){rn:List Jp}{C:Nat->Us}(hl:∀i,i<K.k->(C i).sent.length<=1000000000/\(C i).wait.length<=4)(hN:NR K rn C)(w:En)(hF:Kn L w0 rn w):
  Ao prog Um L.R1 L.D1 32 #[.pointer (Gn ⟨K.nb,0,Hn⟩)] w (fun v w'=>v=.tuple #[]/\∃Nw,NR K Nw (MH K.k C)/\Kn L w0 Nw w') (fun _ _=>False):=by
 obtain⟨cq,n1⟩:=hW.n1 TC;obtain⟨eY,n2⟩:=hW.n2 TC;replace hF:=hF.lay;have hk:(base 32).kind≠.early:=J1;refine Ao.intro L.Nn #[.pointer (Gn ⟨K.nb,0,Hn⟩),Bn,Bn,Bn,Bn,Bn,Bn,Bn,Bn,Bn,Bn,Bn,Bn,Bn,Bn,Bn,Bn,Bn,Bn,Bn,Bn,Bn,Bn,Bn,Bn,Bn,Bn,Bn,Bn,Bn,Bn,Bn,Bn,Bn,Bn,Bn] func32 rfl J0 fun cl cs Bo tt _=>?_;refine km ?_;refine xj fun w1 K_ hK hF=>?_;have mG:World.cell? _ ⟨K.nb,1,Hn⟩=Gn (.slice (Gn ⟨K.qb,0,Hn⟩) K.k cq):=(hF.Xo hW.sn).trans n1;refine vm ?_ ?_
 ·exact Gj
 clear hK K_;clear mG;refine um ?_;refine uj ?_;refine Di ?_;refine A70 Et hW TC n1 hl _ (fun rn w' u1 u2 u3 DF EF RD SD jC kC oC qC tC uC vC lD rB uB vB xB lA mA nA pA QB TB UB VB WB mD hN hF=>?_) K.k 0 rn _ _ _ _ _ _ _ _ _ _ _ _ _ _ _ _ _ _ _ _ _ _ _ _ _ _ _ _ _ _ E0 (by rw[bK];exact hN) hF;refine um ?_;refine km ?_;refine xj fun w1 K_ hK hF=>?_;have hn2:World.cell? _ ⟨K.nb,2,Hn⟩=Gn (.slice (Gn ⟨K.sb,0,Hn⟩) K.k eY):=(hF.Xo hW.sn).trans n2;refine vm ?_ ?_
 ·exact Gj
 clear hK K_;clear hn2;refine um ?_;refine uj ?_;refine Di ?_;exact B70 hW TC n2 _ tt K.k 0 rn _ _ _ _ _ _ _ _ _ _ _ _ _ _ _ _ _ _ _ _ _ _ _ _ _ _ _ _ _ _ E0 (by rw[bK];exact hN) hF
end
structure TI where
 n:Nat
 ci:Nat->Int
 num:Int
 fr:Nat->Int
 ins:List (Int×Int)
def Kv(p:TI):Nat->(Nat->Int)->(Nat->Us)->List Dn×Int×(Nat->Int)×(Nat->Us)
 |0,z,C=>([],2,z,C)
 |k+1,z,C=>match Pq p.n p.ci p.ins z C with
  |.on op e z' C'=>if op=0 then ((BH.on op e z' C').sent,1,z',C')else ((BH.on op e z' C').sent++(Kv p k z' C').1,(Kv p k z' C').2)
  |.Xr y z'=>([Zz y (Nr z' 47)],3,Nr z',Ru p.fr p.num C)
def FK(p:TI)(k:Nat)(z:Nat->Int)(C:Nat->Us)(vs:List Dn):List Value:=match Pq p.n p.ci p.ins z C with
 |.on op _ z' C'=>if op=0 then vs else (Kv p k z' C').1++vs
 |.Xr y z'=>Zz y (Nr z' 47)::vs
theorem B30(p:TI)(k:Nat)(z:Nat->Int)(C:Nat->Us)(vs:List Dn):(Kv p (k+1) z C).1++vs=(Pq p.n p.ci p.ins z C).sent++FK p k z C vs:=by
 unfold FK;simp only[Kv];cases Pq p.n p.ci p.ins z C with
 |on op e z' C'=>
  by_cases h:op=0
  ·simp[h]
  ·simp[h,List.append_assoc]
 |Xr y z'=>rfl
theorem z00{p:TI}{kc:Nat}(Yr:yx p.n kc p.ci):∀(k b:Nat)(z:Nat->Int)(C:Nat->Us),aB p.n z->ox kc b C->aB p.n (Kv p k z C).2.2.1/\ox kc (b+k) (Kv p k z C).2.2.2
 |0,_,_,_,h,hl=>⟨h,hl⟩
 |k+1,b,z,C,h,hl=>by
  have:=zF (ins:=p.ins) Yr h hl;simp only[Kv];revert this;cases Pq p.n p.ci p.ins z C with
  |on op e z' C'=>
   rintro⟨hz,hc⟩;by_cases h0:op=0
   ·simp only[h0,if_true];exact⟨hz,hc.le E0⟩
   ·simp only[h0,if_false];have:=z00 Yr k (b+1) z' C' hz hc;exact⟨this.1,this.2.le E0⟩
  |Xr y z'=>exact fun hz=>⟨P60 hz,(hl.forget _ _).le E0⟩
def uE(p:TI)(budget:Nat)(z:Nat->Int)(C:Nat->Us):List Dn×Int×(Nat->Int)×(Nat->Us):=if z 3<z 47 then ([],4,z,C)else Kv p budget z C
def Uo(p:TI)(budget:Nat)(z:Nat->Int)(C:Nat->Us):List Dn×(Nat->Int)×(Nat->Us):=
 ((uE p budget z C).1++[Nv (IntKind.i64.wrap ((uE p budget z C).2.2.1 46-z 46)) (uE p budget z C).2.1],(uE p budget z C).2.2)
theorem jH{p:TI}{kc:Nat}(Yr:yx p.n kc p.ci)(budget:Nat){b:Nat}{z:Nat->Int}{C:Nat->Us}(hz:aB p.n z)(hl:ox kc b C):aB p.n (Uo p budget z C).2.1/\ox kc (b+budget) (Uo p budget z C).2.2:=by
 show aB p.n (uE p budget z C).2.2.1/\ox kc (b+budget) (uE p budget z C).2.2.2;unfold uE;split
 ·exact⟨hz,hl.le E0⟩
 ·exact z00 Yr budget b z C hz hl
section
variable {L:Bt}{w0:En}{rows rows2:List Jp}{ic g nb:Nat}{num:Int}{code:Dn}{z:Nat->Int}
theorem GI(AE:rows[ic]?=Gn (jo g num (.pointer (Gn ⟨nb,0,Hn⟩)) code z))(hi:rows2[ic]?=Gn (jo g num (.pointer (Gn ⟨nb,0,Hn⟩)) code z))(hfg:∀w,Kn L w0 rows w->Ao prog Tm L.R1 L.D1 125 #[.pointer (Gn ⟨nb,0,Hn⟩),.int .i64 num] w (fun _ w'=>Kn L w0 rows2 w') (fun _ _=>False))(w:En)(hF:Kn L w0 rows w):
  Ao prog Tm L.R1 L.D1 112 #[.pointer (Gn ⟨g,0,Hn⟩)] w (fun _ w'=>Kn L w0 (rows2.set ic (jo g num (.pointer (Gn ⟨nb,0,Hn⟩)) code (Nr z))) w') (fun _ _=>False):=by
 replace hF:=hF.lay;have hk:(base 112).kind≠.early:=J1;refine Ao.intro L.Nn #[.pointer (Gn ⟨g,0,Hn⟩),Bn,Bn,Bn,Bn,Bn,Bn,Bn,Bn,Bn,Bn,Bn,Bn,Bn,Bn,Bn,Bn,Bn,Bn,Bn,Bn,Bn,Bn,Bn,Bn] func112 rfl J0 fun cl cs Bo tt _=>?_;refine J9 ?_;refine Pn.vu (S:=ko L w0 rows []) (Die:=fun _ _=>False) L.Nn L.wu 9 I0 hk J0 (fun _ _ _ h=>h) S8 fun w1 hR=>?_;replace hF:=(hF.rely hR).rely (Rq.drew _);clear hR;refine Jj ?_;refine um ?_;refine Jo L.Nn 3 rfl O8 hF ?_ fun _ hw=>⟨Rm (by
  intro K_ hK;have hc:World.cell? _ ⟨g,1,Hn⟩=Gn (.pointer (Gn ⟨nb,0,Hn⟩)):=hw.cell AE (show 1<48 by omega);go_simp;exact hK),by
  have hc:World.cell? _ ⟨g,1,Hn⟩=Gn (.pointer (Gn ⟨nb,0,Hn⟩)):=hw.cell AE (show 1<48 by omega);refine hw.looks AE ?_;co_evs (exact⟨_,rfl⟩)⟩
 refine um ?_;refine de ?_;refine um ?_;refine bf ?_;refine um ?_;refine jf ?_;refine um ?_;refine Jo L.Nn 7 rfl O8 hF ?_ fun _ hw=>⟨Rm (by
  intro K_ hK;have hc:World.cell? _ ⟨g,0,Hn⟩=Gn (.int .i64 num):=hw.cell AE (show 0<48 by omega);go_simp;exact hK),by
  have hc:World.cell? _ ⟨g,0,Hn⟩=Gn (.int .i64 num):=hw.cell AE (show 0<48 by omega);refine hw.looks AE ?_;co_evs (exact⟨_,rfl⟩)⟩
 refine um ?_;refine dt (i:=8) T0 rfl I0 rfl func125 I0 rfl #[.pointer (Gn ⟨nb,0,Hn⟩),.int .i64 num] J0 (hfg _ hF.drop) ?_;intro v w2 Gs;replace hF:ko L w0 rows2 [] w2:=Kn.lay Gs;clear Gs;refine⟨.inr (Ks rfl T0),?_⟩;refine tj ?_;replace hF:=hF.drop;refine zd ?_;refine Ja ?_;refine Pn.op rfl I0 hk ?_;intro w1 hR K_ hK;replace hF:=hF.rely hR;clear hR;have ju:(prog.info? 184).map (·.size)=Gn (Ew z).length:=by rw[Ux];exact dH
 rw[UT (b:=g) (off:=4) rfl rfl (Ew z) _ (NH hF hi) underlying184 rfl ju];refine hK _ _ ⟨?_,?_⟩
 ·refine hF.L_ hi (.refl _) rfl fun e he=>?_;exact PU (b:=g) (off:=4) rfl rfl (Ew z) _ (NH hF hi) underlying184 rfl ju e (mem_listed he)
 clear hK K_;refine um ?_;refine W9 ?_;refine Pn.op rfl I0 hk ?_;intro w1 hR K_ hK;replace hF:=hF.rely hR;clear hR;have uy:(prog.info? 184).map (·.size)=Gn (Ew z).toArray.size:=by rw[List.size_toArray,Ux];exact dH
 have JY:=all_oneCell_toArray (rY z);have Ir:=(hF.row ic _ hi).rw.row;have hth:w1.there g 25 (Ew z).toArray.size:=fun j hj=>by
  rw[List.size_toArray,Ux]at hj;exact⟨by rw[Ir.cell (j:=25+j) (show 25+j<48 by omega)];rfl,Ir.frozen _⟩
 obtain⟨Gs,ht2,mH⟩:=Kn.setCells (Ew z) 25 _ _ _ hF hi;rw[BP (b:=g) (off:=25) rfl rfl (Ew z).toArray rfl hth uy JY];refine hK _ _ ⟨?_,?_⟩
 ·refine hF.L_ hi ht2 mH fun e he=>?_;exact FR (b:=g) (off:=25) rfl rfl (Ew z).toArray rfl 48 _ _ Ir (by rw[List.size_toArray,Ux];omega) uy JY e (mem_listed he)
 clear hK K_ hth Ir JY uy ht2 mH;replace hF:Kn L w0 (rows2.set ic (jo g num (.pointer (Gn ⟨nb,0,Hn⟩)) code (tG z))) _:=Gs.congr hi rfl rfl rfl fun j _=>Q60 j;clear Gs;refine um ?_;replace hF:=hF.lay;refine J9 ?_;refine zd ?_;refine xj fun w1 K_ hK hF=>?_;have hc:World.cell? _ ⟨g,47,Hn⟩=Gn (.int .i64 (tG z 47)):=ko.cz hi hF E0 E0;rw[show tG z 47=z 47 from rfl]at hc;refine vm ?_ ?_
 ·exact Cj
 clear hK K_;clear hc;refine um ?_;refine xj fun w1 K_ hK hF=>?_;have hc:World.cell? _ ⟨g,47,Hn⟩=Gn (.int .i64 (tG z 47)):=ko.cz hi hF E0 E0;rw[show tG z 47=z 47 from rfl]at hc;have zu:World.frozen? _ ⟨g,47,Hn⟩=false:=ko.FO hi hF 47;refine vm ?_ ?_
 ·refine ko.Px hi hF 47 _ ?_;exact yd
 clear hK K_;clear hc zu;replace hF:=ko.yA hi hF (j:=47) E0 (IntKind.i64.wrap (z 47+1));refine um ?_;refine Aj ?_;refine tt _ _ _ _ rfl (Ep L.Nn I0 _) ?_;have e:Wn (tG z) 47 (IntKind.i64.wrap (z 47+1))=Nr z:=funext fun j=>S00 z j;rw[e]at hF;exact hF.drop
end
section
variable {L:Bt}{w0:En}{rn ls:List Jp}{K:Ys}{C:Nat->Us}{g:Nat}{num:Int}{code:Dn}{z:Nat->Int}
theorem IW(he:Evs L)(hW:UK L w0 K)(hN:NR K rn C)(w:En)(hF:ko L w0 (Kq K g num code z::rn) ls w):
  Ao prog Tm L.R1 L.D1 112 #[.pointer (Gn ⟨g,0,Hn⟩)] w (fun _ w'=>∃Nw,NR K Nw (Ru K.fr num C)/\ko L w0 (Kq K g num code (Nr z)::Nw) ls w') (fun _ _=>False):=by
 obtain⟨a,ce,n0,ha⟩:=hW.n0;by_cases TC:K.k=0
 ·refine(GI (rows:=(Kq K g num code z::rn)++ls) (rows2:=(Kq K g num code z::rn)++ls) (ic:=0) rfl rfl (fun w hF=>O70 a ce hW.sn (by rw[n0,TC]) num w hF) w hF).to fun v w' h=>⟨rn,fun h0=>absurd h0 E0,h⟩
 ·have hk:0<K.k:=by omega
  have ha:=ha hk;subst ha;obtain⟨fq,fs,p,hx⟩:=hN hk;obtain⟨cq,n1⟩:=hW.n1 hk;obtain⟨eY,n2⟩:=hW.n2 hk;have l0:=(List.getElem?_eq_some_iff.1 hx.q).1;have l1:=(List.getElem?_eq_some_iff.1 hx.s).1;have q1:((Kq K g num code z::rn)++ls)[1]?=Gn (Tv K fq):=by
   exact Uf
  have s1:((Kq K g num code z::rn)++ls)[2]?=Gn (Ft K fs):=by
   exact Vf
  have hfx:=hx.forget num;have e2:py ((Kq K g num code z::rn)++ls) 1 2 (Tv K fq) (Ft K fs) K.fr num K.k=(Kq K g num code z::((rn.set 0 ((Tv K fq).xu K.fr num K.k)).set 1 ((Ft K fs).yu K.fr num K.k)))++ls:=by
   unfold py;rw[List.set_append_left _ _ A1,List.set_append_left _ _ A1];rfl
  refine(GI (rows:=(Kq K g num code z::rn)++ls) (rows2:=py ((Kq K g num code z::rn)++ls) 1 2 (Tv K fq) (Ft K fs) K.fr num K.k) (ic:=0) rfl (by rw[e2];rfl) (fun w hF=>(D10 (iq:=1) (is:=2) he.ends q1 s1 E0 hW.bN hW.rU hW.sn n0 n1 n2 (hW.se hk) hW.e0 hW.e1 hW.hk w hF).to fun v w' h=>h.2) w hF).to fun v w' h=>?_;rw[e2]at h;exact⟨_,fun _=>⟨_,_,_,hfx⟩,h⟩
end
section
variable {L:Bt}{w0:En}{rn:List Jp}{K:Ys}{C:Nat->Us}{g p c y:Nat}{num:Int}{code:Dn}{z:Nat->Int}
theorem g30{FS:En->Prop}{vs:List Dn}{fr:Xm}{cs:List Xm}(he:Evs L)(hW:UK L w0 K)(hN:NR K rn C)(why v0:Int)(hm:fr.mode=.panicking (brk why))(hd:fr.defers=[sc0 p c y])(w:En)(hF:ko L w0 (Kq K g num code z::rn) (sL L g p c y v0) w)
  (h:∀Nw w',NR K Nw (Ru K.fr num C)->ko L w0 (Kq K g num code (Nr z)::Nw) (sL L g p c y 3) w'->Pn prog Tm L.R1 L.D1 (StopB prog L.c L.R1 L.D1 L.SL FS vs) (G {fr with defers:=[],mode:=.returning} cs) w'):
  Pn prog Tm L.R1 L.D1 (StopB prog L.c L.R1 L.D1 L.SL FS (Zz why (Nr z 47)::vs)) (G fr cs) w:=by
 have hk:(baseD 111).kind≠.early:=by simp[baseD]
 refine qd ?_;refine ak ?_;refine Pn.eW L.Nn rfl I0 rfl rfl hm ?_;refine um ?_;refine N9 fun w1 K_ hK hF=>?_;refine vm ?_ ?_
 ·exact oe
 clear hK K_;refine um ?_;refine Xe ?_;refine bj ?_;refine Oa ?_;refine Ej ?_;refine N9 fun w1 K_ hK hF=>?_;have hc:World.cell? _ ⟨p,0,Hn⟩=Gn (.pointer (Gn ⟨g,0,Hn⟩)):=hF.l1 (k:=0) rfl;refine vm ?_ ?_
 ·exact nj
 clear hK K_;clear hc;refine um ?_;refine Pn.bB L.Nn rfl I0 hk rfl func112 I0 rfl #[.pointer (Gn ⟨g,0,Hn⟩)] J0 (IW he hW hN _ hF) ?_ S8;rintro v w2 ⟨rn1,hN1,Gs⟩;replace hF:=Gs;clear Gs;refine um ?_;refine J9 ?_;refine Pn.fY (S:=ko L w0 (Kq K g num code (Nr z)::rn1) (sL L g p c y v0)) L.Nn L.wu 8 I0 hk J0 ?_;intro w1 hR;replace hF:=(hF.rely hR).rely (Rq.drew _);clear hR;co_applyP bp L.Nn X8 O8 ?oS (i:=0) rfl T0 T0 T0 T0 (.inl ⟨I0,fun _ hw=>⟨Rm ?MD,?OH⟩⟩) hF ?q00
 case oS=>exact fun _ _ _ h r=>Pn.rely L.Nn.trans h r
 case MD=>
  intro K_ hK;have hc:World.cell? _ ⟨c,0,Hn⟩=Gn (.chan (Gn L.c)):=hw.l1 (k:=1) rfl;exact fh
 case OH=>
  have hc:World.cell? _ ⟨c,0,Hn⟩=Gn (.chan (Gn L.c)):=hw.l1 (k:=1) rfl;refine hw.Yq (k:=1) rfl ?_;exact T9
 refine um ?_;co_applyP bp L.Nn X8 O8 ?pS (i:=1) rfl T0 T0 T0 T0 (.inl ⟨I0,fun _ hw=>⟨Rm ?cH,?PH⟩⟩) hF ?r00
 case pS=>exact fun _ _ _ h r=>Pn.rely L.Nn.trans h r
 case cH=>
  exact Ed
 case PH=>
  exact Ac
 refine um ?_;co_applyP bp L.Nn X8 O8 ?qS (i:=2) rfl T0 T0 T0 T0 (.inl ⟨I0,fun _ hw=>⟨Rm ?IJ,?QH⟩⟩) hF ?s00
 case qS=>exact fun _ _ _ h r=>Pn.rely L.Nn.trans h r
 case IJ=>
  intro K_ hK;have hc:World.cell? _ ⟨p,0,Hn⟩=Gn (.pointer (Gn ⟨g,0,Hn⟩)):=hw.l1 (k:=0) rfl;exact fh
 case QH=>
  have hc:World.cell? _ ⟨p,0,Hn⟩=Gn (.pointer (Gn ⟨g,0,Hn⟩)):=hw.l1 (k:=0) rfl;refine hw.Yq (k:=0) rfl ?_;exact T9
 refine um ?_;co_applyP bp L.Nn X8 O8 ?rS (i:=3) rfl T0 T0 T0 T0 (.inl ⟨I0,fun _ hw=>⟨Rm ?JJ,?RH⟩⟩) hF ?t00
 case rS=>exact fun _ _ _ h r=>Pn.rely L.Nn.trans h r
 case JJ=>
  exact Ed
 case RH=>
  exact Ac
 refine um ?_;co_applyP bp L.Nn X8 O8 ?sS (i:=4) rfl T0 T0 T0 T0 (.inl ⟨I0,fun _ hw=>⟨Rm ?LN,?SH⟩⟩) hF ?u00
 case sS=>exact fun _ _ _ h r=>Pn.rely L.Nn.trans h r
 case LN=>
  exact Ed
 case SH=>
  exact Ac
 refine um ?_;co_applyP bp L.Nn X8 O8 ?uS (i:=5) rfl T0 T0 T0 T0 (.inl ⟨I0,fun _ hw=>⟨Rm ?QT,?UH⟩⟩) hF ?v00
 case uS=>exact fun _ _ _ h r=>Pn.rely L.Nn.trans h r
 case QT=>
  intro K_ hK;have hc:World.cell? _ ⟨g,47,Hn⟩=Gn (.int .i64 (Nr z 47)):=ko.zw (ic:=0) hw rfl E0 E0;exact fh
 case UH=>
  have hc:World.cell? _ ⟨g,47,Hn⟩=Gn (.int .i64 (Nr z 47)):=ko.zw (ic:=0) hw rfl E0 E0;refine ko.looks (i:=0) (r:=Kq K g num code (Nr z)) hw rfl ?_;exact T9
 refine um ?_;co_applyP bp L.Nn X8 O8 ?vS (i:=6) rfl T0 T0 T0 T0 (.inl ⟨I0,fun _ hw=>⟨Rm ?TT,?VH⟩⟩) hF ?w00
 case vS=>exact fun _ _ _ h r=>Pn.rely L.Nn.trans h r
 case TT=>
  exact Ed
 case VH=>
  exact Ac
 refine um ?_;refine WI (i:=7) T0 rfl I0 (Ks rfl T0) ⟨rfl,?_⟩;refine Pn.send rfl I0 hk rfl rfl rfl ?_;refine um ?_;refine jm ?_;refine N9 fun w1 K_ hK hF=>?_;have hc:World.cell? _ ⟨y,0,Hn⟩=Gn (.int .i64 v0):=hF.l1 (k:=2) rfl;have zu:World.frozen? _ ⟨y,0,Hn⟩=false:=hF.Nz (k:=2) rfl 0;refine vm ?_ ?_
 ·exact Dj
 clear hK K_;clear hc zu;replace hF:ko L w0 (Kq K g num code (Nr z)::rn1) (sL L g p c y 3) _:=hF.set1 (k:=2) rfl (.int .i64 3);refine um ?_;refine Aj ?_;exact Pn.leaveD L.Nn func111 rfl (Ep L.Nn I0 _) (.inr ⟨_,rfl,rfl⟩) (h rn1 _ hN1 hF)
end
end Go.Proofs.YtdoghgnifkgfdaaGreat.Mute
