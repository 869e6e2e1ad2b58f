import Derived.Test.YtdoghgnifkgfdaaGreatP00
import Derived.Test.YtdoghgnifkgfdaaGreatP22
import Derived.Test.YtdoghgnifkgfdaaGreatP27
import Derived.Test.YtdoghgnifkgfdaaGreatP28
set_option maxRecDepth 100000
set_option maxHeartbeats 16000000
open Option renaming none->Ai,some->yi
open Go renaming World->ui,Value->ti,undef->ri
open Bool renaming true->ji,false->gi
namespace Go.Proofs.YtdoghgnifkgfdaaGreat.Mute
open Tryz Go Go.Conc Go.RowKit
section
variable {w w':ui}{k:Vu}{r:RK}{Q:Nat->RC}{m:Nat->Nat}{xs:Nat->List ti}{n:Nat}{nl:Nat->List (Int×Int)}{Ls:Nat->Ln}{kind fr:Nat->Int}{F:Int}{inV:ti}{il:List (Int×Int)}{C:Nat->Jl}{c':RC}
theorem Om.note(hN:Om w k.nC r Q nl Ls F inV il)(h:Tn w k r Q m xs)(hn:n<k.nC)(hb:ak (fun j=>j=r.Gc\/(Q n).nt.ownBlock=yi j) w w'){l':List (Int×Int)}(ho:w'.ownsRow 0 177 2 c'.nt l'.length (Qo l'))(hk:∀b,c'.nt.ownBlock=yi b->(Q n).nt.ownBlock=yi b\/w.heap.size<=b):
  Om w' k.nC r (fj Q n c') (fj nl n l') Ls F inV il:=by
 have ty:∀{b e s n2:Nat}{v:ti}{ys:List ti},w.ownsRow b e s v n2 ys->e≠131->e≠177->w'.ownsRow b e s v n2 ys:=fun ho h1 h2=>Rk ho fun g hg=>hb.block g (Io ho hg) (fun e=>by
  rcases e with e|e
  ·exact xj ho h.row h1 Y4
  ·exact Px ho (hN.yD n hn) h2 hg e)
 have kK:w'.heap[r.Kb]?=w.heap[r.Kb]?:=hb.block _ h.sK.lt (fun e=>by
  rcases e with e|e
  ·exact h.sK.2.1.1 e
  ·exact h.sK.ot (fun b=>hN.u_ n b hn) e)
 have kL:w'.heap[r.Lb]?=w.heap[r.Lb]?:=hb.block _ hN.row.lt (fun e=>by
  rcases e with e|e
  ·exact hN.lo.2.1 e
  ·exact xj (hN.yD n hn) hN.row U0 e)
 have i00:∀i,i<k.nC->i≠n->∀b,(Q i).nt.ownBlock=yi b->b<w.heap.size/\w'.heap[b]?=w.heap[b]?:=fun i hi Jj b uk=>by
  have Wi:=Io (hN.yD i hi) uk;refine⟨Wi,hb.block b Wi (fun e=>?_)⟩;rcases e with e|e
  ·exact xj (hN.yD i hi) h.row U0 (by rw[<-e];exact uk)
  ·exact hN.YF i n hi hn Jj b uk e
 refine⟨(cell_of_heap (a:=⟨r.Kb,5,Ai⟩) kK).trans hN.h5,(cell_of_heap (a:=⟨r.Kb,6,Ai⟩) kK).trans hN.h6,(cell_of_heap (a:=⟨r.Kb,7,Ai⟩) kK).trans hN.h7,ty hN.ino U0 U0,hN.row.of_heap kL,hN.lo,fun c hc=>ty (hN.own c hc) U0 U0,hN.Un,hN.oh,fun i hi=>?_,fun i j hi hj Jj b Zs Xu=>?_,fun i b hi uk=>?_⟩
 ·by_cases e:i=n
  ·subst e;rw[Oi,Oi];exact ho
  ·rw[cj _ _ e,cj _ _ e];exact Rk (hN.yD i hi) fun b uk=>(i00 i hi e b uk).2
 ·by_cases e:i=n
  ·subst e;rw[Oi]at Zs;rw[cj _ _ (fun x=>Jj x.symm)]at Xu;rcases hk b Zs with x|x
   ·exact hN.YF i j hi hj Jj b x Xu
   ·have:=(i00 j hj (fun x=>Jj x.symm) b Xu).1;omega
  ·rw[cj _ _ e]at Zs;by_cases e2:j=n
   ·subst e2;rw[Oi]at Xu;rcases hk b Xu with x|x
    ·exact hN.YF i j hi hj Jj b Zs x
    ·have:=(i00 i hi e b Zs).1;omega
   ·rw[cj _ _ e2]at Xu;exact hN.YF i j hi hj Jj b Zs Xu
 ·by_cases e:i=n
  ·subst e;rw[Oi]at uk;rcases hk b uk with x|x
   ·exact hN.u_ i b hi x
   ·exact Nat.le_trans h.sK.2.2 x
  ·rw[cj _ _ e]at uk;exact hN.u_ i b hi uk
theorem Om.line(hN:Om w k.nC r Q nl Ls F inV il)(h:Tn w k r Q m xs)(hb:ak (fun j=>j=r.Gc\/j=r.Lb) w w')(hc:c'.nt=(Q n).nt){c:Nat}(vV:c<r.kc){ln:Ln}(Nk:Ei w' r.Lb (r.kc*5) 175 (Jm (fj Ls c ln)))(ho:w'.ownsRow 0 2 1 ln.wv ln.ws.length (xy ln.ws))(hk:∀b,ln.wv.ownBlock=yi b->(Ls c).wv.ownBlock=yi b\/w.heap.size<=b):
  Om w' k.nC r (fj Q n c') nl (fj Ls c ln) F inV il/\∀d b,d<r.kc->(fj Ls c ln d).wv.ownBlock=yi b->(Ls d).wv.ownBlock=yi b\/w.heap.size<=b:=by
 have ty:∀{b e s n2:Nat}{v:ti}{ys:List ti},w.ownsRow b e s v n2 ys->e≠131->e≠175->w'.ownsRow b e s v n2 ys:=fun ho h1 h2=>Rk ho fun g hg=>hb.block g (Io ho hg) (fun e=>by
  rcases e with e|e
  ·exact xj ho h.row h1 Y4
  ·exact xj ho hN.row h2 Y4)
 have kK:w'.heap[r.Kb]?=w.heap[r.Kb]?:=hb.block _ h.sK.lt (fun e=>by
  rcases e with e|e
  ·exact h.sK.2.1.1 e
  ·exact h.sK.2.1.2 e)
 have eq:∀i,(fj Q n c' i).nt=(Q i).nt:=fun i=>by
  by_cases e:i=n
  ·subst e;rw[Oi];exact hc
  ·rw[cj _ _ e]
 have wlt:∀d b,d<r.kc->(Ls d).wv.ownBlock=yi b->b<w.heap.size:=fun d b hd uk=>Io (hN.own d hd) uk;refine⟨⟨(cell_of_heap (a:=⟨r.Kb,5,Ai⟩) kK).trans hN.h5,(cell_of_heap (a:=⟨r.Kb,6,Ai⟩) kK).trans hN.h6,(cell_of_heap (a:=⟨r.Kb,7,Ai⟩) kK).trans hN.h7,ty hN.ino U0 U0,Nk,hN.lo,fun d hd=>?_,fun d d' hd QI Jj b Zs Xu=>?_,fun d b hd uk=>?_,fun i hi=>?_,fun i j hi hj Jj b=>?_,fun i b hi=>?_⟩,fun d b hd uk=>?_⟩
 ·by_cases e:d=c
  ·subst e;rw[Oi];exact ho
  ·rw[cj _ _ e];exact ty (hN.own d hd) U0 U0
 ·by_cases e:d=c
  ·subst e;rw[Oi]at Zs;rw[cj _ _ (fun x=>Jj x.symm)]at Xu;rcases hk b Zs with x|x
   ·exact hN.Un d d' hd QI Jj b x Xu
   ·have:=wlt d' b QI Xu;omega
  ·rw[cj _ _ e]at Zs;by_cases e2:d'=c
   ·subst e2;rw[Oi]at Xu;rcases hk b Xu with x|x
    ·exact hN.Un d d' hd QI Jj b Zs x
    ·have:=wlt d b hd Zs;omega
   ·rw[cj _ _ e2]at Xu;exact hN.Un d d' hd QI Jj b Zs Xu
 ·by_cases e:d=c
  ·subst e;rw[Oi]at uk;rcases hk b uk with x|x
   ·exact hN.oh d b hd x
   ·exact Nat.le_trans h.sK.2.2 x
  ·rw[cj _ _ e]at uk;exact hN.oh d b hd uk
 ·rw[eq];exact ty (hN.yD i hi) U0 U0
 ·rw[eq,eq];exact hN.YF i j hi hj Jj b
 ·rw[eq];exact hN.u_ i b hi
 ·by_cases e:d=c
  ·subst e;rw[Oi]at uk;exact hk b uk
  ·rw[cj _ _ e]at uk;exact .inl uk
theorem Om.ink(hN:Om w k.nC r Q nl Ls F inV il):∃pi ci,inV=.slice pi il.length ci/\InK w pi il:=by
 obtain⟨p,c,e⟩:=pH hN.ino;refine⟨p,c,e,fun j x hj=>?_⟩;have ho:=hN.ino;rw[e]at ho;rcases ho.2 with⟨_,h0⟩|⟨g,cap,cur,ev,_⟩
 ·have:=(List.getElem?_eq_some_iff.1 hj).1;omega
 ·injection ev with e1
  subst e1;have key:∀(l:List (Int×Int))(j:Nat)(x:Int×Int),l[j]?=yi x->(Qo l)[j*2]?=yi (.int .i64 x.1)/\(Qo l)[j*2+1]?=yi (.int .i64 x.2):=by
   intro l;induction l with
   |nil=>intro j x h;simp at h
   |cons p l ih=>
    intro j x h;have e:Qo (p::l)=.int .i64 p.1::.int .i64 p.2::Qo l:=rfl;cases j with
    |zero=>
     have:p=x:=Y2;subst this;exact⟨rfl,rfl⟩
    |succ j=>
     obtain⟨h1,h2⟩:=ih j x Y2;rw[e,show (j+1)*2=j*2+1+1 by omega];exact⟨I5,by simpa using h2⟩
  obtain⟨h1,h2⟩:=key il j x hj;have c0:=ho.cells (g:=g) rfl _ _ h1;have c1:=ho.cells (g:=g) rfl _ _ h2;rw[Addr.add_lit]at c0 c1;exact⟨g,0,rfl,c0,c1⟩
theorem sP(z:Nat->Int){nx:Nat}(Fq:z 45=nx)(i i':Nat)(v v':Int)(j:Nat)(h:(25<=j/\j<46)\/j=47):Ji (Ji (Ji z 45 (nx+1)) i v) i' v' j=Ji (Ji (Ni z) i v) i' v' j:=by
 rw[Lu (Ji (Ji z 45 _) i v) i' v' j,Lu (Ji (Ni z) i v) i' v' j];by_cases e:j=i'
 ·rw[if_pos e,if_pos e]
 ·rw[if_neg e,if_neg e];exact jv z Fq i v j h
theorem Yz{Z Z':Nat->Int}{c0:RC}{Gc nC t:Nat}(Nk:Ei w' Gc (nC*26) t (Sj (fj Q n {c0 with z:=Z})))(he:∀j,(25<=j/\j<46)\/j=47->Z j=Z' j):Ei w' Gc (nC*26) t (Sj (fj Q n {c0 with z:=Z'})):=Nk.congr fun j _=>by
 unfold Sj;by_cases e:j/26=n
 ·rw[e,Oi,Oi];exact Ov he _
 ·rw[cj _ _ e,cj _ _ e]
theorem Gx{S:Nat->Prop}(h:Tn w k r Q m xs)(hn:n<k.nC)(hb:ak S w w')(hS:∀b,(Q n).v.ownBlock=yi b->¬S b):w'.ownsRow 0 111 3 (Q n).v (m n) (xs n):=Rk (h.own n hn) fun b uk=>hb.block b (Io (h.own n hn) uk) (hS b uk)
theorem M10{ins:List (Int×Int)}{nD:Nat}(h:Tn w k r Q m xs)(hN:Om w k.nC r Q nl Ls F inV il)(tN:Dl r.kc kind fr nl Ls F C)(hn:n<k.nC)(h45:0<=(Q n).z 45/\(Q n).z 45<=k.n n)(hz:(Q n).z 45≠k.n n)(hx:Xy (k.ci n (((Q n).z 45).toNat*4)))(yQ:TC n kind fr nD (k.n n) (k.ci n))(Pm:∀N:Int,0<=N->N<nD->Cm il N=Cm ins N)(hl:(nl n).length<1000000000)(hF:0<=F/\F<=1000000000000)(hwl:∀c,c<r.kc->(C c).wait.length<=1000):
  Calls prog 88 #[.pointer (yi ⟨r.Kb,0,Ai⟩),.int .i64 n] w fun e w'=>e=.returned (.int .i64 0)/\dt w k.nC r n Q nl Ls kind fr F inV il (tu ins (k.ci n (((Q n).z 45).toNat*4)) (k.ci n (((Q n).z 45).toNat*4+1)).toNat (k.ci n (((Q n).z 45).toNat*4+2)).toNat (k.ci n (((Q n).z 45).toNat*4+3)) (Ni (Q n).z) C).2 (tu ins (k.ci n (((Q n).z 45).toNat*4)) (k.ci n (((Q n).z 45).toNat*4+1)).toNat (k.ci n (((Q n).z 45).toNat*4+2)).toNat (k.ci n (((Q n).z 45).toNat*4+3)) (Ni (Q n).z) C).1 (Q n).s (Q n).b (m n) (xs n) 1 w':=by
 have gK:=h.sK.Dq;have gb:=h.sb.Dq;have gc:=(h.sc n hn).Dq;obtain⟨nx,Fq⟩:∃nx:Nat,(Q n).z 45=nx:=⟨((Q n).z 45).toNat,E0⟩;have Wi:nx<k.n n:=E0;have ht:((Q n).z 45).toNat=nx:=E0;rw[ht]at hx ⊢;obtain⟨-,⟨r0,r4⟩,⟨a0,a4⟩,-,hNc⟩:=h.ok n hn nx Wi;obtain⟨R,hR⟩:∃R:Nat,k.ci n (nx*4+1)=R:=⟨(k.ci n (nx*4+1)).toNat,E0⟩;obtain⟨A,hA⟩:∃A:Nat,k.ci n (nx*4+2)=A:=⟨(k.ci n (nx*4+2)).toNat,E0⟩;have dp:R<4:=E0;have ep:A<4:=E0;have c0:=h.code n hn (nx*4) E0;have c1:=h.code n hn (nx*4+1) E0;have c2:=h.code n hn (nx*4+2) E0;have c3:=h.code n hn (nx*4+3) E0;rw[<-Nat.add_assoc]at c1 c2 c3;rw[hR]at c1;rw[hA]at c2;have zR:=EL (Q n).z (i:=25+R) E0 E0;rw[show (k.ci n (nx*4+1)).toNat=R by omega,show (k.ci n (nx*4+2)).toNat=A by omega];have chan:k.ci n (nx*4)≠14->∃c:Nat,k.ci n (nx*4+3)=c/\c<r.kc:=fun e=>by
  obtain⟨h1,h2⟩:=hNc hx e;exact⟨(k.ci n (nx*4+3)).toNat,E0,E0⟩
 have ad0:∀b,(Q n).v.ownBlock=yi b->¬(b=r.Gc\/b=r.Lb):=fun b hb x=>by
  rcases x with x|x
  ·exact xj (h.own n hn) h.row U0 D5
  ·exact xj (h.own n hn) hN.row U0 D5
 refine Ub fun st=>?_;have quiet:∀{rv av:Int} {op:Int} (_:op=12\/op=13\/op=14) (_:k.ci n (nx*4)=op) (_:tu ins op R A (k.ci n (nx*4+3)) (Ni (Q n).z) C=(Ji (Ji (Ni (Q n).z) (25+R) rv) (25+A) av,C)) (_:∀V,ak (fun j=>j=r.Gc) w V->Calls prog 115 #[.pointer (yi ⟨r.Kb,0,Ai⟩),.agg #[.int .i64 op,.int .i64 R,.int .i64 A,.int .i64 (k.ci n (nx*4+3))]] V fun e w'=>e=.returned (.tuple #[.int .i64 rv,.int .i64 av])/\Below V.heap.size V w'),
   Calls prog 88 #[.pointer (yi ⟨r.Kb,0,Ai⟩),.int .i64 n] w fun e w'=>e=.returned (.int .i64 0)/\dt w k.nC r n Q nl Ls kind fr F inV il (tu ins (k.ci n (nx*4)) R A (k.ci n (nx*4+3)) (Ni (Q n).z) C).2 (tu ins (k.ci n (nx*4)) R A (k.ci n (nx*4+3)) (Ni (Q n).z) C).1 (Q n).s (Q n).b (m n) (xs n) 1 w':=by
  intro rv av op hop ho he cZ;rw[ho]at c0;rw[ho,he];refine(UJ (st c0 c3) hop r.Lb hN.lo.2.1 hN.row.lt rv av (fun V=>V.heap[r.Lb]?=w.heap[r.Lb]?) (fun V V' hb e=>(hb.block _ (by
   have:=(Array.getElem?_eq_some_iff.1 (e.trans (hN.row.choose_spec.1))).1;exact this) hN.lo.2.1).trans e) (fun V hV=>(cZ V hV).mono fun e w' ⟨h1,h2⟩=>⟨h1,⟨h2.os,h2.tape,h2.output,h2.size,fun j hj _=>h2.block j hj⟩,(h2.block _ (Nat.lt_of_lt_of_le hN.row.lt hV.size)).trans (hV.block _ hN.row.lt hN.lo.2.1)⟩)).mono ?_
  rintro e w' ⟨rfl,h1,h2,h3⟩;have Xu:ak (fun j=>j=r.Gc) w w':=⟨h2.os,h2.tape,h2.output,h2.size,fun j hj Jj=>by
   by_cases e:j=r.Lb
   ·subst e;exact h3
   ·exact h2.block j hj (fun x=>x.elim Jj e)⟩
  exact⟨rfl,NA h hN tN hn h1 Xu (fun j hj=>sP _ Fq _ _ _ _ j hj)⟩
 have K00:∀{V:ui},ak (fun j=>j=r.Gc) w V->Om V k.nC r (fj Q n (Q n)) nl Ls F inV il:=fun hV=>hN.same (c':=Q n) h hn (hV.mono fun _ x=>.inl x) rfl;rcases hx with ho|ho|ho|ho|ho|ho
 ·rw[ho]at c0;obtain⟨c,hc,YC⟩:=chan P5;have hk:=(yQ nx Wi).1 ho;rw[hc,Int.toNat_natCast]at hk;rw[hc]at c3;refine(pU (st c0 c3) c rfl (nl n).length (Qo (nl n)) (hN.yD n hn) (xj (hN.yD n hn) h.row U0) hl).mono ?_;rintro e w' ⟨rfl,v',h1,h2,h3,h4⟩;have e1:tu ins 10 R A ((c:Nat):Int) (Ni (Q n).z) C=(Ni (Q n).z,uN C c {C c with sent:=(C c).sent++[(Q n).z (25+R)]}):=by unfold tu;simp[zR]
  rw[ho,hc,e1];rw[<-jD (nl n) ((c:Int),(Q n).z (25+R))]at h3;have mU:w'.ownsRow 0 177 2 v' (nl n++[((c:Int),(Q n).z (25+R))]).length (Qo (nl n++[((c:Int),(Q n).z (25+R))])):=by rw[List.length_append];exact h3
  exact⟨rfl,(Q n).v,v',nl n++[((c:Int),(Q n).z (25+R))],Ls,P0,⟨Yz (c0:={Q n with nt:=v'}) h1 (fun j hj=>Nz _ Fq j hj),h2.mono fun _ x=>x.elim (fun x=>.inl (.inl x)) (fun x=>.inr (.inr x)),Gx h hn h2 (fun b hb x=>by
   rcases x with x|x
   ·exact xj (h.own n hn) h.row U0 D5
   ·exact Px (h.own n hn) (hN.yD n hn) U0 hb x),fun _ x=>.inl x,h4⟩,hN.note (c':=⟨Ni (Q n).z,(Q n).s,(Q n).v,(Q n).b,v'⟩) h hn h2 mU h4,tN.send hk.2 hk.1,fun _ _ _ x=>.inl x⟩
 ·rw[ho]at c0;obtain⟨c,hc,YC⟩:=chan P5;have hk:=(yQ nx Wi).2.1 ho;rw[hc,Int.toNat_natCast]at hk;rw[hc]at c3;refine(CN (st c0 c3) c rfl (nl n).length (Qo (nl n)) (hN.yD n hn) (xj (hN.yD n hn) h.row U0) hl).mono ?_;rintro e w' ⟨rfl,v',h1,h2,h3,h4⟩;have e1:tu ins 11 R A ((c:Nat):Int) (Ni (Q n).z) C=(Ni (Q n).z,uN C c {C c with En:=(Q n).z (25+R),anew:=ji}):=by unfold tu;simp[zR]
  rw[ho,hc,e1];rw[<-jD (nl n) ((c:Int),(Q n).z (25+R))]at h3;have mU:w'.ownsRow 0 177 2 v' (nl n++[((c:Int),(Q n).z (25+R))]).length (Qo (nl n++[((c:Int),(Q n).z (25+R))])):=by rw[List.length_append];exact h3
  exact⟨rfl,(Q n).v,v',nl n++[((c:Int),(Q n).z (25+R))],Ls,P0,⟨Yz (c0:={Q n with nt:=v'}) h1 (fun j hj=>Nz _ Fq j hj),h2.mono fun _ x=>x.elim (fun x=>.inl (.inl x)) (fun x=>.inr (.inr x)),Gx h hn h2 (fun b hb x=>by
   rcases x with x|x
   ·exact xj (h.own n hn) h.row U0 D5
   ·exact Px (h.own n hn) (hN.yD n hn) U0 hb x),fun _ x=>.inl x,h4⟩,hN.note (c':=⟨Ni (Q n).z,(Q n).s,(Q n).v,(Q n).b,v'⟩) h hn h2 mU h4,tN.write hk.2 hk.1,fun _ _ _ x=>.inl x⟩
 ·obtain⟨c,hc,YC⟩:=chan P5;have hk:=(yQ nx Wi).2.2.1 (.inl ho);rw[hc,Int.toNat_natCast]at hk;have hq:=(tN c YC).q hk;cases jR:(Ls c).ws with
  |nil=>
   have e1:tu ins 12 R A (k.ci n (nx*4+3)) (Ni (Q n).z) C=(Ji (Ji (Ni (Q n).z) (25+R) 0) (25+A) 0,C):=by rw[hc];unfold tu;simp[hq.1,jR]
   refine quiet (.inl rfl) ho e1 fun V hV=>?_;have hv:=K00 hV;obtain⟨p,cc,hp⟩:=pH (hN.own c YC);rw[jR]at hp;rw[hc];exact lN r.Kb r.Lb r.kc c R A Ls V hv.h5 hv.row YC hN.lo.2.2.2.1 p cc hp
  |cons x l=>
   rw[ho]at c0;rw[hc]at c3;have e1:tu ins 12 R A ((c:Nat):Int) (Ni (Q n).z) C=(Ji (Ji (Ni (Q n).z) (25+R) x) (25+A) 1,uN C c {C c with wait:=l}):=by unfold tu;simp[hq.1,jR]
   rw[ho,hc,e1];have hG:=h.row.lt;refine(UJ (st c0 c3) (.inl rfl) r.Lb hN.lo.2.1 hN.row.lt x 1 (fun V=>w.heap.size<=V.heap.size/\∃v',Ei V r.Lb (r.kc*5) 175 (Jm (fj Ls c {Ls c with wv:=v',ws:=l}))/\V.ownsRow 0 2 1 v' l.length (xy l)/\∀b,v'.ownBlock=yi b->w.heap.size<=b) (fun V V' hb ⟨g0,v',g1,g2,g3⟩=>⟨Nat.le_trans g0 hb.size,v',g1.of_heap (hb.block _ g1.lt hN.lo.2.1),Rk g2 fun b uk=>hb.block b (Io g2 uk) (by have:=g3 b uk;omega),g3⟩) (fun V hV=>?_)).mono ?_
   ·have hv:=K00 hV;have YQ:=hv.own c YC;rw[jR]at YQ;refine(qM r.Kb r.Lb r.kc c R A Ls V hv.h5 hv.row YC hN.lo.2.2.2.1 x l YQ (by have:=hwl c YC;rw[hq.1,jR]at this;simp at this;omega)).mono ?_;rintro e w' ⟨g0,v',g1,g2,g3,g4⟩;exact⟨g0,g2,Nat.le_trans hV.size g2.size,v',g1,g3,fun b hb=>Nat.le_trans hV.size (g4 b hb)⟩
   ·rintro e w' ⟨rfl,h1,h2,-,v',g1,g2,g3⟩;obtain⟨n1,n2⟩:=hN.line (n:=n) (c':=⟨Ji (Ji (Ni (Q n).z) (25+R) x) (25+A) 1,(Q n).s,(Q n).v,(Q n).b,(Q n).nt⟩) h h2 rfl YC g1 g2 (fun b hb=>.inr (g3 b hb));exact⟨rfl,(Q n).v,(Q n).nt,nl n,_,Nat.le_add_right _ _,⟨Yz (c0:=Q n) h1 (fun j hj=>sP _ Fq _ _ _ _ j hj),h2.mono fun _ x=>.inl x,Gx h hn h2 ad0,fun _ x=>.inl x,fun _ x=>.inl x⟩,by rw[Zn nl];exact n1,by rw[Zn nl];exact tN.line hk rfl hq.2.1 rfl,n2⟩
 ·obtain⟨c,hc,YC⟩:=chan P5;have hk:=(yQ nx Wi).2.2.2.1 ho;rw[hc,Int.toNat_natCast]at hk;obtain⟨s1,s2,-,-,s5⟩:=(tN c YC).s hk;by_cases wQ:(Ls c).shown=ji
  ·rw[if_pos wQ]at s1 s2;have e1:tu ins 13 R A (k.ci n (nx*4+3)) (Ni (Q n).z) C=(Ji (Ji (Ni (Q n).z) (25+R) (Ls c).shows) (25+A) (IntKind.i64.wrap (F-(Ls c).since)),C):=by
    rw[hc,show IntKind.i64.wrap (F-(Ls c).since)=F-(Ls c).since by rw[IntKind.wrap_i64];have:=s5 wQ;omega];unfold tu;simp[s1,s2]
   refine quiet (.inr (.inl rfl)) ho e1 fun V hV=>?_;have hv:=K00 hV;rw[hc];exact XL r.Kb r.Lb r.kc c R A Ls V hv.h5 hv.row YC hN.lo.2.2.2.1 wQ F hv.h6
  ·have wQ:(Ls c).shown=false:=by simpa using wQ
   rw[if_neg (by rw[wQ];decide)]at s1 s2;have e1:tu ins 13 R A (k.ci n (nx*4+3)) (Ni (Q n).z) C=(Ji (Ji (Ni (Q n).z) (25+R) 0) (25+A) (-1),C):=by
    rw[hc];unfold tu;simp[s1,s2]
   refine quiet (.inr (.inl rfl)) ho e1 fun V hV=>?_;have hv:=K00 hV;rw[hc];exact ZI r.Kb r.Lb r.kc c R A Ls V hv.h5 hv.row YC hN.lo.2.2.2.1 wQ
 ·obtain⟨d0,d1⟩:=(yQ nx Wi).2.2.2.2 ho;have hs:=Pm _ d0 d1;have e1:tu ins 14 R A (k.ci n (nx*4+3)) (Ni (Q n).z) C=(Ji (Ji (Ni (Q n).z) (25+R) (Cm il (k.ci n (nx*4+3))).1) (25+A) (Cm il (k.ci n (nx*4+3))).2,C):=by
   rw[hs];unfold tu;simp
  refine quiet (.inr (.inr rfl)) ho e1 fun V hV=>?_;have hv:=K00 hV;obtain⟨pi,ci,hp,hi⟩:=hv.ink;exact yI r.Kb ci pi il R A _ V (by rw[<-hp];exact hv.h7) hi hN.lo.2.2.2.2
 ·obtain⟨c,hc,YC⟩:=chan P5;have hk:=(yQ nx Wi).2.2.1 (.inr ho);rw[hc,Int.toNat_natCast]at hk;have hq:=(tN c YC).q hk;rw[ho]at c0;rw[hc]at c3;have e1:tu ins 16 R A ((c:Nat):Int) (Ni (Q n).z) C=(Ji (Ni (Q n).z) (25+R) (Ls c).lost,uN C c {C c with lost:=0}):=by unfold tu;simp[hq.2.1]
  rw[ho,hc,e1];refine(NT (st c0 c3) c r.Lb r.kc Ls rfl YC hN.lo.2.1 h.sK.2.1.2 hN.h5 hN.row).mono ?_;rintro e w' ⟨rfl,h1,h2,h3⟩;obtain⟨n1,n2⟩:=hN.line (n:=n) (c':=⟨Ji (Ni (Q n).z) (25+R) (Ls c).lost,(Q n).s,(Q n).v,(Q n).b,(Q n).nt⟩) h h2 rfl YC h3 (Rk (hN.own c YC) fun b hb=>h2.block b (Io (hN.own c YC) hb) (fun x=>by
   rcases x with x|x
   ·exact xj (hN.own c YC) h.row U0 D5
   ·exact xj (hN.own c YC) hN.row U0 D5)) (fun b hb=>.inl hb)
  exact⟨rfl,(Q n).v,(Q n).nt,nl n,_,Nat.le_add_right _ _,⟨Yz (c0:=Q n) h1 (fun j hj=>jv _ Fq _ _ j hj),h2.mono fun _ x=>.inl x,Gx h hn h2 ad0,fun _ x=>.inl x,fun _ x=>.inl x⟩,by rw[Zn nl];exact n1,by rw[Zn nl];exact tN.line hk hq.1 rfl rfl,n2⟩
theorem KW{ins:List (Int×Int)}{nD:Nat}(h:Tn w k r Q m xs)(hN:Om w k.nC r Q nl Ls F inV il)(tN:Dl r.kc kind fr nl Ls F C)(hn:n<k.nC)(h45:0<=(Q n).z 45/\(Q n).z 45<=k.n n)(hm:m n<1000000000)(yQ:TC n kind fr nD (k.n n) (k.ci n))(Pm:∀N:Int,0<=N->N<nD->Cm il N=Cm ins N)(hl:(nl n).length<1000000000)(hF:0<=F/\F<=1000000000000)(hwl:∀c,c<r.kc->(C c).wait.length<=1000):
  Calls prog 88 #[.pointer (yi ⟨r.Kb,0,Ai⟩),.int .i64 n] w fun e w'=>e=.returned (.int .i64 (yq C (jk (k.n n) (k.ci n) ins (Q n).z C)).1)/\dt w k.nC r n Q nl Ls kind fr F inV il (yq C (jk (k.n n) (k.ci n) ins (Q n).z C)).2.2 (yq C (jk (k.n n) (k.ci n) ins (Q n).z C)).2.1 (Q n).s (Q n).b (m n+(jk (k.n n) (k.ci n) ins (Q n).z C).sent.length) (xs n++(jk (k.n n) (k.ci n) ins (Q n).z C).sent.flatMap Qj) 1 w':=by
 by_cases hx:(Q n).z 45≠k.n n/\Xy (k.ci n (((Q n).z 45).toNat*4))
 ·have e:jk (k.n n) (k.ci n) ins (Q n).z C=.on (k.ci n (((Q n).z 45).toNat*4)) Ai (tu ins (k.ci n (((Q n).z 45).toNat*4)) (k.ci n (((Q n).z 45).toNat*4+1)).toNat (k.ci n (((Q n).z 45).toNat*4+2)).toNat (k.ci n (((Q n).z 45).toNat*4+3)) (Ni (Q n).z) C).1 (tu ins (k.ci n (((Q n).z 45).toNat*4)) (k.ci n (((Q n).z 45).toNat*4+1)).toNat (k.ci n (((Q n).z 45).toNat*4+2)).toNat (k.ci n (((Q n).z 45).toNat*4+3)) (Ni (Q n).z) C).2:=by
   unfold jk;rw[if_pos hx]
  have h0:k.ci n (((Q n).z 45).toNat*4)≠0:=fun e0=>by have:=hx.2;rw[e0]at this;unfold Xy at this;omega
  rw[e];refine(M10 h hN tN hn h45 hx.1 hx.2 yQ Pm hl hF hwl).mono fun e' w' x=>?_;simpa[yq,TB.sent,h0]using x
 ·have e:jk (k.n n) (k.ci n) ins (Q n).z C=(tj (k.n n) (k.ci n) (Q n).z).with C:=by unfold jk;rw[if_neg hx]
  rw[e,gB,Out.LK];exact EP h hN tN hn h45 hm (fun h1 h2=>hx ⟨h1,h2⟩)
end
def LsW(w:ui)(v:ti)(xs:List Int)(r:Option Row):Prop:=
 (r=Ai/\v=.slice Ai 0 0/\xs=[])\/∃r',r=yi r'/\Ei w r'.g r'.m r'.t r'.f/\r'.t=2/\v=.slice (yi ⟨r'.g,0,Ai⟩) xs.length r'.m/\xs.length<=r'.m/\r'.m<=maxLen/\∀j,j<xs.length->r'.f j=.int .i64 (xs.getD j 0)
structure ChW(w:ui)(fq fs:Nat->ti)(c:Jl)(i:Nat)(rw rs:Option Row):Prop where
 wait:LsW w (fq (i*3)) c.wait rw
 sent:LsW w (fq (i*3+1)) c.sent rs
 lost:fq (i*3+2)=.int .i64 c.lost
 shown:fs (i*4)=.int .i64 c.shown
 age:fs (i*4+1)=.int .i64 c.age
 En:fs (i*4+2)=.int .i64 c.En
 anew:fs (i*4+3)=.bool c.anew
structure NtX(w:ui)(K:Nl)(C:Nat->Jl)(lr:Nat->Option Row)(fq fs:Nat->ti):Prop where
 q:Ei w K.qb K.qm 156 fq
 s:Ei w K.sb K.sm 158 fs
 ch:∀i,i<K.k->ChW w fq fs (C i) i (lr (2*i)) (lr (2*i+1))
structure VJ(w:ui)(K:Nl)(C:Nat->Jl)(lr:Nat->Option Row):Prop where
 out:∀j,2*K.k<=j->lr j=Ai
 ne:∀j j' r r',lr j=yi r->lr j'=yi r'->j≠j'->r.g≠r'.g
 row:∀j r,lr j=yi r->Ei w r.g r.m r.t r.f/\r.t=2
 x:0<K.k->∃fq fs,NtX w K C lr fq fs
def Ak(K:Nl)(lr:Nat->Option Row)(b:Nat):Prop:=(0<K.k/\(b=K.qb\/b=K.sb))\/∃j r,lr j=yi r/\r.g=b
theorem LsW.of_heap{w w':ui}{v:ti}{xs:List Int}{r:Option Row}(h:LsW w v xs r)(hk:∀r',r=yi r'->w'.heap[r'.g]?=w.heap[r'.g]?):LsW w' v xs r:=by
 rcases h with h|⟨r',h1,h2,h3⟩
 ·exact .inl h
 ·exact .inr ⟨r',h1,h2.of_heap (hk r' h1),h3⟩
section
variable {w w':ui}{K:Nl}{C:Nat->Jl}{lr:Nat->Option Row}
theorem VJ.keep(h:VJ w K C lr)(hk:∀b,Ak K lr b->w'.heap[b]?=w.heap[b]?):VJ w' K C lr:=by
 refine⟨h.out,h.ne,fun j r hj=>⟨(h.row j r hj).1.of_heap (hk _ (.inr ⟨j,r,hj,rfl⟩)),(h.row j r hj).2⟩,fun h0=>?_⟩;obtain⟨fq,fs,hx⟩:=h.x h0;exact⟨fq,fs,hx.q.of_heap (hk _ (.inl ⟨h0,.inl rfl⟩)),hx.s.of_heap (hk _ (.inl ⟨h0,.inr rfl⟩)),fun i hi=>⟨(hx.ch i hi).wait.of_heap fun r hr=>hk _ (.inr ⟨_,r,hr,rfl⟩),(hx.ch i hi).sent.of_heap fun r hr=>hk _ (.inr ⟨_,r,hr,rfl⟩),(hx.ch i hi).lost,(hx.ch i hi).shown,(hx.ch i hi).age,(hx.ch i hi).En,(hx.ch i hi).anew⟩⟩
theorem VJ.at(h:VJ w K C lr){b:Nat}(hb:Ak K lr b):∃m t f,Ei w b m t f/\(t=156\/t=158\/t=2):=by
 rcases hb with⟨h0,hb⟩|⟨j,r,hj,rfl⟩
 ·obtain⟨fq,fs,hx⟩:=h.x h0;rcases hb with rfl|rfl
  ·exact⟨_,_,_,hx.q,.inl rfl⟩
  ·exact⟨_,_,_,hx.s,.inr (.inl rfl)⟩
 ·exact⟨_,_,_,(h.row j r hj).1,.inr (.inr (h.row j r hj).2)⟩
theorem VJ.lt(h:VJ w K C lr){b:Nat}(hb:Ak K lr b):b<w.heap.size:=by
 obtain⟨m,t,f,hr,_⟩:=h.at hb;exact hr.lt
theorem jO(lr:Nat->Option Row):∀n:Nat,∃(rl:List Row)(p:Nat->Option Nat),(∀j,n<=j->p j=Ai)/\(∀j,j<n->(lr j=Ai/\p j=Ai)\/∃r x,lr j=yi r/\p j=yi x/\rl[x]?=yi r)/\(∀j j' x,p j=yi x->p j'=yi x->j=j')/\(∀x r,rl[x]?=yi r->∃j,j<n/\p j=yi x/\lr j=yi r)
 |0=>⟨[],fun _=>Ai,fun _ _=>rfl,fun j hj=>absurd hj (Nat.not_lt_zero j),fun _ _ _ h=>X3,fun x r h=>X3⟩
 |n+1=>by
  obtain⟨rl,p,h1,h2,h3,h4⟩:=jO lr n;cases hn:lr n with
  |none=>
   refine⟨rl,p,fun j hj=>h1 j E0,fun j hj=>?_,h3,fun x r hx=>?_⟩
   ·by_cases e:j=n
    ·subst e;exact .inl ⟨hn,h1 j E0⟩
    ·exact h2 j E0
   ·obtain⟨j,hj,e⟩:=h4 x r hx;exact⟨j,E0,e⟩
  |some r0=>
   have pl:∀j x,p j=yi x->x<rl.length:=fun j x hp=>by
    by_cases hj:j<n
    ·rcases h2 j hj with⟨_,e⟩|⟨r,x',_,e,e2⟩
     ·rw[e]at hp;cases hp
     ·rw[e]at hp;cases hp;exact(List.getElem?_eq_some_iff.1 e2).1
    ·rw[h1 j E0]at hp;cases hp
   have ps:uN p n (yi rl.length) n=yi rl.length:=Vl _ _ _;have pn:∀j,j≠n->uN p n (yi rl.length) j=p j:=fun j hj=>Es _ _ hj;refine⟨rl++[r0],uN p n (yi rl.length),fun j hj=>by rw[pn j E0];exact h1 j E0,fun j hj=>?_,fun j j' x hx py=>?_,fun x r hx=>?_⟩
   ·by_cases e:j=n
    ·subst e;exact .inr ⟨r0,rl.length,hn,ps,P0⟩
    ·rw[pn j e];rcases h2 j E0 with h|⟨r,x,e1,e2,e3⟩
     ·exact .inl h
     ·exact .inr ⟨r,x,e1,e2,by rw[List.getElem?_append_left (pl j x e2)];exact e3⟩
   ·by_cases e:j=n
    ·by_cases e':j'=n
     ·omega
     ·subst e;rw[ps]at hx;rw[pn j' e']at py;have:=pl _ _ py;have:=Option.some.inj hx;omega
    ·by_cases e':j'=n
     ·subst e';rw[ps]at py;rw[pn j e]at hx;have:=pl _ _ hx;have:=Option.some.inj py;omega
     ·rw[pn j e]at hx;rw[pn j' e']at py;exact h3 j j' x hx py
   ·rw[List.getElem?_append]at hx;by_cases hl:x<rl.length
    ·rw[if_pos hl]at hx;obtain⟨j,hj,e1,e2⟩:=h4 x r hx;exact⟨j,E0,by rw[pn j E0];exact e1,e2⟩
    ·rw[if_neg hl,List.getElem?_singleton]at hx;split at hx
     ·rename_i lP
      have:x=rl.length:=E0;subst this;cases hx;exact⟨n,E0,ps,hn⟩
     ·cases hx
theorem VJ.lay(h:VJ w K C lr):∃rn,NR K rn C/\(∀(i:Nat)(r:Row),rn[i]?=yi r->Ei w r.g r.m r.t r.f/\Ak K lr r.g)/\∀(i j:Nat)(r s:Row),rn[i]?=yi r->rn[j]?=yi s->i≠j->r.g≠s.g:=by
 by_cases h0:0<K.k
 ·obtain⟨fq,fs,hx⟩:=h.x h0;obtain⟨rl,p,h1,h2,h3,h4⟩:=jO lr (2*K.k);have ty:∀(x:Nat)(r:Row),rl[x]?=yi r->Ei w r.g r.m r.t r.f/\r.t=2/\Ak K lr r.g:=fun x r hr=>by
   obtain⟨j,_,_,e⟩:=h4 x r hr;exact⟨(h.row j r e).1,(h.row j r e).2,.inr ⟨j,r,e,rfl⟩⟩
  have ls:∀j v xs,j<2*K.k->LsW w v xs (lr j)->Qs (Ko K fq::um K fs::rl) v xs ((p j).map (·+2)):=fun j v xs hj hl=>by
   rcases h2 j hj with⟨e1,e2⟩|⟨r,x,e1,e2,e3⟩
   ·rw[e1]at hl;rw[e2];rcases hl with⟨_,hl⟩|⟨r',hl,_⟩
    ·exact .inl ⟨rfl,hl⟩
    ·cases hl
   ·rw[e1]at hl;rw[e2];rcases hl with⟨hl,_⟩|⟨r',hl,g1,g2,g3,g4,g5,g6⟩
    ·cases hl
    ·cases hl;exact .inr ⟨x+2,r,rfl,e3,g2,g3,g4,g5,g6⟩
  have qs:K.qb≠K.sb:=rows_apart hx.q hx.s U0;refine⟨Ko K fq::um K fs::rl,fun _=>⟨fq,fs,fun j=>(p j).map (·+2),rfl,rfl,fun i hi=>?_,fun j x hj=>?_,fun j j' x hj Vs=>?_⟩,fun i r hr=>?_,fun i j r s hr hs Jj=>?_⟩
  ·have hc:=hx.ch i hi;exact⟨ls _ _ _ E0 hc.wait,ls _ _ _ E0 hc.sent,hc.lost,hc.shown,hc.age,hc.En,hc.anew⟩
  ·cases hp:p j with
   |none=>simp[hp]at hj
   |some y=>simp[hp]at hj;omega
  ·cases hp:p j with
   |none=>simp[hp]at hj
   |some y=>
    cases yO:p j' with
    |none=>simp[yO]at Vs
    |some y'=>
     simp[hp]at hj;simp[yO]at Vs;exact h3 j j' y hp (by rw[yO];congr 1;omega)
  ·match i,hr with
   |0,hr=>cases hr;exact⟨hx.q,.inl ⟨h0,.inl rfl⟩⟩
   |1,hr=>cases hr;exact⟨hx.s,.inl ⟨h0,.inr rfl⟩⟩
   |i+2,hr=>exact⟨(ty i r hr).1,(ty i r hr).2.2⟩
  ·have lq:∀(x:Nat)(r:Row),rl[x]?=yi r->K.qb≠r.g/\K.sb≠r.g:=fun x r hr=>by
    obtain⟨a,b,_⟩:=ty x r hr;exact⟨rows_apart hx.q a (by rw[b];decide),rows_apart hx.s a (by rw[b];decide)⟩
   match i,j,hr,hs with
   |0,0,_,_=>exact absurd rfl Jj
   |0,1,hr,hs=>cases hr;cases hs;exact qs
   |1,0,hr,hs=>cases hr;cases hs;exact qs.symm
   |1,1,_,_=>exact absurd rfl Jj
   |0,j+2,hr,hs=>cases hr;exact(lq j s hs).1
   |1,j+2,hr,hs=>cases hr;exact(lq j s hs).2
   |i+2,0,hr,hs=>cases hs;exact(lq i r hr).1.symm
   |i+2,1,hr,hs=>cases hs;exact(lq i r hr).2.symm
   |i+2,j+2,hr,hs=>
    obtain⟨a,_,a1,a2⟩:=h4 i r hr;obtain⟨b,_,b1,b2⟩:=h4 j s hs;refine h.ne a b r s a2 b2 fun e=>?_;subst e;rw[a1]at b1;have:=Option.some.inj b1;omega
 ·exact⟨[],fun h=>absurd h h0,fun i r h=>X3,fun i j r s h=>X3⟩
theorem VJ.back{rn:List Row}(hN:NR K rn C)(hr:∀(i:Nat)(r:Row),rn[i]?=yi r->Ei w r.g r.m r.t r.f)(Jj:∀(i j:Nat)(r s:Row),rn[i]?=yi r->rn[j]?=yi s->i≠j->r.g≠s.g):∃Vr,VJ w K C Vr/\∀b,Ak K Vr b->(0<K.k/\(b=K.qb\/b=K.sb))\/∃(i:Nat)(r:Row),rn[i]?=yi r/\r.g=b:=by
 by_cases h0:0<K.k
 ·obtain⟨fq,fs,p,hx⟩:=hN h0;have ty:∀j r,j<2*K.k->(p j).bind (rn[·]?)=yi r->r.t=2:=fun j r hj e=>by
   have hm:j/2<K.k:=E0;have key:∀v xs,Qs rn v xs (p j)->r.t=2:=fun v xs hl=>by
    rcases hl with⟨e0,_⟩|⟨k,r',e0,e1,e2,_⟩
    ·rw[e0]at e;cases e
    ·rw[e0]at e;have e:rn[k]?=yi r:=e;rw[e1]at e;cases e;exact e2
   rcases Nat.mod_two_eq_zero_or_one j with e0|e0
   ·have:=(hx.ch _ hm).wait;rw[show 2*(j/2)=j by omega]at this;exact key _ _ this
   ·have:=(hx.ch _ hm).sent;rw[show 2*(j/2)+1=j by omega]at this;exact key _ _ this
  have pos:∀j r,(p j).bind (rn[·]?)=yi r->∃x,p j=yi x/\rn[x]?=yi r:=fun j r e=>by
   cases hp:p j with
   |none=>rw[hp]at e;cases e
   |some x=>rw[hp]at e;exact⟨x,rfl,e⟩
  let Vr:Nat->Option Row:=fun j=>if j<2*K.k then (p j).bind (rn[·]?)else Ai
  have I70:∀j,j<2*K.k->Vr j=(p j).bind (rn[·]?):=fun j hj=>if_pos hj;have lG:∀j r,Vr j=yi r->j<2*K.k/\(p j).bind (rn[·]?)=yi r:=fun j r e=>by
   by_cases hj:j<2*K.k
   ·rw[I70 j hj]at e;exact⟨hj,e⟩
   ·have:Vr j=none:=if_neg hj;rw[this]at e;cases e
  have lw:∀j v xs,j<2*K.k->Qs rn v xs (p j)->LsW w v xs (Vr j):=fun j v xs hj hl=>by
   rw[I70 j hj];rcases hl with⟨e0,e1⟩|⟨k,r',e0,e1,e2⟩
   ·rw[e0];exact .inl ⟨rfl,e1⟩
   ·rw[e0];exact .inr ⟨r',e1,hr k r' e1,e2⟩
  refine⟨Vr,⟨fun j hj=>if_neg E0,fun j j' r r' hj Vs hn=>?_,fun j r hj=>?_,fun _=>⟨fq,fs,hr 0 _ hx.q,hr 1 _ hx.s,fun i hi=>?_⟩⟩,fun b hb=>?_⟩
  ·obtain⟨a1,a2⟩:=lG j r hj;obtain⟨b1,b2⟩:=lG j' r' Vs;obtain⟨x,x1,x2⟩:=pos j r a2;obtain⟨y,y1,y2⟩:=pos j' r' b2;exact Jj x y r r' x2 y2 fun e=>hn (hx.inj j j' x x1 (by rw[y1,e]))
  ·obtain⟨a1,a2⟩:=lG j r hj;obtain⟨x,x1,x2⟩:=pos j r a2;exact⟨hr x r x2,ty j r a1 a2⟩
  ·have hc:=hx.ch i hi;exact⟨lw _ _ _ E0 hc.wait,lw _ _ _ E0 hc.sent,hc.lost,hc.shown,hc.age,hc.En,hc.anew⟩
  ·rcases hb with hb|⟨j,r,hj,rfl⟩
   ·exact .inl hb
   ·obtain⟨a1,a2⟩:=lG j r hj;obtain⟨x,x1,x2⟩:=pos j r a2;exact .inr ⟨x,r,x2,rfl⟩
 ·refine⟨fun _=>Ai,⟨fun _ _=>rfl,fun _ _ _ _ h=>X3,fun _ _ h=>X3,fun h=>absurd h h0⟩,fun b hb=>?_⟩;rcases hb with hb|⟨j,r,hj,_⟩
  ·exact .inl hb
  ·cases hj
end
def Dp(c:Jl)(x:Int):Jl:=if c.wait.length<4 then {c with wait:=c.wait++[x]}else {c with lost:=IntKind.i64.wrap (c.lost+1)}
def Js(c:Jl):Jl:={c.sent.foldl Dp c with sent:=[]}
def Tv(c:Jl):Jl:=if c.anew=ji then {c with shown:=c.En,age:=0,En:=0,anew:=gi}else if c.age=-1 then c else {c with age:=IntKind.i64.wrap (c.age+1)}
theorem IV{c:Jl}{x:Int}(h:c.wait.length<=4):(Dp c x).wait.length<=4:=by
 unfold Dp;split
 ·simp;omega
 ·exact h
theorem QN:∀(xs:List Int)(c:Jl),c.wait.length<=4->(xs.foldl Dp c).wait.length<=4
 | [],_,h=>h
 |x::xs,c,h=>QN xs (Dp c x) (IV h)
theorem y30{c:Jl}(h:c.wait.length<=4):(Js c).wait.length<=4:=QN c.sent c h
def Ft(k:Nat)(h:Jl->Jl)(C:Nat->Jl)(i:Nat):Jl:=if i<k then h (C i)else C i
theorem bF(h:Jl->Jl)(C:Nat->Jl):Ft 0 h C=C:=funext fun i=>if_neg E0
theorem xF(h:Jl->Jl)(C:Nat->Jl)(k:Nat):Ft (k+1) h C=uN (Ft k h C) k (h (C k)):=funext fun i=>by
 by_cases e:i=k
 ·subst e;rw[Vl];exact if_pos E0
 ·rw[Es _ _ e];unfold Ft;by_cases h1:i<k
  ·rw[if_pos E0,if_pos h1]
  ·rw[if_neg E0,if_neg h1]
theorem dA(h:Jl->Jl)(C:Nat->Jl)(k:Nat):Ft k h C k=C k:=if_neg E0
def VD(k:Nat)(C:Nat->Jl):Nat->Jl:=Ft k Tv (Ft k Js C)
section
variable {K:Nl}{rn:List Row}{C:Nat->Jl}{fq fs:Nat->ti}{p:Nat->Option Nat}{i:Nat}
theorem tC.wait(h:tC K rn C fq fs p)(hi:i<K.k){xs:List Int}{v':ti}{Fp:List Row}{q:Option Nat}(h0:Fp[0]?=yi ((Ko K fq).put (i*3) v'))(hl:Qs Fp v' xs q)(hq:q=p (2*i)\/q=yi rn.length)(hk:∀k,k≠0->p (2*i)≠yi k->k<rn.length->Fp[k]?=rn[k]?):
  tC K Fp (uN C i {C i with wait:=xs}) (upd fq (i*3) v') fs (fun j=>if j<2*K.k then (if j=2*i then q else p j)else Ai):=by
 have l1:=(List.getElem?_eq_some_iff.1 h.s).1;refine⟨h0,?_,fun j hj=>?_,fun j y hy=>?_,fun j j' y hy Uw=>?_⟩
 ·rw[hk 1 E0 (fun e=>by have:=h.two _ _ e;omega) l1];exact h.s
 ·have hc:=h.ch j hj;have Wi:=fun{x:Nat}=>h.lt hj (x:=x);have ks:∀{v xs q'} (jj:Nat),q'=p jj->jj≠2*i->(∀y,q'=yi y->y<rn.length)->Qs rn v xs q'->Qs Fp v xs q':=fun jj e Jj hb hl=>hl.same fun y hy=>hk y (by have:=h.two jj y (e▸hy);omega) (fun e2=>Jj (h.inj jj _ y (e▸hy) e2)) (hb y hy);have a2:=ks (2*j+1) rfl E0 (fun y hy=>Wi.2 hy) hc.sent;show ChR Fp _ fs _ j (if 2*j<2*K.k then (if 2*j=2*i then q else p (2*j))else Ai) (if 2*j+1<2*K.k then (if 2*j+1=2*i then q else p (2*j+1))else Ai);rw[if_pos (show 2*j<2*K.k by omega),if_pos (show 2*j+1<2*K.k by omega),if_neg (show ¬2*j+1=2*i by omega)];by_cases Yq:j=i
  ·subst Yq;rw[Vl,if_pos rfl];exact⟨by rw[upd_same];exact hl,l8,a8,hc.shown,hc.age,hc.En,hc.anew⟩
  ·rw[Es _ _ Yq,if_neg E0];have a1:=ks (2*j) rfl E0 (fun y hy=>Wi.1 hy) hc.wait;exact Bd
 ·change (if j<2*K.k then (if j=2*i then q else p j)else Ai)=yi y at hy;by_cases hj:j<2*K.k
  ·rw[if_pos hj]at hy;by_cases e:j=2*i
   ·rw[if_pos e]at hy;rcases hq with rfl|rfl
    ·exact h.two _ _ hy
    ·have:=Option.some.inj hy;omega
   ·rw[if_neg e]at hy;exact h.two _ _ hy
  ·rw[if_neg hj]at hy;cases hy
 ·change (if j<2*K.k then (if j=2*i then q else p j)else Ai)=yi y at hy;change (if j'<2*K.k then (if j'=2*i then q else p j')else Ai)=yi y at Uw;have hb:∀m,m<2*K.k->p m=yi rn.length->False:=fun m hm e=>by
   have hm2:m/2<K.k:=E0;rcases Nat.mod_two_eq_zero_or_one m with e0|e0
   ·have:m=2*(m/2):=by omega
    rw[this]at e;exact absurd ((h.lt hm2).1 e) E0
   ·have:m=2*(m/2)+1:=by omega
    rw[this]at e;exact absurd ((h.lt hm2).2 e) E0
  by_cases hj:j<2*K.k
  ·by_cases Vs:j'<2*K.k
   ·rw[if_pos hj]at hy;rw[if_pos Vs]at Uw;by_cases e:j=2*i
    ·by_cases e':j'=2*i
     ·omega
     ·rw[if_pos e]at hy;rw[if_neg e']at Uw;rcases hq with rfl|rfl
      ·exact rh
      ·cases hy;exact(hb j' Vs Uw).elim
    ·rw[if_neg e]at hy;by_cases e':j'=2*i
     ·rw[if_pos e']at Uw;rcases hq with rfl|rfl
      ·exact rh
      ·cases Uw;exact(hb j hj hy).elim
     ·rw[if_neg e']at Uw;exact h.inj _ _ _ hy Uw
   ·rw[if_neg Vs]at Uw;cases Uw
  ·rw[if_neg hj]at hy;cases hy
theorem tC.clear(h:tC K rn C fq fs p)(hi:i<K.k):tC K (rn.set 0 ((Ko K fq).put (i*3+1) (.slice Ai 0 0))) (uN C i {C i with sent:=[]}) (upd fq (i*3+1) (.slice Ai 0 0)) fs (uN p (2*i+1) Ai):=by
 refine⟨Qi h.q _,v8,fun j hj=>?_,fun j y hy=>?_,fun j j' y hy Uw=>?_⟩
 ·have hc:=h.ch j hj;have hs:∀{v xs q},Qs rn v xs q->(∀y,q=yi y->2<=y)->Qs (rn.set 0 ((Ko K fq).put (i*3+1) (.slice Ai 0 0))) v xs q:=fun hl h2=>hl.same fun y hy=>Yi B6 _;have a1:=hs hc.wait (h.two _);have a2:=hs hc.sent (h.two _);rw[Es p _ (show 2*j≠2*i+1 by omega)];by_cases Yq:j=i
  ·subst Yq;rw[Vl,Vl];exact⟨j8,.inl ⟨rfl,upd_same _ _ _,rfl⟩,a8,hc.shown,hc.age,hc.En,hc.anew⟩
  ·rw[Es _ _ Yq,Es p _ (show 2*j+1≠2*i+1 by omega)];exact Bd
 ·by_cases e:j=2*i+1
  ·subst e;rw[Vl]at hy;cases hy
  ·rw[Es _ _ e]at hy;exact h.two _ _ hy
 ·by_cases e:j=2*i+1
  ·subst e;rw[Vl]at hy;cases hy
  ·by_cases e':j'=2*i+1
   ·subst e';rw[Vl]at Uw;cases Uw
   ·rw[Es _ _ e]at hy;rw[Es _ _ e']at Uw;exact h.inj _ _ _ hy Uw
theorem tC.lL(h:tC K rn C fq fs p)(hi:i<K.k){g:Nat->ti}{c:Jl}(hw:c.wait=(C i).wait)(hs:c.sent=(C i).sent)(hl:c.lost=(C i).lost)(h0:g (i*4)=.int .i64 c.shown)(h1:g (i*4+1)=.int .i64 c.age)(h2:g (i*4+2)=.int .i64 c.En)(h3:g (i*4+3)=.bool c.anew)(ho:∀j,j/4≠i->g j=fs j):tC K (rn.set 1 (um K g)) (uN C i c) fq g p:=by
 refine⟨y8,Qi h.s _,fun j hj=>?_,h.two,h.inj⟩;have hc:=h.ch j hj;have ks:∀{v xs q},Qs rn v xs q->(∀y,q=yi y->2<=y)->Qs (rn.set 1 (um K g)) v xs q:=fun hl h2=>hl.same fun y hy=>Yi B6 _;have a1:=ks hc.wait (h.two _);have a2:=ks hc.sent (h.two _);by_cases Yq:j=i
 ·subst Yq;rw[Vl];exact⟨by rw[hw];exact a1,by rw[hs];exact a2,by rw[hl];exact hc.lost,h0,h1,h2,h3⟩
 ·rw[Es _ _ Yq];exact⟨a1,a2,hc.lost,by rw[ho _ E0];exact hc.shown,by rw[ho _ E0];exact hc.age,by rw[ho _ E0];exact hc.En,by rw[ho _ E0];exact hc.anew⟩
end
section
variable {P:Program}{main:Bool}{R R':ui->ui->Prop}{D D':ui->ui->Array Event->Prop}{I:ui->ui->Prop}{Stop:Goroutine->ui->Prop}{g:Goroutine}{w:ui}
theorem Ci.inv(hI:∀a b c,I a b->I b c->I a c)(hr:∀a b,R' a b->R a b)(hd:∀a b es,D a b es->D' a b es)(i1:∀a b,R' a b->I a b)(i2:∀a b es,D a b es->I a b)(h:Ci P main R D Stop g w):Ci P main R' D' (fun g w'=>Stop g w'/\I w w') g w:=by
 induction h with
 |stop hs h=>exact .stop hs fun w1 h1=>⟨h w1 (hr _ _ h1),i1 _ _ h1⟩
 |step nx hs h1 h2 ih=>exact .step nx hs (fun w1 r=>⟨(h1 w1 (hr _ _ r)).1,hd _ _ _ (h1 w1 (hr _ _ r)).2⟩) fun w1 r=>(ih w1 (hr _ _ r)).mono fun g w' x=>⟨x.1,hI _ _ _ (i1 _ _ r) (hI _ _ _ (i2 _ _ _ (h1 w1 (hr _ _ r)).2) x.2)⟩
theorem Xi.solo{L:km}{f:FuncId}{args:Array ti}{Post:ti->ui->Prop}(h:Xi P ji L.R1 L.D1 f args w Post (fun _ _=>False))(st:∀v w w',Post v w->L.R1 w w'->Post v w'):Xi P ji RS DS f args w (fun v w'=>Post v w'/\w'.heap[L.c]?=w.heap[L.c]?) (fun _ _=>False):=fun cl cs Stop h1 _=>by
 have hg:=h cl cs (fun g w'=>∃v,Post v w'/\g=G (cl.finish v) cs) (fun v w' hp=>.stop rfl fun w1 r=>⟨v,st v _ _ hp r,rfl⟩) (fun _ _ x=>x.elim);refine(hg.inv (I:=fun a b=>b.heap[L.c]?=a.heap[L.c]?) (R':=RS) (D':=DS) (fun a b c x y=>y.trans x) (fun a b r=>by obtain⟨d,rfl⟩:=r;exact .at _ _) (fun a b es d e he=>(d.evs e he).1) (fun a b r=>by obtain⟨d,rfl⟩:=r;rfl) fun a b es d=>d.chan).bind (fun w=>⟨w.drawn,rfl⟩) fun g' w' ⟨⟨v,hp,e⟩,hc⟩=>?_;rw[e];exact h1 v w' ⟨hp,hc⟩
end
end Go.Proofs.YtdoghgnifkgfdaaGreat.Mute
