import Derived.Test.YtdoghgnifkgfdaaGreatP00
import Derived.Test.YtdoghgnifkgfdaaGreatP23
import Derived.Test.YtdoghgnifkgfdaaGreatP26
import Derived.Test.YtdoghgnifkgfdaaGreatP27
set_option maxRecDepth 100000
set_option maxHeartbeats 16000000
open Option renaming none->Ai,some->yi
open Go renaming World->ui,Value->ti,undef->ri
open Bool renaming true->ji,false->gi
namespace Go.Proofs.YtdoghgnifkgfdaaGreat.Mute
open Tryz Go Go.Conc Go.RowKit
structure RK where
 hi:Nat
 Kb:Nat
 Gc:Nat
 bo:Nat
 oo:Nat
 cq:Nat
 cb:Nat->Nat
 co:Nat->Nat
 cc:Nat->Nat
 iq:Nat->Option Addr
 ic:Nat->Nat
 nG:Nat->Nat
 img:Nat->Nat->Int
 lim:Nat->Int
 Lb:Nat
 kc:Nat
def Hm(r:RK)(w:ui)(b:Nat):Prop:=b<r.hi/\(b≠r.Gc/\b≠r.Lb)/\r.hi<=w.heap.size
structure Tn(w:ui)(k:Vu)(r:RK)(Q:Nat->RC)(m:Nat->Nat)(xs:Nat->List ti):Prop where
 h0:w.cell? ⟨r.Kb,0,Ai⟩=yi (.slice (yi ⟨r.bo,r.oo,Ai⟩) k.nC r.cq)
 h4:w.cell? ⟨r.Kb,4,Ai⟩=yi (.slice (yi ⟨r.Gc,0,Ai⟩) k.nC k.nC)
 sK:Hm r w r.Kb
 sb:Hm r w r.bo
 sc:∀i,i<k.nC->Hm r w (r.cb i)
 si:∀i,i<k.nC->∀b o,r.iq i=yi ⟨b,o,Ai⟩->Hm r w b
 oh:∀i b,i<k.nC->(Q i).v.ownBlock=yi b->r.hi<=b
 hc:∀i,i<k.nC->w.cell? ⟨r.bo,r.oo+i*3,Ai⟩=yi (.slice (yi ⟨r.cb i,r.co i,Ai⟩) (k.n i) (r.cc i))
 hi:∀i,i<k.nC->w.cell? ⟨r.bo,r.oo+i*3+1,Ai⟩=yi (.slice (r.iq i) (r.nG i) (r.ic i))
 hl:∀i,i<k.nC->w.cell? ⟨r.bo,r.oo+i*3+2,Ai⟩=yi (.int .i64 (r.lim i))
 code:∀i,i<k.nC->∀j,j<k.n i*4->w.cell? ⟨r.cb i,r.co i+j,Ai⟩=yi (.int .i64 (k.ci i j))
 bQ:∀i,i<k.nC->Sl w (r.iq i) (r.nG i) (fun j=>.int .i64 (r.img i j))
 row:Ei w r.Gc (k.nC*26) 131 (Sj Q)
 own:∀i,i<k.nC->w.ownsRow 0 111 3 (Q i).v (m i) (xs i)
 Un:∀i j,i<k.nC->j<k.nC->i≠j->∀b,(Q i).v.ownBlock=yi b->(Q j).v.ownBlock≠yi b
 g16:∀i,i<k.nC->r.nG i<=16
 n48:∀i,i<k.nC->k.n i<=48
 ok:∀i,i<k.nC->uq (k.n i) r.kc (k.ci i)
 fst:∀i,i<k.nC->∀j,3<=j->j<25->(Q i).z j=qt (r.lim i) (r.nG i) (r.img i) j
def Qo(l:List (Int×Int)):List Value:=l.flatMap fun x=>[.int .i64 x.1,.int .i64 x.2]
theorem jD(l:List (Int×Int))(x:Int×Int):Qo (l++[x])=Qo l++[.int .i64 x.1,.int .i64 x.2]:=by unfold Qo;simp
structure Om(w:ui)(nC:Nat)(r:RK)(Q:Nat->RC)(nl:Nat->List (Int×Int))(Ls:Nat->Ln)(F:Int)(inV:ti)(il:List (Int×Int)):Prop where
 h5:w.cell? ⟨r.Kb,5,Ai⟩=yi (.slice (yi ⟨r.Lb,0,Ai⟩) r.kc r.kc)
 h6:w.cell? ⟨r.Kb,6,Ai⟩=yi (.int .i64 F)
 h7:w.cell? ⟨r.Kb,7,Ai⟩=yi inV
 ino:w.ownsRow 0 59 2 inV il.length (Qo il)
 row:Ei w r.Lb (r.kc*5) 175 (Jm Ls)
 lo:r.Lb<r.hi/\r.Lb≠r.Gc/\r.Lb≠r.Kb/\r.kc<=1000/\il.length<=1000
 own:∀c,c<r.kc->w.ownsRow 0 2 1 (Ls c).wv (Ls c).ws.length (xy (Ls c).ws)
 Un:∀c c',c<r.kc->c'<r.kc->c≠c'->∀b,(Ls c).wv.ownBlock=yi b->(Ls c').wv.ownBlock≠yi b
 oh:∀c b,c<r.kc->(Ls c).wv.ownBlock=yi b->r.hi<=b
 yD:∀i,i<nC->w.ownsRow 0 177 2 (Q i).nt (nl i).length (Qo (nl i))
 YF:∀i j,i<nC->j<nC->i≠j->∀b,(Q i).nt.ownBlock=yi b->(Q j).nt.ownBlock≠yi b
 u_:∀i b,i<nC->(Q i).nt.ownBlock=yi b->r.hi<=b
section
variable {w w' w2:ui}{k:Vu}{r:RK}{Q:Nat->RC}{m:Nat->Nat}{xs:Nat->List ti}{n m' m2:Nat}{c' c2:RC}{xs' xs2:List ti}{nl:Nat->List (Int×Int)}{Ls:Nat->Ln}{F:Int}{inV:ti}{il:List (Int×Int)}
theorem Hm.Dq{b:Nat}(h:Hm r w b):b≠r.Gc:=h.2.1.1
theorem Hm.ot{b:Nat}(h:Hm r w b){v:ti}(ho:∀b,v.ownBlock=yi b->r.hi<=b):v.ownBlock≠yi b:=fun e=>by
 have h1:=h.1;have h2:=ho b e;omega
theorem Hm.to{b:Nat}(h:Hm r w b)(e:w.heap.size<=w'.heap.size):Hm r w' b:=⟨h.1,h.2.1,Nat.le_trans h.2.2 e⟩
theorem Hm.lt{b:Nat}(h:Hm r w b):b<w.heap.size:=Nat.lt_of_lt_of_le h.1 h.2.2
theorem Px{b b2 e e2 s s2 n n2 g:Nat}{v v2:ti}{ys ys2:List ti}(h:w.ownsRow b e s v n ys)(h2:w.ownsRow b2 e2 s2 v2 n2 ys2)(he:e≠e2)(hg:v.ownBlock=yi g):v2.ownBlock≠yi g:=fun hg2=>by
 rcases h.2 with⟨rfl,_⟩|⟨g1,cap,cur,rfl,_,hh,_⟩
 ·cases hg
 ·rcases h2.2 with⟨rfl,_⟩|⟨g3,cap2,dp0,rfl,_,y_,_⟩
  ·cases hg2
  ·obtain rfl:g1=g:=by simpa[Value.ownBlock]using hg
   obtain rfl:g3=g1:=by simpa[Value.ownBlock]using hg2
   rw[hh]at y_;injection y_ with y_
   injection y_ with _ y_
   exact he y_
theorem xj{b e s n g t a:Nat}{v:ti}{ys:List ti}{f:Nat->ti}(h:w.ownsRow b e s v n ys)(hr:Ei w g a t f)(he:e≠t):v.ownBlock≠yi g:=fun hg=>by
 rcases h.2 with⟨rfl,_⟩|⟨g1,cap,cur,rfl,_,hh,_⟩
 ·cases hg
 ·obtain rfl:g1=g:=by simpa[Value.ownBlock]using hg
  obtain⟨cs,hc,_⟩:=hr;rw[hh]at hc;injection hc with hc
  injection hc with _ hc
  exact he hc
structure fJ(w:ui)(Gc Lb nC n:Nat)(Q:Nat->RC)(c':RC)(m':Nat)(xs':List ti)(w':ui):Prop where
 row:Ei w' Gc (nC*26) 131 (Sj (fj Q n c'))
 but:ak (fun j=>(j=Gc\/j=Lb)\/(Q n).v.ownBlock=yi j\/(Q n).nt.ownBlock=yi j) w w'
 own:w'.ownsRow 0 111 3 c'.v m' xs'
 blk:∀b,c'.v.ownBlock=yi b->(Q n).v.ownBlock=yi b\/w.heap.size<=b
 iI:∀b,c'.nt.ownBlock=yi b->(Q n).nt.ownBlock=yi b\/w.heap.size<=b
theorem fJ.trans{Gc Lb nC:Nat}(h:fJ w Gc Lb nC n Q c' m' xs' w')(h2:fJ w' Gc Lb nC n (fj Q n c') c2 m2 xs2 w2):fJ w Gc Lb nC n Q c2 m2 xs2 w2:=by
 have b2:=h2.blk;have n2:=h2.iI;have t2:=h2.but;rw[Oi]at b2 n2 t2;refine⟨by have:=h2.row;rwa [Yk]at this,h.but.trans t2 (fun _ x=>x) (fun j hj x=>?_),h2.own,fun b hb=>?_,fun b hb=>?_⟩
 ·rcases x with x|x|x
  ·exact .inl x
  ·rcases h.blk j x with x|x
   ·exact .inr (.inl x)
   ·omega
  ·rcases h.iI j x with x|x
   ·exact .inr (.inr x)
   ·omega
 ·rcases b2 b hb with x|x
  ·exact h.blk b x
  ·exact zf
 ·rcases n2 b hb with x|x
  ·exact h.iI b x
  ·exact zf
theorem Tn.stat(h:Tn w k r Q m xs)(hN:Om w k.nC r Q nl Ls F inV il)(hn:n<k.nC)(hA:ak (fun j=>(j=r.Gc\/j=r.Lb)\/(Q n).v.ownBlock=yi j\/(Q n).nt.ownBlock=yi j) w w'){b:Nat}(hs:Hm r w b):w'.heap[b]?=w.heap[b]?:=hA.block b hs.lt (fun e=>by
 rcases e with (e|e)|e|e
 ·exact hs.2.1.1 e
 ·exact hs.2.1.2 e
 ·exact hs.ot (fun b=>h.oh n b hn) e
 ·exact hs.ot (fun b=>hN.u_ n b hn) e)
theorem Tn.aft(h:Tn w k r Q m xs)(hN:Om w k.nC r Q nl Ls F inV il)(hn:n<k.nC)(Nk:Ei w' r.Gc (k.nC*26) 131 (Sj (fj Q n c')))(Xn:ak (fun j=>(j=r.Gc\/j=r.Lb)\/(Q n).v.ownBlock=yi j\/(Q n).nt.ownBlock=yi j) w w')(rj:w'.ownsRow 0 111 3 c'.v m' xs')(hblk:∀b,c'.v.ownBlock=yi b->(Q n).v.ownBlock=yi b\/w.heap.size<=b)(hz:∀j,3<=j->j<25->c'.z j=(Q n).z j):Tn w' k r (fj Q n c') (fj m n m') (fj xs n xs'):=by
 have kk:∀{b:Nat},Hm r w b->w'.heap[b]?=w.heap[b]?:=fun {b} hs=>h.stat hN hn Xn hs;have NG:∀i,i<k.nC->i≠n->∀b,(Q i).v.ownBlock=yi b->b<w.heap.size/\w'.heap[b]?=w.heap[b]?:=fun i hi Jj b hb=>by
  have Wi:=Io (h.own i hi) hb;refine⟨Wi,Xn.block b Wi (fun e=>?_)⟩;rcases e with (e|e)|e|e
  ·exact xj (h.own i hi) h.row U0 D4
  ·exact xj (h.own i hi) hN.row U0 D4
  ·exact h.Un i n hi hn Jj b hb e
  ·exact Px (h.own i hi) (hN.yD n hn) U0 hb e
 refine⟨(cell_of_heap (a:=⟨r.Kb,0,Ai⟩) (kk h.sK)).trans h.h0,(cell_of_heap (a:=⟨r.Kb,4,Ai⟩) (kk h.sK)).trans h.h4,h.sK.to Xn.size,h.sb.to Xn.size,fun i hi=>(h.sc i hi).to Xn.size,fun i hi b o e=>(h.si i hi b o e).to Xn.size,fun i b hi hb=>?_,
  fun i hi=>(cell_of_heap (a:=⟨r.bo,r.oo+i*3,Ai⟩) (kk h.sb)).trans (h.hc i hi),fun i hi=>(cell_of_heap (a:=⟨r.bo,r.oo+i*3+1,Ai⟩) (kk h.sb)).trans (h.hi i hi),fun i hi=>(cell_of_heap (a:=⟨r.bo,r.oo+i*3+2,Ai⟩) (kk h.sb)).trans (h.hl i hi),
  fun i hi j hj=>(cell_of_heap (a:=⟨r.cb i,r.co i+j,Ai⟩) (kk (h.sc i hi))).trans (h.code i hi j hj),fun i hi=>?_,Nk,fun i hi=>?_,fun i j hi hj Jj b hb uk=>?_,h.g16,h.n48,h.ok,fun i hi j h3 bO=>?_⟩
 ·by_cases e:i=n
  ·subst e;rw[Oi]at hb;rcases hblk b hb with hb|hb
   ·exact h.oh i b hi hb
   ·exact Nat.le_trans h.sK.2.2 hb
  ·rw[cj _ _ e]at hb;exact h.oh i b hi hb
 ·rcases h.bQ i hi with e|⟨b,o,e,hc⟩
  ·exact .inl e
  ·exact .inr ⟨b,o,e,fun j hj=>(cell_of_heap (a:=⟨b,o+j,Ai⟩) (kk (h.si i hi b o e))).trans (hc j hj)⟩
 ·by_cases e:i=n
  ·subst e;rw[Oi,Oi,Oi];exact rj
  ·rw[cj _ _ e,cj _ _ e,cj _ _ e];exact Rk (h.own i hi) fun b hb=>(NG i hi e b hb).2
 ·by_cases e:i=n
  ·subst e;have Vs:j≠i:=fun x=>Jj x.symm;rw[cj _ _ Vs]at uk;rw[Oi]at hb;rcases hblk b hb with hb|hb
   ·exact Ee
   ·have:=(NG j hj Vs b uk).1;omega
  ·rw[cj _ _ e]at hb;by_cases e2:j=n
   ·subst e2;rw[Oi]at uk;rcases hblk b uk with uk|uk
    ·exact Ee
    ·have:=(NG i hi e b hb).1;omega
   ·rw[cj _ _ e2]at uk;exact Ee
 ·by_cases e:i=n
  ·subst e;rw[Oi,hz j h3 bO];exact h.fst i hi j h3 bO
  ·rw[cj _ _ e];exact h.fst i hi j h3 bO
theorem Tn.after(h:Tn w k r Q m xs)(hN:Om w k.nC r Q nl Ls F inV il)(hn:n<k.nC)(hA:fJ w r.Gc r.Lb k.nC n Q c' m' xs' w')(hz:∀j,3<=j->j<25->c'.z j=(Q n).z j):Tn w' k r (fj Q n c') (fj m n m') (fj xs n xs'):=h.aft hN hn hA.row hA.but hA.own hA.blk hz
theorem Om.same(hN:Om w k.nC r Q nl Ls F inV il)(h:Tn w k r Q m xs)(hn:n<k.nC)(hb:ak (fun j=>j=r.Gc\/(Q n).v.ownBlock=yi j) w w')(hc:c'.nt=(Q n).nt):Om w' k.nC r (fj Q n c') nl Ls F inV il:=by
 have ty:∀{b e s n2:Nat}{v:ti}{ys:List ti},w.ownsRow b e s v n2 ys->e≠131->e≠111->w'.ownsRow b e s v n2 ys:=fun ho h1 h2=>Rk ho fun g hg=>hb.block g (Io ho hg) (fun e=>by
  rcases e with e|e
  ·exact xj ho h.row h1 Y4
  ·exact Px ho (h.own n hn) h2 hg e)
 have kK:w'.heap[r.Kb]?=w.heap[r.Kb]?:=hb.block _ h.sK.lt (fun e=>by
  rcases e with e|e
  ·exact h.sK.2.1.1 e
  ·exact h.sK.ot (fun b=>h.oh n b hn) e)
 have kL:w'.heap[r.Lb]?=w.heap[r.Lb]?:=hb.block _ hN.row.lt (fun e=>by
  rcases e with e|e
  ·exact hN.lo.2.1 e
  ·exact xj (h.own n hn) hN.row U0 e)
 have eq:∀i,(fj Q n c' i).nt=(Q i).nt:=fun i=>by
  by_cases e:i=n
  ·subst e;rw[Oi];exact hc
  ·rw[cj _ _ e]
 refine⟨(cell_of_heap (a:=⟨r.Kb,5,Ai⟩) kK).trans hN.h5,(cell_of_heap (a:=⟨r.Kb,6,Ai⟩) kK).trans hN.h6,(cell_of_heap (a:=⟨r.Kb,7,Ai⟩) kK).trans hN.h7,ty hN.ino U0 U0,hN.row.of_heap kL,hN.lo,fun c hc=>ty (hN.own c hc) U0 U0,hN.Un,hN.oh,fun i hi=>?_,fun i j hi hj Jj b=>?_,fun i b hi=>?_⟩
 ·rw[eq];exact ty (hN.yD i hi) U0 U0
 ·rw[eq,eq];exact hN.YF i j hi hj Jj b
 ·rw[eq];exact hN.u_ i b hi
end
def Uy:Out->Int×(Nat->Int)
 |.on op _ z=>(if op=0 then -1 else 0,z)
 |.Xk y z=>(y,z)
def ry(c:Nat)(l:List (Int×Int)):List Int:=(l.filter fun x=>x.1==(c:Int)).map (·.2)
theorem dQ(c:Nat):ry c []=[]:=rfl
theorem VC(c:Nat)(l:List (Int×Int))(d:Nat)(x:Int):ry c (l++[((d:Int),x)])=if c=d then ry c l++[x]else ry c l:=by
 unfold ry;rw[List.filter_append,List.map_append];by_cases e:c=d
 ·subst e;simp
 ·have:((d:Int)==(c:Int))=false:=by simp;omega
  simp[this,e]
structure z00(kind:Int)(l:List Int)(ln:Ln)(F:Int)(c:Jl):Prop where
 q:kind=1->c.wait=ln.ws/\c.lost=ln.lost/\c.sent=l
 s:kind=2->(c.shown=if ln.shown=ji then ln.shows else 0)/\(c.age=if ln.shown=ji then F-ln.since else -1)/\(c.anew=ji↔l≠[])/\(∀x l',l=l'++[x]->c.En=x)/\(ln.shown=ji->0<=ln.since/\ln.since<=F)
def Dl(kc:Nat)(kind fr:Nat->Int)(nl:Nat->List (Int×Int))(Ls:Nat->Ln)(F:Int)(C:Nat->Jl):Prop:=∀c,c<kc->z00 (kind c) (ry c (nl (fr c).toNat)) (Ls c) F (C c)
def TC(num:Nat)(kind fr:Nat->Int)(nD n:Nat)(ci:Nat->Int):Prop:=∀j,j<n->(ci (j*4)=10->kind (ci (j*4+3)).toNat=1/\fr (ci (j*4+3)).toNat=num)/\(ci (j*4)=11->kind (ci (j*4+3)).toNat=2/\fr (ci (j*4+3)).toNat=num)/\(ci (j*4)=12\/ci (j*4)=16->kind (ci (j*4+3)).toNat=1)/\(ci (j*4)=13->kind (ci (j*4+3)).toNat=2)/\(ci (j*4)=14->0<=ci (j*4+3)/\ci (j*4+3)<nD)
theorem Zn{α:Type}(x:Nat->α)(i:Nat):fj x i (x i)=x:=by
 funext j
 unfold fj;split
 ·rename_i e;rw[e]
 ·rfl
section
variable {kc n c:Nat}{kind fr:Nat->Int}{nl:Nat->List (Int×Int)}{Ls:Nat->Ln}{F:Int}{C:Nat->Jl}{x:Int}
theorem Dl.send(h:Dl kc kind fr nl Ls F C)(hf:fr c=n)(hk:kind c=1):Dl kc kind fr (fj nl n (nl n++[((c:Int),x)])) Ls F (uN C c {C c with sent:=(C c).sent++[x]}):=fun d hd=>by
 by_cases e:d=c
 ·subst e;rw[Vl,hf,Int.toNat_natCast,Oi,VC,if_pos rfl];have:=h d hd;rw[hf,Int.toNat_natCast]at this;exact⟨fun _=>⟨(this.q hk).1,(this.q hk).2.1,by show (C d).sent++[x]=_;rw[(this.q hk).2.2]⟩,fun e2=>by rw[hk]at e2;omega⟩
 ·rw[Es _ _ e];have:=h d hd;by_cases e2:(fr d).toNat=n
  ·rw[e2]at this ⊢;rw[Oi,VC,if_neg e];exact nh
  ·rw[cj _ _ e2];exact nh
theorem Dl.write(h:Dl kc kind fr nl Ls F C)(hf:fr c=n)(hk:kind c=2):Dl kc kind fr (fj nl n (nl n++[((c:Int),x)])) Ls F (uN C c {C c with En:=x,anew:=ji}):=fun d hd=>by
 by_cases e:d=c
 ·subst e;rw[Vl,hf,Int.toNat_natCast,Oi,VC,if_pos rfl];have:=h d hd;rw[hf,Int.toNat_natCast]at this;obtain⟨h1,h2,h3,h4,h5⟩:=this.s hk;exact⟨fun e2=>by rw[hk]at e2;omega,fun _=>⟨h1,h2,P0,fun y l' hl=>(by have:=List.append_inj_right' hl rfl;simpa using this),h5⟩⟩
 ·rw[Es _ _ e];have:=h d hd;by_cases e2:(fr d).toNat=n
  ·rw[e2]at this ⊢;rw[Oi,VC,if_neg e];exact nh
  ·rw[cj _ _ e2];exact nh
theorem Dl.line(h:Dl kc kind fr nl Ls F C)(hk:kind c=1){ln:Ln}{d:Jl}(h1:d.wait=ln.ws)(h2:d.lost=ln.lost)(h3:d.sent=(C c).sent):Dl kc kind fr nl (fj Ls c ln) F (uN C c d):=fun e he=>by
 by_cases e1:e=c
 ·subst e1;rw[Vl,Oi];exact⟨fun _=>⟨h1,h2,h3.trans ((h e he).q hk).2.2⟩,fun e2=>by rw[hk]at e2;omega⟩
 ·rw[Es _ _ e1,cj _ _ e1];exact h e he
theorem Dl.forget(h:Dl kc kind fr nl Ls F C)(Dy:∀c,c<kc->0<=fr c):Dl kc kind fr (fj nl n []) Ls F (Rn fr n C):=fun d hd=>by
 unfold Rn;have:=h d hd;by_cases e:fr d=n
 ·rw[if_pos e,e,Int.toNat_natCast,Oi,dQ];exact⟨fun hk=>⟨(this.q hk).1,(this.q hk).2.1,rfl⟩,fun hk=>⟨(this.s hk).1,(this.s hk).2.1,P0,fun x l' hl=>by simp at hl,(this.s hk).2.2.2.2⟩⟩
 ·rw[if_neg e,cj _ _ (by have:=Dy d hd;omega)];exact nh
end
def dt(w:ui)(nC:Nat)(r:RK)(n:Nat)(Q:Nat->RC)(nl:Nat->List (Int×Int))(Ls:Nat->Ln)(kind fr:Nat->Int)(F:Int)(inV:ti)(il:List (Int×Int))(C':Nat->Jl)(z':Nat->Int)(s':Int)(b':Bool)(m':Nat)(xs':List ti)(d:Nat)(w':ui):Prop:=
 ∃v' YS l' Jw,l'.length<=(nl n).length+d/\fJ w r.Gc r.Lb nC n Q ⟨z',s',v',b',YS⟩ m' xs' w'/\Om w' nC r (fj Q n ⟨z',s',v',b',YS⟩) (fj nl n l') Jw F inV il/\Dl r.kc kind fr (fj nl n l') Jw F C'/\∀c b,c<r.kc->(Jw c).wv.ownBlock=yi b->(Ls c).wv.ownBlock=yi b\/w.heap.size<=b
theorem dt.trans{w w1 w2:ui}{nC n m1 m2 d1 d2:Nat}{r:RK}{Q:Nat->RC}{nl:Nat->List (Int×Int)}{Ls Ls1:Nat->Ln}{kind fr:Nat->Int}{F s2:Int}{inV:ti}{il l1:List (Int×Int)}{C2:Nat->Jl}{z2:Nat->Int}{b2:Bool}{xs1 xs2:List ti}{c1:RC}(hA:fJ w r.Gc r.Lb nC n Q c1 m1 xs1 w1)(hd:l1.length<=(nl n).length+d1)(hw:∀c b,c<r.kc->(Ls1 c).wv.ownBlock=yi b->(Ls c).wv.ownBlock=yi b\/w.heap.size<=b)
  (h:dt w1 nC r n (fj Q n c1) (fj nl n l1) Ls1 kind fr F inV il C2 z2 s2 b2 m2 xs2 d2 w2):dt w nC r n Q nl Ls kind fr F inV il C2 z2 s2 b2 m2 xs2 (d1+d2) w2:=by
 obtain⟨v',YS,l',Jw,h0,h1,h2,h3,h4⟩:=h;rw[Oi]at h0;rw[Yk]at h2 h3;rw[Yk]at h2;refine⟨v',YS,l',Jw,E0,hA.trans h1,h2,h3,fun c b hc hb=>?_⟩;rcases h4 c b hc hb with x|x
 ·exact hw c b hc x
 ·exact .inr (Nat.le_trans hA.but.size x)
def yq(C:Nat->Jl):TB->Int×(Nat->Int)×(Nat->Jl)
 |.on op _ z C'=>(if op=0 then -1 else 0,z,C')
 |.Xk y z=>(y,z,C)
theorem gB(C:Nat->Jl)(o:Out):yq C (o.with C)=((Uy o).1,(Uy o).2,C):=by
 cases o<;>rfl
theorem iW(Kb Gc n nC cq bo oo cb co nI cc:Nat)(Q:Nat->RC)(w:ui)(h0:w.cell? ⟨Kb,0,Ai⟩=yi (.slice (yi ⟨bo,oo,Ai⟩) nC cq))(h4:w.cell? ⟨Kb,4,Ai⟩=yi (.slice (yi ⟨Gc,0,Ai⟩) nC nC))
  (hc:w.cell? ⟨bo,oo+n*3,Ai⟩=yi (.slice (yi ⟨cb,co,Ai⟩) nI cc))(hr:Ei w Gc (nC*26) 131 (Sj Q))(h45:(Q n).z 45=nI)(hn:n<nC)(_Wo0:nI<=48):
  Calls prog 88 #[.pointer (yi ⟨Kb,0,Ai⟩),.int .i64 n] w fun e w'=>e=.returned (.int .i64 3)/\w'=w.drew:=by
 have e20:w.cell? ⟨Gc,n*26+20,Ai⟩=yi (.int .i64 nI):=by rw[Ei.rat hr (n:=n) (i:=20) E0 rfl E0];show yi (Value.int .i64 ((Q n).z 45))=_;rw[h45]
 clear hr;have i1:(nI:Int)<=(nI:Int):=E0
 go_enter func88,ntmps88
 go_wp2_with fail
 go_region_held3 (fun W=>W.cell? ⟨Kb,0,Ai⟩=yi (.slice (yi ⟨bo,oo,Ai⟩) nC cq)/\W.cell? ⟨bo,oo+n*3,Ai⟩=yi (.slice (yi ⟨cb,co,Ai⟩) nI cc)/\W.cell? ⟨Gc,n*26+20,Ai⟩=yi (.int .i64 nI)) (go_keep) (fail)
 exact Wc
section
variable {w w':ui}{k:Vu}{r:RK}{Q:Nat->RC}{m:Nat->Nat}{xs:Nat->List ti}{n:Nat}{nl:Nat->List (Int×Int)}{Ls:Nat->Ln}{kind fr:Nat->Int}{F:Int}{inV:ti}{il:List (Int×Int)}{C:Nat->Jl}
theorem NA{Z Z':Nat->Int}(h:Tn w k r Q m xs)(hN:Om w k.nC r Q nl Ls F inV il)(hR:Dl r.kc kind fr nl Ls F C)(hn:n<k.nC)(Nk:Ei w' r.Gc (k.nC*26) 131 (Sj (fj Q n {Q n with z:=Z})))(hb:ak (fun j=>j=r.Gc) w w')(he:∀j,(25<=j/\j<46)\/j=47->Z j=Z' j):
  dt w k.nC r n Q nl Ls kind fr F inV il C Z' (Q n).s (Q n).b (m n) (xs n) 1 w':=
 ⟨(Q n).v,(Q n).nt,nl n,Ls,Nat.le_add_right _ _,⟨Ei.rc Nk he,hb.mono fun _ x=>.inl (.inl x),Rk (h.own n hn) fun b uk=>hb.block b (Io (h.own n hn) uk) (fun e=>xj (h.own n hn) h.row U0 (by rw[<-e];exact uk)),fun _ x=>.inl x,fun _ x=>.inl x⟩,by rw[Zn];exact hN.same h hn (hb.mono fun _ x=>.inl x) rfl,by rw[Zn];exact hR,fun _ _ _ x=>.inl x⟩
theorem w64(x:Int):IntKind.i64.wrap x=wrap64 x:=by rw[IntKind.wrap_i64];unfold wrap64;omega
theorem Nz(z:Nat->Int){nx:Nat}(Fq:z 45=nx)(j:Nat)(h:(25<=j/\j<46)\/j=47):Ji z 45 (nx+1) j=Ni z j:=by
 unfold Ni;rw[Lu,Lu,Lu,Fq];by_cases e:j=45
 ·rw[if_pos e,if_pos e];simp
 ·rw[if_neg e,if_neg e,if_neg E0]
theorem jv(z:Nat->Int){nx:Nat}(Fq:z 45=nx)(i:Nat)(v:Int)(j:Nat)(h:(25<=j/\j<46)\/j=47):Ji (Ji z 45 (nx+1)) i v j=Ji (Ni z) i v j:=by
 rw[Lu (Ji z 45 _) i v j,Lu (Ni z) i v j];by_cases e:j=i
 ·rw[if_pos e,if_pos e]
 ·rw[if_neg e,if_neg e];exact Nz z Fq j h
theorem EL(z:Nat->Int){i:Nat}(hi:25<=i)(h2:i<45):Ni z i=z i:=by
 unfold Ni;rw[Qk _ _ E0,Qk _ _ E0]
theorem EP(h:Tn w k r Q m xs)(hN:Om w k.nC r Q nl Ls F inV il)(tN:Dl r.kc kind fr nl Ls F C)(hn:n<k.nC)(h45:0<=(Q n).z 45/\(Q n).z 45<=k.n n)(hm:m n<1000000000)(Jj:(Q n).z 45≠k.n n->¬Xy (k.ci n (((Q n).z 45).toNat*4))):
  Calls prog 88 #[.pointer (yi ⟨r.Kb,0,Ai⟩),.int .i64 n] w fun e w'=>e=.returned (.int .i64 (Uy (tj (k.n n) (k.ci n) (Q n).z)).1)/\
   dt w k.nC r n Q nl Ls kind fr F inV il C (Uy (tj (k.n n) (k.ci n) (Q n).z)).2 (Q n).s (Q n).b (m n+(tj (k.n n) (k.ci n) (Q n).z).sent.length) (xs n++(tj (k.n n) (k.ci n) (Q n).z).sent.flatMap Qj) 1 w':=by
 have gK:=h.sK.Dq;have gb:=h.sb.Dq;have gc:=(h.sc n hn).Dq;by_cases hz:(Q n).z 45=k.n n
 ·have e:tj (k.n n) (k.ci n) (Q n).z=.Xk 3 (Ji (Q n).z 46 (IntKind.i64.wrap ((Q n).z 46+1))):=by unfold tj;rw[if_pos hz]
  rw[e];refine(iW r.Kb r.Gc n k.nC r.cq r.bo r.oo (r.cb n) (r.co n) (k.n n) (r.cc n) Q w h.h0 h.h4 (h.hc n hn) h.row hz hn (h.n48 n hn)).mono ?_;rintro e w' ⟨rfl,rfl⟩;refine⟨rfl,?_⟩;have:=NA (Z:=(Q n).z) (Z':=Ji (Q n).z 46 (IntKind.i64.wrap ((Q n).z 46+1))) (w':=w.drew) h hN tN hn (Ei.r0 h.row n) (ak.refl _ _).drew (fun j hj=>by rw[Qk _ _ E0]);simpa[Out.sent,Uy]using this
 ·obtain⟨nx,Fq⟩:∃nx:Nat,(Q n).z 45=nx:=⟨((Q n).z 45).toNat,E0⟩;have Wi:nx<k.n n:=by omega
  have ht:((Q n).z 45).toNat=nx:=E0;obtain ⟨ho,⟨r0,r4⟩,⟨a0,a4⟩,hj⟩:=(h.ok n hn).at Wi (by have:=Jj hz;rw [ht] at this;exact this);obtain ⟨R,hR⟩:∃R:Nat,k.ci n (nx*4+1)=R:=⟨(k.ci n (nx*4+1)).toNat,E0⟩;obtain ⟨A,hA⟩:∃A:Nat,k.ci n (nx*4+2)=A:=⟨(k.ci n (nx*4+2)).toNat,E0⟩;have eH:(k.ci n (nx*4+1)).toNat=R:=E0;have SG:(k.ci n (nx*4+2)).toNat=A:=E0;have dp:R<4:=E0;have ep:A<4:=E0;have c0:=h.code n hn (nx*4) E0;have c1:=h.code n hn (nx*4+1) E0;have c2:=h.code n hn (nx*4+2) E0;have c3:=h.code n hn (nx*4+3) E0;rw [<-Nat.add_assoc] at c1 c2 c3;rw [hR] at c1;rw [hA] at c2;have zR:=EL (Q n).z (i:=25+R) E0 E0;have zA:=EL (Q n).z (i:=25+A) E0 E0;have fin:∀{st:Out} {Z:Nat->Int} {rt:Int} {e:Ending} {w':ui},tj (k.n n) (k.ci n) (Q n).z=st->(Uy st).1=rt->st.sent=[]->(∀j,(25<=j/\j<46)\/j=47->Z j=(Uy st).2 j)->
    (e=.returned (.int .i64 rt)/\Ei w' r.Gc (k.nC*26) 131 (Sj (fj Q n {Q n with z:=Z}))/\ak (fun j=>j=r.Gc) w w')->
    e=.returned (.int .i64 (Uy (tj (k.n n) (k.ci n) (Q n).z)).1)/\dt w k.nC r n Q nl Ls kind fr F inV il C (Uy (tj (k.n n) (k.ci n) (Q n).z)).2 (Q n).s (Q n).b (m n+(tj (k.n n) (k.ci n) (Q n).z).sent.length) (xs n++(tj (k.n n) (k.ci n) (Q n).z).sent.flatMap Qj) 1 w':=by
   intro st Z rt e w' h1 h2 h3 h4 ⟨h5,h6,h7⟩;rw[h1,h2,h3];exact⟨h5,by simpa using NA h hN tN hn h6 h7 h4⟩
  refine Ub fun st=>?_;have Pa0:k.ci n (nx*4)=0\/k.ci n (nx*4)=1\/k.ci n (nx*4)=2\/k.ci n (nx*4)=3\/k.ci n (nx*4)=4\/k.ci n (nx*4)=5\/k.ci n (nx*4)=6\/k.ci n (nx*4)=7\/k.ci n (nx*4)=8\/k.ci n (nx*4)=9\/k.ci n (nx*4)=15:=E0;rcases Pa0 with ho|ho|ho|ho|ho|ho|ho|ho|ho|ho|ho
  ·rw[ho]at c0;have e:tj (k.n n) (k.ci n) (Q n).z=.on 0 Ai (Ni (Q n).z):=by simp[tj,hz,ht,ho]
   exact(BN (st c0 c3)).mono fun e' w' x=>fin e rfl rfl (fun j hj=>Nz _ Fq j hj) x
  ·rw[ho]at c0;have e:tj (k.n n) (k.ci n) (Q n).z=.on 1 Ai (Ji (Ni (Q n).z) (25+R) (k.ci n (nx*4+3))):=by simp[tj,hz,ht,ho,eH]
   exact(WW (st c0 c3)).mono fun e' w' x=>fin e rfl rfl (fun j hj=>jv _ Fq _ _ j hj) x
  ·rw[ho]at c0;have e:tj (k.n n) (k.ci n) (Q n).z=.on 2 Ai (Ji (Ni (Q n).z) (25+R) (IntKind.i64.wrap (Ni (Q n).z (25+R)+Ni (Q n).z (25+A)))):=by simp[tj,hz,ht,ho,eH,SG]
   rw[zR,zA,w64]at e;exact(GZ (st c0 c3)).mono fun e' w' x=>fin e rfl rfl (fun j hj=>jv _ Fq _ _ j hj) x
  ·rw[ho]at c0;have e:tj (k.n n) (k.ci n) (Q n).z=.on 3 Ai (Ji (Ni (Q n).z) (25+R) (IntKind.i64.wrap (Ni (Q n).z (25+R)-Ni (Q n).z (25+A)))):=by simp[tj,hz,ht,ho,eH,SG]
   rw[zR,zA,w64]at e;exact(TY (st c0 c3)).mono fun e' w' x=>fin e rfl rfl (fun j hj=>jv _ Fq _ _ j hj) x
  ·rw[ho]at c0;have e:tj (k.n n) (k.ci n) (Q n).z=.on 4 Ai (Ji (Ni (Q n).z) (25+R) (IntKind.i64.wrap (Ni (Q n).z (25+R)*Ni (Q n).z (25+A)))):=by simp[tj,hz,ht,ho,eH,SG]
   rw[zR,zA,w64]at e;exact(AW (st c0 c3)).mono fun e' w' x=>fin e rfl rfl (fun j hj=>jv _ Fq _ _ j hj) x
  ·rw[ho]at c0;by_cases h0:(Q n).z (25+A)=0
   ·have e:tj (k.n n) (k.ci n) (Q n).z=.Xk 1 (Ni (Q n).z):=by simp[tj,hz,ht,ho,SG,zA,h0]
    exact(qS (st c0 c3) h0).mono fun e' w' x=>fin e rfl rfl (fun j hj=>Nz _ Fq j hj) x
   ·have e:tj (k.n n) (k.ci n) (Q n).z=.on 5 Ai (Ji (Ni (Q n).z) (25+R) (IntKind.i64.wrap ((Ni (Q n).z (25+R)).tdiv (Ni (Q n).z (25+A))))):=by simp[tj,hz,ht,ho,eH,SG,zA,h0]
    rw[zR,zA,w64]at e;exact(KX (st c0 c3) h0).mono fun e' w' x=>fin e rfl rfl (fun j hj=>jv _ Fq _ _ j hj) x
  ·rw[ho]at c0;by_cases h0:(Q n).z (25+A)<0
   ·have e:tj (k.n n) (k.ci n) (Q n).z=.Xk 2 (Ni (Q n).z):=by simp[tj,hz,ht,ho,SG,zA,h0]
    exact(jN (st c0 c3) h0).mono fun e' w' x=>fin e rfl rfl (fun j hj=>Nz _ Fq j hj) x
   ·by_cases h1:16<=(Q n).z (25+A)
    ·have e:tj (k.n n) (k.ci n) (Q n).z=.Xk 2 (Ni (Q n).z):=by simp[tj,hz,ht,ho,SG,zA,h1]
     exact(cN (st c0 c3) h1).mono fun e' w' x=>fin e rfl rfl (fun j hj=>Nz _ Fq j hj) x
    ·obtain⟨j,hj⟩:∃j:Nat,(Q n).z (25+A)=j:=⟨((Q n).z (25+A)).toNat,E0⟩;have K90:j<16:=by omega
     have zM:=EL (Q n).z (i:=29+j) E0 E0;have e:tj (k.n n) (k.ci n) (Q n).z=.on 6 Ai (Ji (Ni (Q n).z) (25+R) (Ni (Q n).z (29+((Q n).z (25+A)).toNat))):=by simp[tj,hz,ht,ho,eH,SG,zA,h0,h1]
     rw[hj,Int.toNat_natCast,zM]at e;exact(wU (st c0 c3) j K90 hj).mono fun e' w' x=>fin e rfl rfl (fun j hj=>jv _ Fq _ _ j hj) x
  ·rw[ho]at c0;by_cases h0:(Q n).z (25+A)<0
   ·have e:tj (k.n n) (k.ci n) (Q n).z=.Xk 2 (Ni (Q n).z):=by simp[tj,hz,ht,ho,SG,zA,h0]
    exact(zJ (st c0 c3) h0).mono fun e' w' x=>fin e rfl rfl (fun j hj=>Nz _ Fq j hj) x
   ·by_cases h1:16<=(Q n).z (25+A)
    ·have e:tj (k.n n) (k.ci n) (Q n).z=.Xk 2 (Ni (Q n).z):=by simp[tj,hz,ht,ho,SG,zA,h1]
     exact(zI (st c0 c3) h1).mono fun e' w' x=>fin e rfl rfl (fun j hj=>Nz _ Fq j hj) x
    ·obtain⟨j,hj⟩:∃j:Nat,(Q n).z (25+A)=j:=⟨((Q n).z (25+A)).toNat,E0⟩;have K90:j<16:=by omega
     have e:tj (k.n n) (k.ci n) (Q n).z=.on 7 Ai (Ji (Ni (Q n).z) (29+((Q n).z (25+A)).toNat) (Ni (Q n).z (25+R))):=by simp[tj,hz,ht,ho,eH,SG,zA,h0,h1]
     rw[hj,Int.toNat_natCast,zR,show 29+j=25+(4+j)by omega]at e;exact(qQ (st c0 c3) j K90 hj).mono fun e' w' x=>fin e rfl rfl (fun j hj=>jv _ Fq _ _ j hj) x
  ·rw[ho]at c0;have e:tj (k.n n) (k.ci n) (Q n).z=.on 8 Ai (Ji (Ni (Q n).z) 45 (k.ci n (nx*4+3))):=by simp[tj,hz,ht,ho]
   exact(wT (st c0 c3)).mono fun e' w' x=>fin e rfl rfl (fun j hj=>jv _ Fq _ _ j hj) x
  ·rw[ho]at c0;by_cases h0:(Q n).z (25+R)=0
   ·have e:tj (k.n n) (k.ci n) (Q n).z=.on 9 Ai (Ji (Ni (Q n).z) 45 (k.ci n (nx*4+3))):=by simp[tj,hz,ht,ho,eH,zR,h0]
    exact(uR (st c0 c3) h0).mono fun e' w' x=>fin e rfl rfl (fun j hj=>jv _ Fq _ _ j hj) x
   ·have e:tj (k.n n) (k.ci n) (Q n).z=.on 9 Ai (Ni (Q n).z):=by simp[tj,hz,ht,ho,eH,zR,h0]
    exact(RO (st c0 c3) h0).mono fun e' w' x=>fin e rfl rfl (fun j hj=>Nz _ Fq j hj) x
  ·rw[ho]at c0;have e:tj (k.n n) (k.ci n) (Q n).z=.on 15 (yi (Ni (Q n).z (25+R))) (Ni (Q n).z):=by simp[tj,hz,ht,ho,eH]
   rw[zR]at e;rw[e];refine(xZ (st c0 c3) (m n) (xs n) (h.own n hn) (xj (h.own n hn) h.row U0) hm).mono ?_;rintro e' w' ⟨rfl,v',h1,h2,h3,h4⟩;have Nk:Ei w' r.Gc (k.nC*26) 131 (Sj (fj Q n {Q n with z:=Ni (Q n).z,v:=v'})):=h1.congr fun j _=>by
    unfold Sj;by_cases e:j/26=n
    ·rw[e,Oi,Oi];exact Ov (c:={Q n with v:=v'}) (fun j hj=>Nz _ Fq j hj) _
    ·rw[cj _ _ e,cj _ _ e]
   exact⟨rfl,v',(Q n).nt,nl n,Ls,Nat.le_add_right _ _,⟨Nk,h2.mono fun _ x=>x.elim (fun x=>.inl (.inl x)) (fun x=>.inr (.inl x)),h3,h4,fun _ x=>.inl x⟩,by rw[Zn];exact hN.same h hn h2 rfl,by rw[Zn];exact tN,fun _ _ _ x=>.inl x⟩
end
end Go.Proofs.YtdoghgnifkgfdaaGreat.Mute
