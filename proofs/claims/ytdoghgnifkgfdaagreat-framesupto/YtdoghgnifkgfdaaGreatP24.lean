import Derived.Test.YtdoghgnifkgfdaaGreatP00
import Derived.Test.YtdoghgnifkgfdaaGreatP06
import Derived.Test.YtdoghgnifkgfdaaGreatP18
import Derived.Test.YtdoghgnifkgfdaaGreatP23
set_option maxRecDepth 100000
set_option maxHeartbeats 16000000
open Option renaming none->Ai,some->yi
open Go renaming World->ui,Value->ti,undef->ri
open Bool renaming true->ji,false->gi
namespace Go.Proofs.YtdoghgnifkgfdaaGreat.Mute
open Tryz Go Go.Conc Go.RowKit
def Row.Xm(r:Row)(fr:Nat->Int)(c:Int)(i:Nat):Row:={r with f:=fun j=>if j%3=1/\j/3<i/\fr (j/3)=c then .slice Ai 0 0 else r.f j}
def Row.Vm(r:Row)(fr:Nat->Int)(c:Int)(i:Nat):Row:={r with f:=fun j=>if (j%4=2\/j%4=3)/\j/4<i/\fr (j/4)=c then (if j%4=2 then .int .i64 0 else .bool gi)else r.f j}
theorem Row.TL(r:Row)(fr:Nat->Int)(c:Int):r.Xm fr c 0=r:=by
 unfold Row.Xm;simp
theorem Row.mL(r:Row)(fr:Nat->Int)(c:Int):r.Vm fr c 0=r:=by
 unfold Row.Vm;simp
theorem Row.jS(r:Row){fr:Nat->Int}{c:Int}{i:Nat}(h:fr i≠c):r.Xm fr c (i+1)=r.Xm fr c i:=by
 unfold Row.Xm;congr 1;funext j;by_cases hj:j/3=i
 ·rw[hj];simp[h]
 ·have:j/3<i+1↔j/3<i:=by omega
  simp only[this]
theorem Row.vP(r:Row){fr:Nat->Int}{c:Int}{i:Nat}(h:fr i=c):r.Xm fr c (i+1)=(r.Xm fr c i).put (i*3+1) (.slice Ai 0 0):=by
 unfold Row.Xm Row.put;congr 1;funext j;unfold upd;by_cases hj:j=i*3+1
 ·subst hj;have e1:(i*3+1)%3=1:=by omega
  have e2:(i*3+1)/3=i:=E0;simp[e1,e2,h]
 ·rw[if_neg hj];by_cases h1:j%3=1
  ·have:j/3<i+1↔j/3<i:=by omega
   simp only[this]
  ·simp[h1]
theorem Row.OT(r:Row){fr:Nat->Int}{c:Int}{i:Nat}(h:fr i≠c):r.Vm fr c (i+1)=r.Vm fr c i:=by
 unfold Row.Vm;congr 1;funext j;by_cases hj:j/4=i
 ·rw[hj];simp[h]
 ·have:j/4<i+1↔j/4<i:=by omega
  simp only[this]
theorem Row.AP(r:Row){fr:Nat->Int}{c:Int}{i:Nat}(h:fr i=c):r.Vm fr c (i+1)=((r.Vm fr c i).put (i*4+2) (.int .i64 0)).put (i*4+3) (.bool gi):=by
 unfold Row.Vm Row.put;congr 1;funext j;show _=upd (upd _ _ _) _ _ j;unfold upd;by_cases h3:j=i*4+3
 ·subst h3;have e1:(i*4+3)%4=3:=by omega
  have e2:(i*4+3)/4=i:=E0;simp[e1,e2,h]
 ·rw[if_neg h3];by_cases h2:j=i*4+2
  ·subst h2;have e1:(i*4+2)%4=2:=by omega
   have e2:(i*4+2)/4=i:=E0;simp[e1,e2,h]
  ·rw[if_neg h2];by_cases h1:j%4=2\/j%4=3
   ·have:j/4<i+1↔j/4<i:=by omega
    simp only[this]
   ·simp[h1]
def o30(a b:Int)(j:Nat):Value:=.int .i64 (if j=0 then a else b)
abbrev eB(g:Nat)(a b:Int):Row:=⟨g,2,151,o30 a b⟩
section
variable {L:km}{w0 w:ui}{rows ls:List Row}{g k:Nat}
theorem Si.fa0(h:Si L w0 rows ls w)(ht:((151:Nat)==L.ev)=gi)(a b:Int):Si L w0 rows (ls++[eB w.heap.size a b]) (w.alloc (.cells #[.int .i64 a,.int .i64 b] 151)):=
 h.alloc #[.int .i64 a,.int .i64 b] 151 (o30 a b) ht fun j hj=>by
  have:j=0\/j=1:=by simp at hj;omega
  rcases this with rfl|rfl<;>rfl
theorem Si.d60(h:Si L w0 rows ls w){a b a' b':Int}(hk:ls[k]?=yi (eB g a b)):Si L w0 rows (ls.set k (eB g a' b')) ((w.setCell ⟨g,0,Ai⟩ (.int .i64 a')).setCell ⟨g,1,Ai⟩ (.int .i64 b')):=by
 have s0:=h.Qy hk 0 (.int .i64 a');have s1:=s0.Qy (Qi hk _) 1 (.int .i64 b');simp only[List.set_set]at s1;refine s1.uS hk rfl rfl rfl fun j hj=>?_;have:j=0\/j=1:=by have:j<2:=hj;omega
 rcases this with rfl|rfl<;>rfl
theorem Si.O30(h:Si L w0 rows ls w){a b:Int}(a' b':Int)(hk:ls[k]?=yi (eB g a b)){es:Array Event}(zn:∀e∈es,∃j wr,e=⟨.cell ⟨g,j,Ai⟩,wr,gi⟩):
  L.D1 w ((w.setCell ⟨g,0,Ai⟩ (.int .i64 a')).setCell ⟨g,1,Ai⟩ (.int .i64 b')) es:=by
 have s0:=h.Qy hk 0 (.int .i64 a');have k0:=Qi hk ((eB g a b).put 0 (.int .i64 a'));refine Kn.tM h (Gm hk) ?_ ?_ zn
 ·exact(Kn.Hl h (Gm hk) 0 _).trans (Kn.Hl s0 (Gm k0) 1 _)
 ·exact(Kn.Oq s0 (Gm k0) 1 _).trans (Kn.Oq h (Gm hk) 0 _)
end
def dr(rows:List Row)(iq is:Nat)(rq rs:Row)(fr:Nat->Int)(c:Int)(i:Nat):List Row:=(rows.set iq (rq.Xm fr c i)).set is (rs.Vm fr c i)
noncomputable def R_:Code:=match Tryz.f125.body with
 |some (.seq _ (.block _ (.loop c)))=>c
 |_=>.skip
section
variable {L:km}{w0:ui}{rows:List Row}{iq is nb eb k ce cq lS:Nat}{rq rs:Row}{fr RD:Nat->Int}{c:Int}
theorem wV(hq:rows[iq]?=yi rq)(Jj:iq≠is)(i:Nat):(dr rows iq is rq rs fr c i)[iq]?=yi (rq.Xm fr c i):=by
 unfold dr;rw[Yi Jj];exact Qi hq _
theorem H40(hs:rows[is]?=yi rs)(Jj:iq≠is)(i:Nat):(dr rows iq is rq rs fr c i)[is]?=yi (rs.Vm fr c i):=Qi (r:=rs) (by rw[Yi (Ne.symm Jj)];exact hs) _
theorem jT(hq:rows[iq]?=yi rq)(hs:rows[is]?=yi rs):dr rows iq is rq rs fr c 0=rows:=by
 unfold dr;rw[Row.TL,Row.mL,Em hq,Em hs]
theorem xW(Jj:iq≠is)(i:Nat)(h:fr i=c):((dr rows iq is rq rs fr c i).set iq ((rq.Xm fr c i).put (i*3+1) (.slice Ai 0 0))).set is (((rs.Vm fr c i).put (i*4+2) (.int .i64 0)).put (i*4+3) (.bool gi))=dr rows iq is rq rs fr c (i+1):=by
 unfold dr;rw[Row.vP _ h,Row.AP _ h,List.set_comm _ _ Jj,List.set_set,List.set_comm _ _ (Ne.symm Jj),List.set_set]
theorem k30(i:Nat)(h:fr i≠c):dr rows iq is rq rs fr c (i+1)=dr rows iq is rq rs fr c i:=by
 unfold dr;rw[Row.jS _ h,Row.OT _ h]
theorem BO(vm:((151:Nat)==L.ev)=gi)(hq:rows[iq]?=yi rq)(hs:rows[is]?=yi rs)(Jj:iq≠is)(cH:k*3<=rq.m)(qN:k*4<=rs.m)(sn:Still L w0 nb)(n1:w0.cell? ⟨nb,1,Ai⟩=yi (.slice (yi ⟨rq.g,0,Ai⟩) k cq))(n2:w0.cell? ⟨nb,2,Ai⟩=yi (.slice (yi ⟨rs.g,0,Ai⟩) k lS))
  (se:Still L w0 eb)(e0:∀j,j<k->w0.cell? ⟨eb,j*2,Ai⟩=yi (.int .i64 (fr j)))(e1:∀j,j<k->w0.cell? ⟨eb,j*2+1,Ai⟩=yi (.int .i64 (RD j)))(hk8:k<=1000){Stop:Goroutine->ui->Prop}(cs:List Frame)
  (jm:∀(a:Act)(todo:List Item)(w':ui)(v:ti),a.defers=[]->qp prog L.R1 L.D1 125 Tryz.f125 a.tmps w' v->(v=.tuple #[]/\Kn L w0 (dr rows iq is rq rs fr c k) w')->Ci prog gi L.R1 L.D1 Stop (G {(base 125).at a todo with mode:=.returning} cs) w'):
  ∀(rem i:Nat)(w:ui)(u2 u3 u4 u5 wx Kx tw vw u16 Aw zw uw xw qx vv u23 yv Nv ku qu lu nu dw Wv u32 Xv gw:ti),i+rem=k->Si L w0 (dr rows iq is rq rs fr c i) [] w->
   Ci prog gi L.R1 L.D1 Stop (G ((base 125).at {tmps:=#[.pointer (yi ⟨nb,0,Ai⟩),.int .i64 c,u2,u3,u4,u5,.pointer (yi ⟨nb,0,Ai⟩),.pointer (yi ⟨nb,0,Ai⟩),.pointer (yi ⟨nb,0,Ai⟩),.slice (yi ⟨eb,0,Ai⟩) k ce,.int .i64 k,.int .i64 i,wx,Kx,tw,vw,u16,Aw,zw,uw,xw,qx,vv,u23,yv,Nv,ku,qu,lu,nu,dw,Wv,u32,Xv,gw],defers:=[]} [.code R_,.inLoop R_,.inBlock 0]) cs) w:=by
 have hk:(base 125).kind≠.early:=E1;intro rem;induction rem with
 |zero=>
  intro i w u2 u3 u4 u5 wx Kx tw vw u16 Aw zw uw xw qx vv u23 yv Nv ku qu lu nu dw Wv u32 Xv gw hi hF;obtain rfl:i=k:=E0;refine J8 ?_;refine s9 ?_;refine M8 ?_;refine J8 ?_;refine vd ?_;refine J8 ?_;refine Cd ?_;exact jm _ [] _ _ rfl (Dj L.Bi I0 _) ⟨rfl,hF.drop⟩
 |succ rem ih=>
  intro i w u2 u3 u4 u5 wx Kx tw vw u16 Aw zw uw xw qx vv u23 yv Nv ku qu lu nu dw Wv u32 Xv gw hi hF;have Wi:i<k:=E0;have FC:(i:Int)<(k:Int):=E0;have hwr:IntKind.i64.wrap ((i:Int)+1)=((i+1:Nat):Int):=by rw[IntKind.wrap_i64];omega
  have he0:=e0 i Wi;have he1:=e1 i Wi;refine J8 ?_;refine s9 ?_;refine M8 ?_;refine J8 ?_;refine ng ?_;refine J8 ?_;refine N9 ?_;refine M8 ?_;refine K8 fun w1 K hK hF=>?_;refine I8 ?_ ?_
  ·exact bh
  clear hK K;refine W9 ?_;refine K8 fun w1 K hK hF=>?_;have rN:World.cell? _ ⟨eb,i*2,Ai⟩=yi (.int .i64 (fr i)):=(hF.nj se).trans he0;have xN:World.cell? _ ⟨eb,i*2+1,Ai⟩=yi (.int .i64 (RD i)):=(hF.nj se).trans he1;refine I8 ?_ ?_
  ·refine hF.Aj se ?_;exact Pg
  clear hK K;clear rN xN;refine W9 ?_;refine K8 fun w1 K hK hF=>?_;refine I8 ?_ ?_
  ·refine bf ?_;exact j9
  clear hK K;replace hF:Si L w0 (dr rows iq is rq rs fr c i) [eB w1.heap.size 0 0] _:=hF.fa0 vm 0 0;generalize hB:w1.heap.size=B at *;generalize hW:(w1.alloc (.cells #[.int .i64 0,.int .i64 0] 151))=w3 at *;clear hW hB w1;refine W9 ?_;refine M8 ?_;refine K8 fun w1 K hK hF=>?_;have a0:World.cell? _ ⟨B,0,Ai⟩=yi _:=hF.ZB (k:=0) rfl (j:=0) (show 0<2 by omega);have a1:World.cell? _ ⟨B,1,Ai⟩=yi _:=hF.ZB (k:=0) rfl (j:=1) (show 1<2 by omega);have b0:World.frozen? _ ⟨B,0,Ai⟩=false:=hF.Vt (k:=0) rfl 0;have b1:World.frozen? _ ⟨B,1,Ai⟩=false:=hF.Vt (k:=0) rfl 1;refine I8 ?_ ?_
  ·refine hF.O30 (k:=0) _ _ rfl ?_;(intro e he;have hm:=mem_listed he;simp[go_sem, *]at hm;rcases hm with rfl|rfl<;>exact⟨_,_,rfl⟩)
  clear hK K;clear a0 a1 b0 b1;replace hF:Si L w0 (dr rows iq is rq rs fr c i) [eB B (fr i) (RD i)] _:=hF.d60 (k:=0) rfl;refine W9 ?_;refine J8 ?_;refine Fb ?_;refine M8 ?_;refine K8 fun w1 K hK hF=>?_;have rN:World.cell? _ ⟨B,0,Ai⟩=yi (.int .i64 (fr i)):=hF.ZB (k:=0) rfl (j:=0) (show 0<2 by omega);refine I8 ?_ ?_
  ·refine V9 ?_;exact W8
  clear hK K;clear rN;refine W9 ?_;refine Y8 ?_;refine J8 ?_;by_cases hc:fr i=c
  ·skip;refine Ci.zk L.Bi (by first|rfl|simp[Act.eval,hc]) ?_;refine J8 ?_;refine ga ?_;refine P8 ?_;refine K8 fun w1 K hK hF=>?_;have KA:World.cell? _ ⟨nb,1,Ai⟩=yi (.slice (yi ⟨rq.g,0,Ai⟩) k cq):=(hF.nj sn).trans n1;refine I8 ?_ ?_
   ·refine hF.Aj sn ?_;exact W8
   clear hK K;clear KA;refine W9 ?_;refine M8 ?_;refine K8 fun w1 K hK hF=>?_;refine I8 ?_ ?_
   ·exact bh
   clear hK K;refine W9 ?_;refine Ci.Bv L.Bi rfl I0 hk rfl func135 I0 rfl #[.pointer (yi ⟨rq.g,i*3,Ai⟩)] J0 (pZ (r:=rq.Xm fr c i) (iq:=iq) (Uj (wV hq Jj i)) i (by show _<=rq.m;omega) _ hF) ?_ (fun _ _ _ h=>h.elim);rintro v w2 ⟨rfl,ql⟩;rw[KC (wV hq Jj i)]at ql;replace hF:Si L w0 _ _ _:=ql;clear ql;refine W9 ?_;refine J8 ?_;refine ga ?_;refine P8 ?_;refine K8 fun w1 K hK hF=>?_;have hn2:World.cell? _ ⟨nb,2,Ai⟩=yi (.slice (yi ⟨rs.g,0,Ai⟩) k lS):=(hF.nj sn).trans n2;refine I8 ?_ ?_
   ·refine hF.Aj sn ?_;exact W8
   clear hK K;clear hn2;refine W9 ?_;refine M8 ?_;refine K8 fun w1 K hK hF=>?_;refine I8 ?_ ?_
   ·exact bh
   clear hK K;refine W9 ?_;have rP:((dr rows iq is rq rs fr c i).set iq ((rq.Xm fr c i).put (i*3+1) (.slice Ai 0 0)))[is]?=yi (rs.Vm fr c i):=by rw[Yi (Ne.symm Jj)];exact H40 hs Jj i
   refine Ci.Bv L.Bi rfl I0 hk rfl func136 I0 rfl #[.pointer (yi ⟨rs.g,i*4,Ai⟩)] J0 (mZ (r:=rs.Vm fr c i) (iq:=is) (Uj rP) i (by show _<=rs.m;omega) _ hF) ?_ (fun _ _ _ h=>h.elim);rintro v w2 ⟨rfl,ql⟩;rw[List.set_set,KC rP,xW Jj i hc]at ql;replace hF:Si L w0 _ [] _:=Kn.lay (Kn.drop ql);clear ql rP;refine W9 ?_;refine J8 ?_;refine L8 ?_;refine J8 ?_;refine Zf ?_;exact ih (i+1) _ _ _ _ _ _ _ _ _ _ _ _ _ _ _ _ _ _ _ _ _ _ _ _ _ _ _ _ E0 hF
  ·skip;refine Ci.xk L.Bi (by first|rfl|simp[Act.eval,hc]) ?_;refine J8 ?_;refine L8 ?_;refine J8 ?_;replace hF:Si L w0 _ [] _:=Kn.lay hF.drop;rw[<-k30 (rq:=rq) (rs:=rs) i hc]at hF;refine Zf ?_;exact ih (i+1) _ _ _ _ _ _ _ _ _ _ _ _ _ _ _ _ _ _ _ _ _ _ _ _ _ _ _ _ E0 hF
theorem MY(vm:((151:Nat)==L.ev)=gi)(hq:rows[iq]?=yi rq)(hs:rows[is]?=yi rs)(Jj:iq≠is)(cH:k*3<=rq.m)(qN:k*4<=rs.m)(sn:Still L w0 nb)(n0:w0.cell? ⟨nb,0,Ai⟩=yi (.slice (yi ⟨eb,0,Ai⟩) k ce))(n1:w0.cell? ⟨nb,1,Ai⟩=yi (.slice (yi ⟨rq.g,0,Ai⟩) k cq))(n2:w0.cell? ⟨nb,2,Ai⟩=yi (.slice (yi ⟨rs.g,0,Ai⟩) k lS))
  (se:Still L w0 eb)(e0:∀j,j<k->w0.cell? ⟨eb,j*2,Ai⟩=yi (.int .i64 (fr j)))(e1:∀j,j<k->w0.cell? ⟨eb,j*2+1,Ai⟩=yi (.int .i64 (RD j)))(hk8:k<=1000)(w:ui)(hF:Kn L w0 rows w):
  Xi prog gi L.R1 L.D1 125 #[.pointer (yi ⟨nb,0,Ai⟩),.int .i64 c] w (fun v w'=>v=.tuple #[]/\Kn L w0 (dr rows iq is rq rs fr c k) w') (fun _ _=>False):=by
 replace hF:=hF.lay;have hk:(base 125).kind≠.early:=E1;refine Xi.intro L.Bi #[.pointer (yi ⟨nb,0,Ai⟩),.int .i64 c,ri,ri,ri,ri,ri,ri,ri,ri,ri,ri,ri,ri,ri,ri,ri,ri,ri,ri,ri,ri,ri,ri,ri,ri,ri,ri,ri,ri,ri,ri,ri,ri,ri] func125 rfl J0 fun cl cs Stop jm _=>?_;refine J8 ?_;refine N9 ?_;refine P8 ?_;refine K8 fun w1 K hK hF=>?_;have hc:World.cell? _ ⟨nb,0,Ai⟩=yi (.slice (yi ⟨eb,0,Ai⟩) k ce):=(hF.nj sn).trans n0;refine I8 ?_ ?_
 ·refine hF.Aj sn ?_;exact W8
 clear hK K;clear hc;refine W9 ?_;refine Y8 ?_;refine J8 ?_;refine Hh ?_;rw[<-jT (fr:=fr) (c:=c) hq hs]at hF;exact BO vm hq hs Jj cH qN sn n1 n2 se e0 e1 hk8 _ jm k 0 _ _ _ _ _ _ _ _ _ _ _ _ _ _ _ _ _ _ _ _ _ _ _ _ _ _ _ _ E0 hF
end
theorem VP{w:ui}{g t n:Nat}{cur:Array ti}{v:ti}(hg:w.heap[g]?=yi (.cells cur t (0,0)))(hn:n<cur.size):w.setRow g (cur.toList.take n++[v]++cur.toList.drop (n+1)).toArray=w.setCell ⟨g,n,Ai⟩ v:=by
 unfold World.setRow World.setCell;congr 1;apply Array.ext_getElem?;intro i;rw[Array.getElem?_modify,Array.getElem?_modify];by_cases h:g=i
 ·subst h;simp only[if_true,hg,Option.map_some];congr 2;apply Array.ext';simp only[Option.isSome_none,Bool.false_eq_true,if_false,Array.toList_setIfInBounds];rw[List.set_eq_take_append_cons_drop,if_pos y5];simp
 ·simp[h]
def Qs(rows:List Row)(v:ti)(xs:List Int)(p:Option Nat):Prop:=
 (p=Ai/\v=.slice Ai 0 0/\xs=[])\/∃k r,p=yi k/\rows[k]?=yi r/\r.t=2/\v=.slice (yi ⟨r.g,0,Ai⟩) xs.length r.m/\xs.length<=r.m/\r.m<=maxLen/\∀j,j<xs.length->r.f j=.int .i64 (xs.getD j 0)
section
variable {L:km}{w0 w:ui}{rows:List Row}{v:ti}{xs:List Int}{p:Option Nat}
theorem Qs.app(h:Qs rows v xs p)(ls:List Row):Qs (rows++ls) v xs p:=by
 rcases h with h|⟨k,r,h1,h2,h3⟩
 ·exact .inl h
 ·exact .inr ⟨k,r,h1,Uj h2,h3⟩
theorem Oz:(prog.info? 2).map (fun i=>(i.zero,i.size,i.bytes))=yi (yi (.int .i64 0),1,8):=J0
theorem Kn.BU(h:Kn L w0 rows w)(vm:((2:Nat)==L.ev)=gi)(ys:List Int)(z:Nat){arr:Array ti}(ha:arr=(ys.map (Value.int .i64 ·)).toArray++Builtin.zeroCells #[.int .i64 0] z):
  ∃rn:Row,rn.t=2/\rn.g=w.heap.size/\rn.m=ys.length+z/\Kn L w0 (rows++[rn]) (w.drew.alloc (.cells arr 2))/\(∀j,j<ys.length->rn.f j=.int .i64 (ys.getD j 0))/\Turn L L.send w (w.drew.alloc (.cells arr 2))/\(w.drew.alloc (.cells arr 2)).heap[L.c]?=w.heap[L.c]?:=by
 have hd:Kn L w0 rows w.drew:=h.rely (Turn.drew w);have hsz:arr.size=ys.length+z:=by rw[ha];simp[Builtin.zeroCells]
 have hk:=hd.alloc arr 2 (fun j=>arr.getD j ri) vm (fun j hj=>by simp[Array.getD,hj]);refine⟨_,rfl,rfl,hsz,hk,fun j hj=>?_,(Turn.drew w).trans (.alloc w.drew _),?_⟩
 ·show arr.getD j ri=_;have:arr[j]?=yi (.int .i64 (ys.getD j 0)):=by
   rw[ha,Array.getElem?_append_left E2];simp[hj]
  rw[Array.getD_eq_getD_getElem?,this];rfl
 ·exact heap_alloc_old w.drew _ h.hc
theorem Kn.appended(h:Kn L w0 rows w)(vm:((2:Nat)==L.ev)=gi)(hl:Qs rows v xs p){S kS:Nat}{x:Int}(hS:rows[kS]?=yi ⟨S,1,2,fun _=>.int .i64 x⟩)(hn:xs.length<=1000000000)(ty:TypeId):
  ∃v' Zj p' w',(Builtin.append_ #[51,51] ty #[v,.slice (yi ⟨S,0,Ai⟩) 1 1]).run prog w=.ok v' w'/\Kn L w0 Zj w'/\Qs Zj v' (xs++[x]) p'/\Turn L L.send w w'/\w'.heap[L.c]?=w.heap[L.c]?/\
   ((p'=p/\∃k r j u,p=yi k/\rows[k]?=yi r/\Zj=rows.set k (r.put j u))\/(p'=yi rows.length/\∃rn,Zj=rows++[rn])):=by
 obtain⟨i,hi,hz,hsz,RG⟩:=info_parts Oz;have hrS:=(h.row kS _ hS).rw.row;have Zq:∀(j:Nat)(u:ti),[Value.int .i64 x][j]?=yi u->w.cell? ((⟨S,0,Ai⟩:Addr).add j)=yi u:=fun j u hu=>by
  have hj:j<1:=by
   have:=(List.getElem?_eq_some_iff.1 hu).1;exact Yc
  obtain rfl:j=0:=E0;rw[Addr.add_lit];have:=hrS.cell (j:=0) E0;simp at hu;subst hu;exact nh
 have hl1:[Value.int .i64 x].length=1*i.size:=by rw[hsz];rfl
 rcases hl with⟨rfl,rfl,rfl⟩|⟨k,r,rfl,hk,ht,rfl,hle,hml,hf⟩
 ·have hr:=run_append_nil (P:=prog) w 51 ty 2 i _ underlying51 hi hz ⟨S,0,Ai⟩ 1 1 _ hl1 Zq E0 E0 (by rw[RG];omega);obtain⟨rn,r1,r2,r3,r4,r5,r6,r7⟩:=h.BU vm [x] (grownCap w 1 0 2-1) (arr:=[Value.int .i64 x].toArray++Builtin.zeroCells (Value.int .i64 0).cells (grownCap w 1 0 2-1)) rfl;have hge:=grownCap_ge w 1 0 2;refine⟨_,_,_,_,hr,r4,.inr ⟨rows.length,rn,rfl,kq rn,r1,?_,?_,?_,?_⟩,r6,r7,.inr ⟨rfl,rn,rfl⟩⟩
  ·rw[r2,r3];simp;omega
  ·rw[r3];simp
  ·rw[r3];have:=grownCap_le_maxLen w 1 0 2 (by simp[maxLen]);simp;omega
  ·exact r5
 ·have hr:=h.row k r hk;obtain⟨cur,hg,hcs,hc⟩:=hr.rw.row;rw[ht]at hg;by_cases XC:xs.length+1<=r.m
  ·have AV:=run_append_room (P:=prog) w 51 ty 2 i underlying51 hi r.g xs.length r.m cur hg ⟨S,0,Ai⟩ 1 1 [.int .i64 x] hl1 Zq D2 XC (by rw[hsz,hcs];simp;omega);rw[hsz,Nat.mul_one,List.length_singleton,VP hg (by rw[hcs];omega)]at AV;refine⟨_,_,_,_,AV,h.set hk xs.length (.int .i64 x),.inr ⟨k,_,rfl,Qi hk _,ht,by simp[Row.put],by simp[Row.put];omega,hml,fun j hj=>?_⟩,Kn.Hl h hk _ _,Kn.Oq h hk _ _,.inl ⟨rfl,k,r,_,_,rfl,hk,rfl⟩⟩;have Vs:j<xs.length+1:=by simpa using hj
   show upd r.f xs.length _ j=_;by_cases e:j=xs.length
   ·subst e;rw[upd_same];simp
   ·rw[upd_ne _ _ e,hf j E0];simp[List.getElem?_append_left (show j<xs.length by omega)]
  ·have holds:∀(j:Nat)(u:ti),(xs.map (Value.int .i64 ·))[j]?=yi u->w.cell? ((⟨r.g,0,Ai⟩:Addr).add j)=yi u:=fun j u hu=>by
    have hj:j<xs.length:=by
     have:=(List.getElem?_eq_some_iff.1 hu).1;exact Yc
    rw[Addr.add_lit,Nat.zero_add,hr.cell (show j<r.m by omega),hf j hj];simp[hj]at hu;simp[hj,<-hu]
   have AV:=run_append_grow (P:=prog) w 51 ty 2 i _ underlying51 hi hz ⟨r.g,0,Ai⟩ xs.length r.m (xs.map (Value.int .i64 ·)) (by rw[hsz];simp) holds ⟨S,0,Ai⟩ 1 1 _ hl1 Zq E0 E0 (growslice_fits E0 (by rw[RG];omega));obtain⟨rn,r1,r2,r3,r4,r5,r6,r7⟩:=h.BU vm (xs++[x]) (grownCap w (xs.length+1) r.m 2-(xs.length+1)) (arr:=(xs.map (Value.int .i64 ·)).toArray++[Value.int .i64 x].toArray++Builtin.zeroCells (Value.int .i64 0).cells (grownCap w (xs.length+1) r.m 2-(xs.length+1))) (by simp;rfl);have hge:=grownCap_ge w (xs.length+1) r.m 2;refine⟨_,_,_,_,AV,r4,.inr ⟨rows.length,rn,rfl,kq rn,r1,?_,?_,?_,?_⟩,r6,r7,.inr ⟨rfl,rn,rfl⟩⟩
   ·rw[r2,r3];simp;omega
   ·rw[r3];simp
   ·rw[r3];have:=grownCap_le_maxLen w (xs.length+1) r.m 2 Y1;simp;omega
   ·exact r5
theorem Qs.owns(hl:Qs rows v xs p)(h:Kn L w0 rows w):w.ownsRow 0 2 1 v xs.length (xs.map (Value.int .i64 ·))/\∀g,v.ownBlock=yi g->Calm L L.main w g/\Mine L.send w g:=by
 rcases hl with⟨rfl,rfl,rfl⟩|⟨k,r,rfl,hk,ht,rfl,hle,hml,hf⟩
 ·exact⟨World.ownsRow_nil _ _ _ _,fun g hg=>by simp[Value.ownBlock]at hg⟩
 ·have ho:=h.row k r hk;obtain⟨cur,hg,hcs,hc⟩:=ho.rw.row;rw[ht]at hg;refine⟨⟨P0,.inr ⟨r.g,r.m,cur,rfl,Nat.zero_le _,hg,hle,hml,by rw[hcs,Nat.mul_one],?_⟩⟩,fun g e=>?_⟩
  ·apply List.ext_getElem?;intro j;rw[Nat.mul_one];by_cases hj:j<xs.length
   ·rw[List.getElem?_take_of_lt hj,Array.getElem?_toList,hc j E0,hf j hj];simp[hj]
   ·rw[List.getElem?_take_eq_none E0];simp[hj]
  ·simp[Value.ownBlock]at e;subst e;exact⟨ho.rw.calm,ho.own⟩
theorem Kn.YG{w':ui}(h:Kn L w0 rows w)(hl:Qs rows v xs p){S kS:Nat}{x:Int}(hS:rows[kS]?=yi ⟨S,1,2,fun _=>.int .i64 x⟩)(hn:xs.length<=1000000000)(uQ:Turn L L.send w w')(yB:w'.heap[L.c]?=w.heap[L.c]?){fn:FuncId}{A:Act}{o:Oper}(a b:Operand)(hop:o.op=.call {callee:=.builtin .append,args:=#[a,b],argTypes:=#[51,51]})(ha:A.eval a=v)(hb:A.eval b=.slice (yi ⟨S,0,Ai⟩) 1 1):L.D1 w w' (listed prog fn A o w):=by
 obtain⟨i,hi,hz,hsz,RG⟩:=info_parts Oz;obtain⟨rj,hblk⟩:=hl.owns h;have hoS:=h.row kS _ hS;refine⟨uQ,yB,fun e he=>?_⟩;have he:=mem_listed he;rw[events_append_op a b 51 hop ha hb]at he;have Zq:∀(j:Nat)(u:ti),[Value.int .i64 x][j]?=yi u->w.cell? ((⟨S,0,Ai⟩:Addr).add j)=yi u:=fun j u hu=>by
  have hj:j<1:=by
   have:=(List.getElem?_eq_some_iff.1 hu).1;exact Yc
  obtain rfl:j=0:=E0;rw[Addr.add_lit];have:=hoS.rw.row.cell (j:=0) E0;simp at hu;subst hu;exact nh
 have ru:∀c,Calm L L.main w c->Mine L.send w c->∀wr sy ad,ad.block=c->Av L L.send L.main w' ⟨.cell ad,wr,sy⟩:=fun c h1 h2 wr sy ad hc=>by
  obtain⟨q,hq⟩:=h1.there;obtain⟨q',g1,g2,_⟩:=uQ.at_ c q hq;refine⟨Yj _ _ _,fun z hz _=>?_⟩;have:z=⟨.cell ad,wr,if sy then .atomic else .plain⟩:=by
   cases wr<;>cases sy<;>simp[MemAct.ofEvent,MemAct.touch?]at hz<;>exact hz.symm
  subst this;exact⟨q',by rw[hc];exact g1,by rw[hc];exact fun hm=>h1.no q hq (L.Cj c q' q (fun x=>(g2 x).symm) hm),fun _=>by rw[hc];exact L.Bj c q q' g2 (h2 q hq)⟩
 rcases events_append_where (P:=prog) w 0 51 o.type 2 i _ 1 8 underlying51 hi hz hsz RG v xs.length _ rj ⟨S,0,Ai⟩ 1 1 [.int .i64 x] rfl Zq D2 Y1 E0 e he with⟨ad,h1,h2⟩|⟨q,rfl,hq⟩
 ·obtain⟨loc,wr,sy⟩:=e;simp only at h1;subst h1;rcases h2 with⟨_,h2⟩|h2
  ·exact ru S hoS.rw.calm hoS.own _ _ ad h2
  ·exact ru ad.block (hblk _ h2.symm).1 (hblk _ h2.symm).2 _ _ ad rfl
 ·refine⟨⟨fun h=>?_,fun h=>?_⟩,fun z hz=>?_⟩
  ·exact ah
  ·exact ah
  ·exact Qd
end
section
variable {L:km}{w0 w:ui}{rows:List Row}
theorem Kn.sub(h:Kn L w0 rows w){Zj:List Row}(φ:Nat->Nat)(hφ:∀i r,Zj[i]?=yi r->rows[φ i]?=yi r)(inj:∀i j,i<Zj.length->j<Zj.length->φ i=φ j->i=j):Kn L w0 Zj w:=
 ⟨h.ph,fun i r hi=>h.row (φ i) r (hφ i r hi),fun i j r s hi hj hij=>h.pw (φ i) (φ j) r s (hφ i r hi) (hφ j s hj) fun e=>hij (inj i j (List.getElem?_eq_some_iff.1 hi).1 (List.getElem?_eq_some_iff.1 hj).1 e),h.hB,h.hc⟩
theorem Kn.mid{a b:Row}(h:Kn L w0 (rows++[a]++[b]) w):Kn L w0 (rows++[b]) w:=by
 refine h.sub (fun i=>if i<rows.length then i else i+1) (fun i r hi=>?_) (fun i j hi hj e=>?_)
 ·by_cases hl:i<rows.length
  ·rw[if_pos hl,List.append_assoc,List.getElem?_append_left hl];rwa [List.getElem?_append_left hl]at hi
  ·have Ny:=(List.getElem?_eq_some_iff.1 hi).1;simp at Ny;obtain rfl:i=rows.length:=by omega
   rw[if_neg hl];simp at hi ⊢;exact hi
 ·revert e;show (if i<rows.length then i else i+1)=(if j<rows.length then j else j+1)->i=j;split<;>split<;>omega
theorem Qs.slice{v:ti}{xs:List Int}{p:Option Nat}(hl:Qs rows v xs p):∃a n c,v=.slice a n c:=by
 rcases hl with⟨_,rfl,_⟩|⟨k,rk,_,_,_,rfl,_⟩
 ·exact Jh
 ·exact Jh
theorem xA{tmp:Row}{v v':ti}{xs ys:List Int}{p p':Option Nat}{Zj:List Row}{iq:Nat}{r:Row}(hq:rows[iq]?=yi r)(hp:p≠yi iq)(hl:Qs rows v xs p)(hK:Kn L w0 Zj w)(hL:Qs Zj v' ys p')
  (OG:(p'=p/\∃k r j u,p=yi k/\(rows++[tmp])[k]?=yi r/\Zj=(rows++[tmp]).set k (r.put j u))\/(p'=yi (rows++[tmp]).length/\∃rn,Zj=rows++[tmp]++[rn])):
  ∃rows2 p2,Kn L w0 rows2 w/\rows2[iq]?=yi r/\Qs rows2 v' ys p2/\rows.length<=rows2.length/\(∀k,p≠yi k->k<rows.length->rows2[k]?=rows[k]?)/\(p2=p\/p2=yi rows.length)/\p2≠yi iq:=by
 have hiq:=(List.getElem?_eq_some_iff.1 hq).1;rcases OG with⟨rfl,k,rk,j,u,rfl,hk,rfl⟩|⟨rfl,rn,rfl⟩
 ·rcases hl with⟨h0,_⟩|⟨k',r',sF,pS,_⟩
  ·cases h0
  ·obtain rfl:k=k':=Option.some.inj sF;have nA:=(List.getElem?_eq_some_iff.1 pS).1;have WS:k≠iq:=fun e=>hp (by rw[e]);rw[List.set_append_left _ _ nA]at hK hL;refine⟨_,yi k,hK.drop,?_,?_,P0,fun m hm hml=>?_,.inl rfl,hp⟩
   ·rw[Yi (Ne.symm WS)];exact hq
   ·rcases hL with⟨h0,_⟩|⟨k2,r2,qA,DI,mK⟩
    ·cases h0
    ·obtain rfl:k=k2:=Option.some.inj qA;rw[List.getElem?_append_left (by simpa using nA)]at DI;exact .inr ⟨k,r2,rfl,DI,mK⟩
   ·rw[Yi (fun e=>hm (by rw[e]))]
 ·refine⟨rows++[rn],yi rows.length,hK.mid,Uj hq,?_,P0,fun m hm hml=>List.getElem?_append_left hml,.inr rfl,fun e=>O5⟩;rcases hL with⟨h0,_⟩|⟨k2,r2,qA,DI,mK⟩
  ·cases h0
  ·obtain rfl:(rows++[tmp]).length=k2:=Option.some.inj qA;rw[kq]at DI;obtain rfl:=Option.some.inj DI;exact .inr ⟨rows.length,rn,rfl,kq rn,mK⟩
end
section
variable {L:km}{w0:ui}{rows:List Row}{iq:Nat}{r:Row}
theorem C80(vm:((2:Nat)==L.ev)=gi)(hq:rows[iq]?=yi r)(i:Nat)(hm:i*3+3<=r.m)(x:Int){sv:ti}{xs:List Int}{p:Option Nat}(QX:r.f (i*3+1)=sv)(hl:Qs rows sv xs p)(hp:p≠yi iq)(hn:xs.length<=1000000000)(w:ui)(hF:Kn L w0 rows w):
  Xi prog gi L.R1 L.D1 138 #[.pointer (yi ⟨r.g,i*3,Ai⟩),.int .i64 x] w (fun v w'=>v=.tuple #[]/\∃Zj v' p',Kn L w0 Zj w'/\Zj[iq]?=yi (r.put (i*3+1) v')/\Qs Zj v' (xs++[x]) p'/\rows.length<=Zj.length/\(∀k,k≠iq->p≠yi k->k<rows.length->Zj[k]?=rows[k]?)/\(p'=p\/p'=yi rows.length)) (fun _ _=>False):=by
 replace hF:=hF.lay;obtain⟨sa,sn,sc,rfl⟩:=hl.slice;have hk:(base 138).kind≠.early:=E1;refine Xi.intro L.Bi #[.pointer (yi ⟨r.g,i*3,Ai⟩),.int .i64 x,ri,ri,ri,ri,ri,ri,ri,ri,ri,ri,ri,ri] func138 rfl J0 fun cl cs Stop jm _=>?_;refine J8 ?_;refine .Gi L.Bi [0,1,2,3,4,5,6,7,8,9,10] I0 ?_;refine P9 ?_;refine K8 fun w1 K hK hF=>?_;have hc:World.cell? _ ⟨r.g,i*3+1,Ai⟩=yi (.slice sa sn sc):=(hF.cell hq (j:=i*3+1) X2).trans (by rw[QX]);refine I8 ?_ ?_
 ·refine hF.looks hq ?_;exact W8
 clear hK K;clear hc;refine W9 ?_;refine M8 ?_;refine K8 fun w1 K hK hF=>?_;refine I8 ?_ ?_
 ·refine bf ?_;exact j9
 clear hK K;have hN:=hF.alloc #[.int .i64 x] 2 (fun _=>.int .i64 x) vm (fun j hj=>by
  have:j=0:=E2;subst this;rfl)
 replace hF:Si L w0 rows [⟨w1.heap.size,1,2,fun _=>.int .i64 x⟩] _:=hN;clear hN;generalize hB:w1.heap.size=B at *;generalize hW:(w1.alloc (.cells #[.int .i64 x] 2))=w3 at *;clear hW hB w1;refine W9 ?_;refine K8 fun w1 K hK hF=>?_;have hS:(rows++[(⟨B,1,2,fun _=>.int .i64 x⟩:Row)])[rows.length]?=yi ⟨B,1,2,fun _=>.int .i64 x⟩:=kq _;obtain⟨v',Zj,p',w',zu,hK',NW,hT',UL,OG⟩:=Kn.appended hF vm (hl.app _) hS hn 51;refine uponK_append (.tmp 8) (.tmp 10) 51 rfl rfl rfl zu (hK _ _ ⟨Kn.YG hF (hl.app _) hS hn hT' UL (.tmp 8) (.tmp 10) rfl rfl rfl,?_⟩);clear hK K zu hT' UL;obtain⟨rows2,p2,yW,pI,hL2,hle,vJ,hpp,hpi⟩:=xA hq hp hl hK' NW OG;obtain⟨va,vn,vc,rfl⟩:=NW.slice;clear hK' NW OG hF hS;have hF:=yW;clear yW;refine W9 ?_;refine Y8 ?_;refine K8 fun w1 K hK hF=>?_;have Bn:World.frozen? _ ⟨r.g,i*3+1,Ai⟩=false:=hF.frozen pI (i*3+1);have hc:World.cell? _ ⟨r.g,i*3+1,Ai⟩=yi _:=hF.cell pI (j:=i*3+1) X2;refine I8 ?_ ?_
 ·refine hF.does pI (i*3+1) _ ?_;exact Wa
 clear hK K;clear Bn hc;replace hF:=hF.set pI (i*3+1) (.slice va vn vc);refine W9 ?_;refine J8 ?_;refine Cd ?_;refine jm _ [] _ _ rfl (Dj L.Bi I0 _) ⟨rfl,_,.slice va vn vc,p2,hF,Qi pI _,?_,by simpa using hle,fun k h1 h2 h3=>?_,hpp⟩
 ·rcases hL2 with⟨a1,a2,a3⟩|⟨k2,r2,a1,a2,a3⟩
  ·exact .inl ⟨a1,a2,a3⟩
  ·exact .inr ⟨k2,r2,a1,by rw[Yi (fun e=>hpi (by rw[a1,e]))];exact a2,a3⟩
 ·rw[Yi h1];exact vJ k h2 h3
end
section
variable {P:Program}{main:Bool}{R:ui->ui->Prop}{D:ui->ui->Array Event->Prop}{fn:FuncId}{md:Region.Mode}{ops lA:Array Oper}{Q:Act->ui->Prop}{S:ui->Prop}
theorem s00(T:Terms R D){b:Frame}{k:List Item}{cs:List Frame}{Stop:Goroutine->ui->Prop}(hal:Alike ops lA)(tail:List Nat)(hb:b.fn=fn)(hk:b.kind≠.early)(ds:List Deferred)
  (hQ:∀a w,a.defers=ds->Q a w->Ci P main R D Stop (G (b.at a (.inRegion lA tail::k)) cs) w):
  ∀(fuel t:Nat)(listed:Array Bool)(a:Act)(w:ui),a.defers=ds->Gs P main R D fn md ops Q (fun _ _=>False) (fun _ _ _=>False) S fuel listed a w->Ci P main R D Stop (G (b.at a (.inRegion lA (Region.linearise.go md ops fuel t listed []++tail)::k)) cs) w:=by
 intro fuel;induction fuel with
 |zero=>intro t listed a w hd h;simpa[Region.linearise.go]using hQ a w hd h.2
 |succ fuel ih=>
  intro t listed a w hd ⟨h₀,h₁⟩;simp only[Region.linearise.go];change Ci P main R D Stop (G (b.at a (.inRegion lA ((match (Region.ready md ops listed)[t%(Region.ready md ops listed).length]? with
   |some i=>Region.linearise.go md ops fuel (t/(Region.ready md ops listed).length) (listed.setIfInBounds i ji) [i]
   |none=>[].reverse)++tail)::k)) cs) w
  cases hi:(Region.ready md ops listed)[t%(Region.ready md ops listed).length]? with
  |none=>
   have Ry:Region.ready md ops listed=[]:=by
    cases hr:Region.ready md ops listed with
    |nil=>rfl
    |cons x xs=>
     rw[hr]at hi;have Wi:t%(x::xs).length<(x::xs).length:=Nat.mod_lt _ P0;rw[List.getElem?_eq_none_iff]at hi;omega
   exact hQ a w hd (h₀ Ry)
  |some i=>
   simp only[];rw[linearise_go_acc,List.reverse_singleton,List.singleton_append,List.cons_append];have hop:=h₁ i (List.mem_of_getElem? hi);unfold cO at hop;cases ho:ops[i]? with
   |none=>rw[ho]at hop;exact hop.elim
   |some o=>
    rw[ho]at hop;obtain⟨hoB,hwB⟩:=hal i o ho;by_cases hw:Region.wanted o (yielded ops a.tmps)=ji
    ·simp only[hw,if_true]at hop;rcases hop with hop|⟨f,args,qG,LM,c,h1,h2,h3,h4,h5⟩|⟨-,p_⟩
     ·refine Ci.op hoB ((hwB _).trans hw) hk fun w₁ r K hK=>uponK_mono hK ?_;have hx:=hop w₁ r;revert hx;cases (execOp a.eval o).run P w₁ with
      |ok n w'=>cases n<;>first|exact id|exact fun x=>⟨hb▸x.1,ih _ _ _ w' ((put_defers _ _ _).trans hd) x.2.2⟩
      |halt _ _=>exact id
     ·refine Ci.enter T hoB ((hwB _).trans hw) hk h1 h2 h3 h4 ?_;rw[<-enter_at _ h2 h4];refine h5 _ cs Stop (fun v w' x=>?_) fun ch w' x=>x.elim;rw[Frame.finish_at,hoB];exact ih _ _ _ w' ((put_defers _ _ _).trans hd) x.2
     ·exact p_.elim
    ·simp only[hw]at hop;exact Ci.unwanted T hoB ((hwB _).trans (by simpa using hw)) (ih _ _ _ w ((put_defers _ _ _).trans hd) hop.2)
theorem Au{α:Type}(l:List α)(n:Nat):l.toArray.extract 0 n=(l.take n).toArray:=P0
theorem Ci.uC(T:Terms R D)(hd:LetsDraw D){b:Frame}{k:List Item}{cs:List Frame}{Stop:Goroutine->ui->Prop}{id:Nat}{a:Act}{w:ui}(n:Nat)(hn:n<lA.size)(hh:hangs .any lA n=ji)(hg:guarded lA n=ji)(tl:List Nat)(p_:(List.range (lA.size-n)).map (n+·)=tl)(hk:b.kind≠.early)(hm:P.follows .mixedOrders=ji)
  (hA:lA.extract 0 n=ops)(h:∀w₁,R w w₁->Gs P main R D b.fn .any ops (fun a' w'=>Ci P main R D Stop (G (b.at a' (.inRegion lA tl::k)) cs) w') (fun _ _=>False) (fun _ _ _=>False) S n (Array.replicate n gi) a {w₁ with drawn:=w₁.drawn+1}):Ci P main R D Stop (G (b.at a (.code (.region id lA ji)::k)) cs) w:=
 .one rfl fun w₁ r=>⟨_,_,_,stepG_region_draw,hd _,by
  subst hA;rw[hm,YH hn hh,p_];have hsz:(lA.extract 0 n).size=n:=by simp;omega
  simp only[Region.schedule,Bool.true_or,if_true];unfold Region.linearise;rw[hsz];exact s00 T (kJ hn hg) tl rfl hk a.defers (fun _ _ _ h=>h) n _ _ a _ rfl (h w₁ r)⟩
end
end Go.Proofs.YtdoghgnifkgfdaaGreat.Mute
