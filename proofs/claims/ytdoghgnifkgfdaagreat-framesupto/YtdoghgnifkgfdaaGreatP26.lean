import Derived.Test.YtdoghgnifkgfdaaGreatP00
import Derived.Test.YtdoghgnifkgfdaaGreatP22
import Derived.Test.YtdoghgnifkgfdaaGreatP23
import Derived.Test.YtdoghgnifkgfdaaGreatP25
set_option maxRecDepth 100000
set_option maxHeartbeats 16000000
open Option renaming none->Ai,some->yi
open Go renaming World->ui,Value->ti,undef->ri
open Bool renaming true->ji,false->gi
namespace Go.Proofs.YtdoghgnifkgfdaaGreat.Mute
open Tryz Go Go.Conc Go.RowKit
section
variable {L:km}{w0:ui}{rows:List Row}{ic iq g nb kk cq:Nat}{num:Int}{code:ti}{z:Nat->Int}{rq:Row}
theorem WY{w':ui}{tmp:Row}{i:Nat}{v:ti}{xs:List Int}{x:Int}{p:Option Nat}(hq:rows[iq]?=yi rq)(hl:Qs rows v xs p)(h:∃Zj v' p',Kn L w0 Zj w'/\Zj[iq]?=yi (rq.put (i*3+1) v')/\Qs Zj v' (xs++[x]) p'/\(rows++[tmp]).length<=Zj.length/\(∀k,k≠iq->p≠yi k->k<(rows++[tmp]).length->Zj[k]?=(rows++[tmp])[k]?)/\(p'=p\/p'=yi (rows++[tmp]).length)):∃Zj v' p',Kn L w0 Zj w'/\Zj[iq]?=yi (rq.put (i*3+1) v')/\Qs Zj v' (xs++[x]) p'/\rows.length<=Zj.length/\(∀k,k≠iq->p≠yi k->k<rows.length->Zj[k]?=rows[k]?)/\(p'=p\/p'=yi rows.length):=by
 obtain⟨Zj,v',p',hK,h1,h2,h3,h4,h5⟩:=h;have hiq:=(List.getElem?_eq_some_iff.1 hq).1;have he:∀j,(Zj.eraseIdx rows.length)[j]?=if j<rows.length then Zj[j]? else Zj[j+1]?:=fun j=>List.getElem?_eraseIdx ..;have mU:rows.length+1<=Zj.length:=by simpa using h3
 refine⟨Zj.eraseIdx rows.length,v',if p'=p then p else yi rows.length,?_,?_,?_,?_,fun k k1 k2 k3=>?_,?_⟩
 ·refine hK.sub (fun j=>if j<rows.length then j else j+1) (fun j r hj=>?_) (fun a b _ _ e=>?_)
  ·rw[he]at hj;split at hj
   ·rename_i Wi;rw[if_pos Wi];exact hj
   ·rename_i Wi;rw[if_neg Wi];exact hj
  ·revert e;show (if a<rows.length then a else a+1)=(if b<rows.length then b else b+1)->a=b;split<;>split<;>omega
 ·rw[he,if_pos hiq];exact h1
 ·rcases h2 with⟨rfl,_,h0⟩|⟨k,r,rfl,hr,mK⟩
  ·simp at h0
  ·rcases h5 with h5|h5
   ·rw[if_pos h5];subst h5;rcases hl with⟨h0,_⟩|⟨k2,r2,qA,DI,_⟩
    ·cases h0
    ·obtain rfl:k=k2:=Option.some.inj qA;have:=(List.getElem?_eq_some_iff.1 DI).1;exact .inr ⟨k,r,rfl,by rw[he,if_pos this];exact hr,mK⟩
   ·have hk:k=rows.length+1:=by simpa using h5
    subst hk;by_cases e:yi (rows.length+1)=p
    ·exfalso;rcases hl with⟨h0,_⟩|⟨k2,r2,qA,DI,_⟩
     ·rw[<-e]at h0;cases h0
     ·rw[<-e]at qA;have:=(List.getElem?_eq_some_iff.1 DI).1;have:=Option.some.inj qA;omega
    ·rw[if_neg e];exact .inr ⟨rows.length,r,rfl,by rw[he,if_neg E0];exact hr,mK⟩
 ·rw[List.length_eraseIdx,if_pos E0];omega
 ·rw[he,if_pos k3,h4 k k1 k2 A1,List.getElem?_append_left k3]
 ·split
  ·exact .inl rfl
  ·exact .inr rfl
theorem c60(vm:((97:Nat)==L.ev)=gi)(yM:((2:Nat)==L.ev)=gi)(hi:rows[ic]?=yi (Ri g num (.pointer (yi ⟨nb,0,Ai⟩)) code z))(hq:rows[iq]?=yi rq)(sn:Still L w0 nb)(n1:w0.cell? ⟨nb,1,Ai⟩=yi (.slice (yi ⟨rq.g,0,Ai⟩) kk cq))(i:Nat)(yr:i<kk)(cH:kk*3<=rq.m){sv:ti}{xs:List Int}{p:Option Nat}(QX:rq.f (i*3+1)=sv)(hl:Qs rows sv xs p)(hp:p≠yi iq)(hn:xs.length<=1000000000)(R A:Nat)(dp:R<4)(ep:A<4)(inV:ti)(w:ui)(hF:Kn L w0 rows w):
  Xi prog gi L.R1 L.D1 129 #[.pointer (yi ⟨g,0,Ai⟩),.agg #[.int .i64 10,.int .i64 R,.int .i64 A,.int .i64 i],inV] w (fun v w'=>v=.tuple #[]/\∃Zj v' p',Kn L w0 Zj w'/\Zj[iq]?=yi (rq.put (i*3+1) v')/\Qs Zj v' (xs++[z (25+R)]) p'/\rows.length<=Zj.length/\(∀k,k≠iq->p≠yi k->k<rows.length->Zj[k]?=rows[k]?)/\(p'=p\/p'=yi rows.length)) (fun _ _=>False):=by
 have hk:(base 129).kind≠.early:=E1;refine Xi.intro (c:=oz) L.Bi _ func129 rfl J0 fun cl cs Stop jm _=>Gv (g:=g) vm R A dp ep 10 i inV w hF fun B w3 hF=>?_;refine J8 ?_;refine L8 ?_;refine J8 ?_;refine T9 ?_;refine J8 ?_;refine Ci.Ym (S:=Si L w0 rows [uj B 10 R A (i:Nat)]) (Die:=fun _ _=>False) L.Bi L.Wm 11 I0 hk J0 (fun _ _ _ h=>h) (fun _ _ _ h=>h.elim) fun w1 hR=>?_;replace hF:=(hF.rely hR).rely (Turn.drew _);clear hR;refine Q8 ?_;refine S9 ?_;refine aj L.Bi 3 rfl (fun _ _ h r=>Si.rely h r) hF ?_ fun _ hw=>⟨run_eq_of (by
  intro K hK;refine uc fun hc=>?_;go_simp;exact hK),by
  refine uc fun hc=>?_;refine Bh ?_;co_evs (exact⟨_,rfl⟩)⟩
 refine y9 ?_;refine aj L.Bi 5 rfl (fun _ _ h r=>Si.rely h r) hF ?_ fun _ hw=>⟨run_eq_of (by
  intro K hK;refine xe fun a0 a1 a2 a3=>?_;exact hK),by
  refine za fun a0 a1 a2 a3=>?_;co_evs (exact⟨_,rfl⟩)⟩
 refine W9 ?_;refine Hf ?_;refine W9 ?_;refine Jb ?_;refine W9 ?_;refine aj L.Bi 9 rfl (fun _ _ h r=>Si.rely h r) hF ?_ fun _ hw=>⟨run_eq_of (by
  intro K hK;refine oe fun hc=>?_;go_simp;exact hK),by
  refine oe fun hc=>?_;refine Bh ?_;co_evs (exact⟨_,rfl⟩)⟩
 refine W9 ?_;refine Rl (i:=6) T0 rfl I0 rfl func137 I0 rfl #[.pointer (yi ⟨nb,0,Ai⟩),.int .i64 i] J0 (Yx sn n1 i yr _ hF) ?_;rintro v w2 ⟨rfl,ql⟩;refine⟨.inl ql,?_⟩;replace hF:Si L w0 rows [uj B 10 R A (i:Nat)] _:=ql;clear ql;refine W9 ?_;refine Rl (i:=10) T0 rfl I0 rfl func138 I0 rfl #[.pointer (yi ⟨rq.g,i*3,Ai⟩),.int .i64 (z (25+R))] J0 (C80 yM (Uj hq) i E0 (z (25+R)) QX (hl.app _) hp hn _ hF) ?_;rintro v w' ⟨rfl,ql⟩;refine⟨.inr (zl rfl T0),?_⟩;have fX:=WY hq hl ql;clear ql hF;refine H9 ?_;refine J8 ?_;refine Cd ?_;exact jm _ [] _ _ rfl (Dj L.Bi I0 _) ⟨rfl,fX⟩
end
section
variable {P:Program}{main:Bool}{R:ui->ui->Prop}{D:ui->ui->Array Event->Prop}{Stop:Goroutine->ui->Prop}
theorem iZ{a:Act}{w:ui}{o:Oper}{x:Operand}{f:FuncId}{fn:Func}{cap:Array ti}{args:Array Operand}{qG:Array TypeId}(hop:o.op=.call {callee:=.value x,args,argTypes:=qG})(hx:a.eval x=.func (.func f) #[] cap)
  (hf : P.funcs[f]? = yi fn) (Xw : (fn.name == "runtime.NumGoroutine") = gi) (hb : fn.body.isNone = gi) : (execOp a.eval o).run P w = .ok (.enter f (args.map a.eval ++ cap)) w /\ ∀ es, (execOp a.eval o).events P w es = es := by
 have h1 : ¬ fn.name = "runtime.NumGoroutine" := by simpa using Xw
 have h2:¬fn.body=none:=by cases hx:fn.body<;>simp_all
 unfold execOp;constructor
 ·simp[hop,resolve,Deferred.ofValue,invoke,callFunc,hf,h1,h2,hx]
 ·intro es;simp[hop,resolve,Deferred.ofValue,invoke,callFunc,hf,h1,h2,hx]
theorem Ci.td0(T:Terms R D){b:Frame}{a:Act}{k:List Item}{cs:List Frame}{w:ui}{ops:Array Oper}{i:Nat}{rest:List Nat}{o:Oper}{x:Operand}{f:FuncId}{fn:Func}{c:Code}{cap:Array ti}{args:Array Operand}{qG:Array TypeId}{Post:ti->ui->Prop}{Die:List PanicEntry->ui->Prop}
  (ho:ops[i]?=yi o)(hw:Region.wanted o (yielded ops a.tmps)=ji)(hk:b.kind≠.early)(hop:o.op=.call {callee:=.value x,args,argTypes:=qG})(hx:a.eval x=.func (.func f) #[] cap)
  (hf : P.funcs[f]? = yi fn) (Xw : (fn.name == "runtime.NumGoroutine") = gi) (hb : fn.body = yi c) (vs : Array ti) (hv : args.map a.eval ++ cap = vs) (hc : Xi P main R D f vs w Post Die)
  (h:∀v w',Post v w'->Ci P main R D Stop (G (b.at (a.put o.dst v) (.inRegion ops rest::k)) cs) w')
  (hd:∀ch w' fr,Die ch w'->fr.fn=b.fn->fr.kind=b.kind->fr.defers=a.defers->fr.mode=.panicking ch->Ci P main R D Stop (G fr cs) w'):
  Ci P main R D Stop (G (b.at a (.inRegion ops (i::rest)::k)) cs) w:=by
 have uk:fn.body.isNone=false:=by rw[hb];rfl
 refine .ctl T rfl (g':=G (Frame.enter P f vs .normal) (b.at a (.inRegion ops (i::rest)::k)::cs)) (fun w₁=>?_) ?_
 ·have e:=iZ (w:=w₁) hop hx hf Xw uk;rw[stepG_enter ho hw hk e.1,hv];have:listed P b.fn a o w₁=#[]:=by unfold listed;rw[e.2];exact seen_none P _
  rw[this]
 ·exact bg
end
def Cm(ins:List (Int×Int))(dev:Int):Int×Int:=match ins.find? (fun x=>x.1==dev)with
 |some x=>(x.2,1)
 |none=>(0,0)
def InR(L:km)(w0:ui)(inV:ti)(ins:List (Int×Int)):Prop:=∃a c,inV=.slice a ins.length c/\∀(j:Nat)(x:Int×Int),ins[j]?=yi x->∃ib io,a=yi ⟨ib,io,Ai⟩/\Still L w0 ib/\w0.cell? ⟨ib,io+j*2,Ai⟩=yi (.int .i64 x.1)/\w0.cell? ⟨ib,io+j*2+1,Ai⟩=yi (.int .i64 x.2)
section
variable {L:km}{w0 w:ui}{rows ls:List Row}{kb b:Nat}{dev:Int}
theorem Si.ga0(h:Si L w0 rows ls w){t:Nat}(ht:(t==L.ev)=gi)(x y:Int):Si L w0 rows (ls++[⟨w.heap.size,2,t,o30 x y⟩]) (w.alloc (.cells #[.int .i64 x,.int .i64 y] t)):=
 h.alloc #[.int .i64 x,.int .i64 y] t (o30 x y) ht fun j hj=>by
  have:j=0\/j=1:=by simp at hj;omega
  rcases this with rfl|rfl<;>rfl
theorem Si.S80(h:Si L w0 rows ls w){t:Nat}(ht:(t==L.ev)=gi)(x:Int):Si L w0 rows (ls++[⟨w.heap.size,1,t,fun _=>.int .i64 x⟩]) (w.alloc (.cells #[.int .i64 x] t)):=
 h.alloc #[.int .i64 x] t (fun _=>.int .i64 x) ht fun j hj=>by
  have:j=0:=by simp at hj;omega
  subst this;rfl
theorem fd0(vm:((59:Nat)==L.ev)=gi)(hb:rows[kb]?=yi ⟨b,1,2,fun _=>.int .i64 dev⟩)(d x:Int)(w:ui)(hF:Kn L w0 rows w):
  Xi prog gi L.R1 L.D1 147 #[.agg #[.int .i64 d,.int .i64 x],.pointer (yi ⟨b,0,Ai⟩)] w (fun v w'=>v=.bool (decide (d=dev))/\Kn L w0 rows w') (fun _ _=>False):=by
 replace hF:=hF.lay;have hk:(base 147).kind≠.early:=E1;refine Xi.intro L.Bi #[.agg #[.int .i64 d,.int .i64 x],.pointer (yi ⟨b,0,Ai⟩),ri,ri,ri,ri,ri,ri] func147 rfl J0 fun cl cs Stop jm _=>?_;refine J8 ?_;refine Yb ?_;refine K8 fun w1 K hK hF=>?_;refine I8 ?_ ?_
 ·refine bf ?_;exact j9
 clear hK K;replace hF:Si L w0 rows [⟨w1.heap.size,2,59,o30 d x⟩] _:=hF.ga0 vm d x;generalize hB:w1.heap.size=B at *;generalize hW:(w1.alloc (.cells #[.int .i64 d,.int .i64 x] 59))=w3 at *;clear hW hB w1;refine W9 ?_;refine M8 ?_;refine J8 ?_;refine rf ?_;refine M8 ?_;refine K8 fun w1 K hK hF=>?_;have hc:World.cell? _ ⟨B,0,Ai⟩=yi (.int .i64 d):=hF.ZB (k:=0) rfl (j:=0) (show 0<2 by omega);refine I8 ?_ ?_
 ·refine V9 ?_;exact W8
 clear hK K;clear hc;refine W9 ?_;refine K8 fun w1 K hK hF=>?_;have hc:World.cell? _ ⟨b,0,Ai⟩=yi (.int .i64 dev):=hF.cell hb (j:=0) (show 0<1 by omega);refine I8 ?_ ?_
 ·refine hF.looks hb ?_;exact W8
 clear hK K;clear hc;refine W9 ?_;refine Y8 ?_;refine J8 ?_;refine Wb fun todo=>?_;exact jm _ todo _ _ rfl (Ej L.Bi I0 _) ⟨by first|rfl|simp|(simp;rfl),hF.drop⟩
noncomputable def H00:Code:=match Tryz.f146.body with
 |some (.seq _ (.seq (.seq _ (.block _ (.loop c))) _))=>c
 |_=>.skip
noncomputable def Z80:Code:=match Tryz.f146.body with
 |some (.seq _ (.seq _ c))=>c
 |_=>.skip
variable {ins:List (Int×Int)}{a:Option Addr}{c:Nat}
theorem YR(vm:((59:Nat)==L.ev)=gi)(hb:rows[kb]?=yi ⟨b,1,2,fun _=>.int .i64 dev⟩)(Pm:∀(j:Nat)(x:Int×Int),ins[j]?=yi x->∃ib io,a=yi ⟨ib,io,Ai⟩/\Still L w0 ib/\w0.cell? ⟨ib,io+j*2,Ai⟩=yi (.int .i64 x.1)/\w0.cell? ⟨ib,io+j*2+1,Ai⟩=yi (.int .i64 x.2))(GF:ins.length<=1000){Stop:Goroutine->ui->Prop}(cs:List Frame)
  (jm:∀(a:Act)(todo:List Item)(w':ui)(v:ti),a.defers=[]->qp prog L.R1 L.D1 146 Tryz.f146 a.tmps w' v->(Kn L w0 rows w'/\((v=.int .i64 (-1)/\∀(j:Nat)(x:Int×Int),ins[j]?=yi x->x.1≠dev)\/∃(n:Nat)(x:Int×Int),v=.int .i64 n/\ins[n]?=yi x/\x.1=dev/\∀j,j<n->∀y,ins[j]?=yi y->y.1≠dev))->Ci prog gi L.R1 L.D1 Stop (G {(base 146).at a todo with mode:=.returning} cs) w'):
  ∀(rem i:Nat)(w:ui)(u2 u3 u5 u9 Py pz wx Kx tw vw u16 Aw zw:ti),i+rem=ins.length->(∀j,j<i->∀y,ins[j]?=yi y->y.1≠dev)->Si L w0 rows [] w->
   Ci prog gi L.R1 L.D1 Stop (G ((base 146).at {tmps:=#[.slice a ins.length c,.func (.func 147) #[] #[.pointer (yi ⟨b,0,Ai⟩)],u2,u3,.int .i64 0,u5,.slice a ins.length c,.int .i64 ins.length,.int .i64 i,u9,Py,pz,wx,Kx,tw,vw,u16,Aw,zw],defers:=[]} [.code H00,.inLoop H00,.inBlock 0,.code Z80]) cs) w:=by
 have hk:(base 146).kind≠.early:=E1;intro rem;induction rem with
 |zero=>
  intro i w u2 u3 u5 u9 Py pz wx Kx tw vw u16 Aw zw hi qB hF;obtain rfl:i=ins.length:=E0;refine J8 ?_;refine s9 ?_;refine M8 ?_;refine J8 ?_;refine vd ?_;refine J8 ?_;refine s9 ?_;refine M8 ?_;refine J8 ?_;refine Wb fun todo=>?_;exact jm _ todo _ _ rfl (Ej L.Bi I0 _) ⟨hF.drop,.inl ⟨rfl,fun j x h=>qB j (List.getElem?_eq_some_iff.1 h).1 x h⟩⟩
 |succ rem ih=>
  intro i w u2 u3 u5 u9 Py pz wx Kx tw vw u16 Aw zw hi qB hF;have Wi:i<ins.length:=E0;have FC:(i:Int)<(ins.length:Int):=E0;have hwr:IntKind.i64.wrap ((i:Int)+1)=((i+1:Nat):Int):=by rw[IntKind.wrap_i64];omega
  obtain⟨x,hx⟩:∃x,ins[i]?=yi x:=⟨_,List.getElem?_eq_getElem Wi⟩;obtain⟨ib,io,ea,si,c0,c1⟩:=Pm i x hx;obtain⟨d,nn⟩:=x;subst ea;refine J8 ?_;refine s9 ?_;refine M8 ?_;refine J8 ?_;refine Ci.zk L.Bi (by first|rfl|simp[Act.eval,FC]|simp[Act.eval]) ?_;refine J8 ?_;refine L8 ?_;refine J8 ?_;refine N9 ?_;refine P8 ?_;refine K8 fun w1 K hK hF=>?_;refine I8 ?_ ?_
  ·exact bh
  clear hK K;refine W9 ?_;refine K8 fun w1 K hK hF=>?_;have rN:World.cell? _ ⟨ib,io+i*2,Ai⟩=yi (.int .i64 d):=(hF.nj si).trans c0;have xN:World.cell? _ ⟨ib,io+i*2+1,Ai⟩=yi (.int .i64 nn):=(hF.nj si).trans c1;refine I8 ?_ ?_
  ·refine hF.Aj si ?_;exact Pg
  clear hK K;clear rN xN;refine W9 ?_;refine Ci.td0 L.Bi (f:=147) (cap:=#[.pointer (yi ⟨b,0,Ai⟩)]) rfl I0 hk rfl I0 func147 I0 rfl #[.agg #[.int .i64 d,.int .i64 nn],.pointer (yi ⟨b,0,Ai⟩)] J0 (fd0 vm (Uj hb) d nn _ hF) ?_ (fun _ _ _ h=>h.elim);rintro v w2 ⟨rfl,ql⟩;replace hF:Si L w0 rows [] _:=ql;clear ql;refine W9 ?_;refine J8 ?_;by_cases hd:d=dev
  ·skip;refine Ci.zk L.Bi (by first|rfl|simp[Act.eval,hd]) ?_;refine J8 ?_;refine L8 ?_;refine J8 ?_;refine Wb fun todo=>?_;exact jm _ todo _ _ rfl (Ej L.Bi I0 _) ⟨hF.drop,.inr ⟨i,(d,nn),M5,hx,hd,qB⟩⟩
  ·skip;refine Ci.xk L.Bi (by first|rfl|simp[Act.eval,hd]) ?_;refine J8 ?_;refine L8 ?_;refine J8 ?_;refine Zf ?_;refine ih (i+1) _ _ _ _ _ _ _ _ _ _ _ _ _ _ E0 (fun j hj y hy=>?_) hF;by_cases Yq:j=i
   ·subst Yq;rw[hx]at hy;cases hy;exact hd
   ·exact qB j E0 y hy
theorem Z40(vm:((59:Nat)==L.ev)=gi)(hb:rows[kb]?=yi ⟨b,1,2,fun _=>.int .i64 dev⟩)(Pm:∀(j:Nat)(x:Int×Int),ins[j]?=yi x->∃ib io,a=yi ⟨ib,io,Ai⟩/\Still L w0 ib/\w0.cell? ⟨ib,io+j*2,Ai⟩=yi (.int .i64 x.1)/\w0.cell? ⟨ib,io+j*2+1,Ai⟩=yi (.int .i64 x.2))(GF:ins.length<=1000)(w:ui)(hF:Kn L w0 rows w):
  Xi prog gi L.R1 L.D1 146 #[.slice a ins.length c,.func (.func 147) #[] #[.pointer (yi ⟨b,0,Ai⟩)]] w (fun v w'=>Kn L w0 rows w'/\((v=.int .i64 (-1)/\∀(j:Nat)(x:Int×Int),ins[j]?=yi x->x.1≠dev)\/∃(n:Nat)(x:Int×Int),v=.int .i64 n/\ins[n]?=yi x/\x.1=dev/\∀j,j<n->∀y,ins[j]?=yi y->y.1≠dev)) (fun _ _=>False):=by
 replace hF:=hF.lay;have hk:(base 146).kind≠.early:=E1;refine Xi.intro L.Bi #[.slice a ins.length c,.func (.func 147) #[] #[.pointer (yi ⟨b,0,Ai⟩)],ri,ri,ri,ri,ri,ri,ri,ri,ri,ri,ri,ri,ri,ri,ri,ri,ri] func146 rfl J0 fun cl cs Stop jm _=>?_;refine J8 ?_;refine s9 ?_;refine M8 ?_;refine J8 ?_;refine Q9 ?_;refine P8 ?_;refine J8 ?_;refine Hh ?_;exact YR vm hb Pm GF _ jm ins.length 0 _ _ _ _ _ _ _ _ _ _ _ _ _ _ E0 (fun j hj=>E0) hF
theorem PH{ins:List (Int×Int)}{dev:Int}(h:∀(j:Nat)(x:Int×Int),ins[j]?=yi x->x.1≠dev):Cm ins dev=(0,0):=by
 unfold Cm;have:ins.find? (fun x=>x.1==dev)=none:=by
  rw[List.find?_eq_none];intro x hx;obtain⟨j,hj⟩:=List.getElem?_of_mem hx;simpa using h j x hj
 rw[this]
theorem NH{ins:List (Int×Int)}{dev:Int}{n:Nat}{x:Int×Int}(h:ins[n]?=yi x)(hd:x.1=dev)(qB:∀j,j<n->∀y,ins[j]?=yi y->y.1≠dev):Cm ins dev=(x.2,1):=by
 unfold Cm;have:ins.find? (fun x=>x.1==dev)=yi x:=by
  induction ins generalizing n with
  |nil=>simp at h
  |cons y l ih=>
   cases n with
   |zero=>
    simp at h;subst h;rw[List.find?_cons_of_pos];simp[hd]
   |succ n=>
    have h0:=qB 0 E0 y rfl;rw[List.find?_cons_of_neg (by simp[h0])];exact ih Y2 fun j hj z hz=>qB (j+1) E0 z (by simpa using hz)
 rw[this]
theorem W10(vm:((59:Nat)==L.ev)=gi)(yM:((2:Nat)==L.ev)=gi)(Pm:∀(j:Nat)(x:Int×Int),ins[j]?=yi x->∃ib io,a=yi ⟨ib,io,Ai⟩/\Still L w0 ib/\w0.cell? ⟨ib,io+j*2,Ai⟩=yi (.int .i64 x.1)/\w0.cell? ⟨ib,io+j*2+1,Ai⟩=yi (.int .i64 x.2))(GF:ins.length<=1000)(w:ui)(hF:Kn L w0 rows w):
  Xi prog gi L.R1 L.D1 143 #[.int .i64 dev,.slice a ins.length c] w (fun v w'=>v=.tuple #[.int .i64 (Cm ins dev).1,.int .i64 (Cm ins dev).2]/\Kn L w0 rows w') (fun _ _=>False):=by
 replace hF:=hF.lay;have hk:(base 143).kind≠.early:=E1;refine Xi.intro L.Bi #[.int .i64 dev,.slice a ins.length c,ri,ri,ri,ri,ri,ri,ri,ri,ri,ri,ri,ri,ri,ri,ri] func143 rfl J0 fun cl cs Stop jm _=>?_;refine J8 ?_;refine Q9 ?_;refine K8 fun w1 K hK hF=>?_;refine I8 ?_ ?_
 ·refine bf ?_;exact j9
 clear hK K;replace hF:Si L w0 rows [⟨w1.heap.size,1,2,fun _=>.int .i64 dev⟩] _:=hF.S80 yM dev;generalize hB:w1.heap.size=b at *;generalize hW:(w1.alloc (.cells #[.int .i64 dev] 2))=w3 at *;clear hW hB w1;refine W9 ?_;refine Y8 ?_;refine J8 ?_;refine Fb ?_;refine Y8 ?_;refine Ci.Bv L.Bi rfl I0 hk rfl func146 I0 rfl #[.slice a ins.length c,.func (.func 147) #[] #[.pointer (yi ⟨b,0,Ai⟩)]] J0 (Z40 (rows:=rows++_) vm (Gm (k:=0) rfl) Pm GF _ hF) ?_ (fun _ _ _ h=>h.elim);rintro v w2 ⟨ql,hv⟩;replace hF:Si L w0 rows _ _:=ql;clear ql;refine W9 ?_;rcases hv with⟨rfl,qB⟩|⟨n,x,rfl,hx,hd,qB⟩
 ·skip;refine M8 ?_;refine J8 ?_;refine L8 ?_;refine J8 ?_;refine ng ?_;refine J8 ?_;refine L8 ?_;refine J8 ?_;refine Wb fun todo=>?_;exact jm _ todo _ _ rfl (Br L.Bi I0 _) ⟨by rw[PH qB];rfl,hF.drop⟩
 ·skip;obtain⟨ib,io,ea,si,c0,c1⟩:=Pm n x hx;obtain⟨d,nn⟩:=x;subst ea;have Wi:=(List.getElem?_eq_some_iff.1 hx).1;have FC:(n:Int)<(ins.length:Int):=by omega
  have hnn:¬((n:Int)<0):=E0;refine M8 ?_;refine J8 ?_;refine L8 ?_;refine J8 ?_;refine Ci.xk L.Bi (by first|rfl|simp[Act.eval,hnn]|simp[Act.eval]) ?_;refine J8 ?_;refine ga ?_;refine Y8 ?_;refine K8 fun w1 K hK hF=>?_;refine I8 ?_ ?_
  ·exact bh
  clear hK K;refine W9 ?_;refine M8 ?_;refine K8 fun w1 K hK hF=>?_;have xN:World.cell? _ ⟨ib,io+n*2+1,Ai⟩=yi (.int .i64 nn):=(hF.nj si).trans c1;refine I8 ?_ ?_
  ·refine hF.Aj si ?_;exact W8
  clear hK K;clear xN;refine W9 ?_;refine Y8 ?_;refine J8 ?_;refine Wb fun todo=>?_;exact jm _ todo _ _ rfl (Br L.Bi I0 _) ⟨by rw[NH hx hd qB];rfl,hF.drop⟩
end
section
variable {L:km}{w0:ui}{rows:List Row}{ic g:Nat}{num dev:Int}{net code:ti}{z:Nat->Int}{ins:List (Int×Int)}{inV:ti}
theorem Y10(vm:((97:Nat)==L.ev)=gi)(Wi0:((59:Nat)==L.ev)=gi)(yM:((2:Nat)==L.ev)=gi)(hi:rows[ic]?=yi (Ri g num net code z))(Pm:InR L w0 inV ins)(GF:ins.length<=1000)(R A:Nat)(dp:R<4)(ep:A<4)(w:ui)(hF:Kn L w0 rows w):
  Xi prog gi L.R1 L.D1 129 #[.pointer (yi ⟨g,0,Ai⟩),.agg #[.int .i64 14,.int .i64 R,.int .i64 A,.int .i64 dev],inV] w (fun v w'=>v=.tuple #[]/\Kn L w0 (rows.set ic (Ri g num net code (Ji (Ji z (25+R) (Cm ins dev).1) (25+A) (Cm ins dev).2))) w') (fun _ _=>False):=by
 have hk:(base 129).kind≠.early:=E1;obtain⟨a,c,rfl,Pm⟩:=Pm;refine Xi.intro (c:=oz) L.Bi _ func129 rfl J0 fun cl cs Stop jm _=>Gv (g:=g) vm R A dp ep 14 dev (.slice a ins.length c) w hF fun B w3 hF=>?_;replace hF:Si L w0 (rows.set ic (Ri g num net code z)) [uj B 14 R A dev] w3:=by rw[Em hi];exact hF
 refine J8 ?_;refine Ea ?_;refine L8 ?_;refine J8 ?_;refine T9 ?_;refine J8 ?_;refine .Gi L.Bi [0,1,2,3,4,5,6,7,8,9,10,11,12] I0 ?_;refine P8 ?_;refine K8 fun w1 K hK hF=>?_;refine mb fun a0 a1 a2 a3=>?_;refine I8 ?_ ?_
 ·refine V9 ?_;exact W8
 clear hK K;clear a0 a1 a2 a3;refine W9 ?_;refine M8 ?_;refine Ci.Bv L.Bi rfl I0 hk rfl func143 I0 rfl #[.int .i64 dev,.slice a ins.length c] J0 (W10 (dev:=dev) Wi0 yM Pm GF _ hF) ?_ (fun _ _ _ h=>h.elim);rintro v w2 ⟨rfl,ql⟩;replace hF:Si L w0 (rows.set ic (Ri g num net code z)) [uj B 14 R A dev] _:=ql;clear ql;refine W9 ?_;refine P9 ?_;refine K8 fun w1 K hK hF=>?_;have hc:World.cell? _ ⟨g,25+R,Ai⟩=yi (.int .i64 (z (25+R))):=Si.cz hi hF E0 E0;refine Va fun Bn=>?_;refine I8 ?_ ?_
 ·exact Oa
 clear hK K;clear hc Bn;replace hF:=Si.yu hi hF (j:=25+R) E0 ((Cm ins dev).1);refine W9 ?_;refine M8 ?_;refine K8 fun w1 K hK hF=>?_;have hc:World.cell? _ ⟨g,25+A,Ai⟩=yi (.int .i64 ((Ji z (25+R) (Cm ins dev).1) (25+A))):=Si.cz hi hF E0 E0;have Bn:World.frozen? _ ⟨g,25+A,Ai⟩=false:=Si.XI hi hF (25+A);refine I8 ?_ ?_
 ·refine Si.Hq hi hF (25+A) _ ?_;exact Ec
 clear hK K;clear hc Bn;replace hF:=Si.yu hi hF (j:=25+A) E0 ((Cm ins dev).2);refine W9 ?_;refine J8 ?_;exact qa
end
structure Ln where
 wv:ti
 ws:List Int
 lost:Int
 shown:Bool
 shows:Int
 since:Int
def uv(l:Ln)(j:Nat):Value:=if j=0 then l.wv else if j=1 then .int .i64 l.lost else if j=2 then .bool l.shown else if j=3 then .int .i64 l.shows else .int .i64 l.since
def Jm(Ls:Nat->Ln)(j:Nat):Value:=uv (Ls (j/5)) (j%5)
theorem O_(Ls:Nat->Ln)(n:Nat){i:Nat}(hi:i<5):Jm Ls (n*5+i)=uv (Ls n) i:=by
 unfold Jm;rw[show (n*5+i)/5=n by omega,show (n*5+i)%5=i by omega]
section
variable {w:ui}{L m t n i a:Nat}{Ls:Nat->Ln}
theorem Ei.Qy(h:Ei w L m t (Jm Ls))(hi:i<5)(ha:a=n*5+i){v:ti}{l':Ln}(hl:∀j,j<5->uv l' j=if j=i then v else uv (Ls n) j):Ei (w.setCell ⟨L,a,Ai⟩ v) L m t (Jm (fj Ls n l')):=by
 subst ha;refine(h.set _ _).congr fun j _=>?_;unfold Jm;by_cases e:j/5=n
 ·rw[e,Oi,hl _ (Nat.mod_lt _ E0)];by_cases e2:j%5=i
  ·rw[if_pos e2,if_pos E0]
  ·rw[if_neg e2,if_neg E0]
 ·rw[cj _ _ e,if_neg E0]
theorem five{j:Nat}(h:j<5):j=0\/j=1\/j=2\/j=3\/j=4:=E0
theorem Ei.lw(h:Ei w L m t (Jm Ls))(ha:a=n*5+0)(v:ti)(ws:List Int):Ei (w.setCell ⟨L,a,Ai⟩ v) L m t (Jm (fj Ls n {Ls n with wv:=v,ws:=ws})):=
 Ei.Qy h E0 ha fun j hj=>by rcases five hj with rfl|rfl|rfl|rfl|rfl<;>rfl
theorem Ei.ll(h:Ei w L m t (Jm Ls))(ha:a=n*5+1)(x:Int):Ei (w.setCell ⟨L,a,Ai⟩ (.int .i64 x)) L m t (Jm (fj Ls n {Ls n with lost:=x})):=
 Ei.Qy h E0 ha fun j hj=>by rcases five hj with rfl|rfl|rfl|rfl|rfl<;>rfl
theorem Ei.LQ(h:Ei w L m t (Jm Ls))(hi:i<5)(ha:a=n*5+i)(hm:a<m):w.cell? ⟨L,a,Ai⟩=yi (uv (Ls n) i):=by
 subst ha;rw[h.cell hm,O_ _ _ hi]
end
def InK(w:ui)(pi:Option Addr)(l:List (Int×Int)):Prop:=∀(j:Nat)(x:Int×Int),l[j]?=yi x->∃ib io,pi=yi ⟨ib,io,Ai⟩/\w.cell? ⟨ib,io+j*2,Ai⟩=yi (.int .i64 x.1)/\w.cell? ⟨ib,io+j*2+1,Ai⟩=yi (.int .i64 x.2)
theorem Q10(Kb ci:Nat)(pi:Option Addr)(l:List (Int×Int))(dev:Int)(w:ui)(h7:w.cell? ⟨Kb,7,Ai⟩=yi (.slice pi l.length ci))(hs:InK w pi l)(hl:l.length<=1000):
  Calls prog 130 #[.pointer (yi ⟨Kb,0,Ai⟩),.int .i64 dev] w fun e w'=>e=.returned (.tuple #[.int .i64 (Cm l dev).1,.int .i64 (Cm l dev).2])/\w'=w:=by
 have HS:=Gl hs;obtain⟨n,hn⟩:∃n,n=l.length:=⟨_,rfl⟩;have HN:=Gl hn;rw[<-hn]at h7 hl
 go_enter func130,ntmps130
 go_wp2_with fail
 go_loopw [6] (fun i wr=>∃k:Nat,k<=n/\i=.int .i64 k/\Hid (∀j,j<k->∀y:Int×Int,l[j]?=yi y->y.1≠dev)/\wr=w) (fun i _=>n-(intOf i).toNat)
 case atStart=>exact⟨0,Nat.zero_le _,rfl,fun j hj=>absurd hj E0,rfl⟩
 case round=>
  obtain⟨k,hk,rfl,HK,rfl⟩:=hrel;by_cases Wi:k<n
  ·have FC:(k:Int)<(n:Int):=by omega
   obtain⟨x,hx⟩:∃x,l[k]?=yi x:=⟨_,List.getElem?_eq_getElem (by rw[<-HN.out];exact Wi)⟩;obtain⟨ib,io,rfl,c0,c1⟩:=HS.out k x hx;have HX:=Gl hx;obtain⟨x0,x1⟩:=x;by_cases he:x0=dev
   ·have HR:=Gl (NH HX.out he HK.out);subst he;go_wp2_with fail
    go_ret2
    exact⟨by rw[HR.out];rfl,rfl⟩
   ·have HK2:Hid (∀j,j<k+1->∀y:Int×Int,l[j]?=yi y->y.1≠dev):=fun j hj y hy=>by
     rcases Nat.lt_or_ge j k with h|h
     ·exact HK.out j h y hy
     ·obtain rfl:j=k:=by omega
      rw[HX.out]at hy;cases hy;exact he
    go_wp2_with fail
    exact⟨⟨k+1,E0,J1,HK2,by first|rfl|trivial⟩,U1⟩
  ·obtain rfl:k=n:=by omega
   have HR:=Gl (PH fun j x hj=>HK.out j (by rw[HN.out];exact(List.getElem?_eq_some_iff.1 hj).1) x hj);go_wp2_with fail
   go_ret2
   exact⟨by rw[HR.out];rfl,rfl⟩
theorem yI(Kb ci:Nat)(pi:Option Addr)(l:List (Int×Int))(R A dev:Int)(w:ui)(h7:w.cell? ⟨Kb,7,Ai⟩=yi (.slice pi l.length ci))(hs:InK w pi l)(hl:l.length<=1000):
  Calls prog 115 #[.pointer (yi ⟨Kb,0,Ai⟩),.agg #[.int .i64 14,.int .i64 R,.int .i64 A,.int .i64 dev]] w fun e w'=>e=.returned (.tuple #[.int .i64 (Cm l dev).1,.int .i64 (Cm l dev).2])/\Below w.heap.size w w':=by
 have HA:Hid (Below w.heap.size w (w.alloc (.cells #[.int .i64 14,.int .i64 R,.int .i64 A,.int .i64 dev] 97))):=(Below.refl _ _).alloc (Nat.le_refl _) _;have HC:Hid (Calls prog 130 #[.pointer (yi ⟨Kb,0,Ai⟩),.int .i64 dev] (w.alloc (.cells #[.int .i64 14,.int .i64 R,.int .i64 A,.int .i64 dev] 97)) fun e w'=>e=.returned (.tuple #[.int .i64 (Cm l dev).1,.int .i64 (Cm l dev).2])/\w'=w.alloc (.cells #[.int .i64 14,.int .i64 R,.int .i64 A,.int .i64 dev] 97)):=
  Q10 Kb ci pi l dev _ ((HA.out.cell (p:=⟨Kb,7,Ai⟩) (cell_lt h7)).trans h7) (fun j x hj=>by
   obtain⟨ib,io,e,c0,c1⟩:=hs j x hj;exact⟨ib,io,e,(HA.out.cell (p:=⟨ib,_,Ai⟩) (cell_lt c0)).trans c0,(HA.out.cell (p:=⟨ib,_,Ai⟩) (cell_lt c1)).trans c1⟩) hl
 go_enter func115,ntmps115
 go_wp2_with (go_at_call 130;refine HC.out.mono ?_;rintro e w' ⟨rfl,rfl⟩)
 go_ret2
 exact⟨rfl,HA.out⟩
theorem pH{w:ui}{b e s n:Nat}{v:ti}{xs:List ti}(h:w.ownsRow b e s v n xs):∃p cap,v=.slice p n cap:=by
 rcases h.2 with⟨rfl,rfl⟩|⟨g,cap,cur,rfl,_⟩
 ·exact⟨Ai,0,rfl⟩
 ·exact⟨_,cap,rfl⟩
theorem ew{P:Program}(w:ui){ops:Array Oper}{rest:List Oper}{o:Oper}{a:Act}{Q:Exit->Act->ui->Prop}(UK:o.guard=Ai)(s x:Operand)(t:TypeId)
  (ho:o.op=.call {callee:=.builtin .append,args:=#[s,x],argTypes:=#[t,t]})
  (base:Nat)(e:TypeId)(z:ti)(size bytes:Nat)(ht:P.underlying t=yi (.slice e))(Xr:(P.info? e).map (fun i=>(i.zero,i.size,i.bytes))=yi (yi z,size,bytes))
  (hzs:z.cells.size=size)(hsz:0<size)(v:ti)(n:Nat)(xs:List ti)(hs:a.eval s=v)(rj:w.ownsRow base e size v n xs)
  (b off m c:Nat)(news:List ti)(hx:a.eval x=.slice (yi ⟨b,off,Ai⟩) m c)(hl:news.length=m*size)(hc:∀j u,news[j]?=yi u->w.cell? ⟨b,off+j,Ai⟩=yi u)(h1:∀u∈news,u.oneCell'=ji)
  (zV:n+m<=maxLen)(iu:(n+m)*bytes<=140737488355328)(iz:base<=w.heap.size)
  (h:∀p cap w',w'.ownsRow base e size (.slice p (n+m) cap) (n+m) (xs++news)->w.grownBy w' v.ownBlock->((Value.slice p (n+m) cap).ownBlock=v.ownBlock\/(Value.slice p (n+m) cap).ownBlock=yi w.heap.size)->wpList P ops Q rest (a.put o.dst (.slice p (n+m) cap)) w'):wpList P ops Q (o::rest) a w:=by
 obtain⟨i,h2,h3,h4,h5⟩:=info_parts Xr;obtain⟨v',w',hr,g2,g3,_,g5⟩:=run_append_own_at (P:=P) w base t o.type e i z size bytes ht h2 h3 h4 h5 hzs hsz v n xs rj ⟨b,off,Ai⟩ m c news hl (fun j u hu=>by rw[Addr.add_lit];exact hc j u hu) h1 zV iu iz;obtain⟨p,cap,rfl⟩:=pH g2;refine wpList_plain UK fun _ hK=>?_;refine Ef ?_;exact hK _ _ (h p cap w' g2 g3 g5)
theorem lN(Kb Lb kc N:Nat)(R A:Int)(Ls:Nat->Ln)(w:ui)(h5:w.cell? ⟨Kb,5,Ai⟩=yi (.slice (yi ⟨Lb,0,Ai⟩) kc kc))(hr:Ei w Lb (kc*5) 175 (Jm Ls))(hN:N<kc)(_hk:kc<=1000)(p:Option Addr)(c:Nat)(hw:(Ls N).wv=.slice p 0 c):
  Calls prog 115 #[.pointer (yi ⟨Kb,0,Ai⟩),.agg #[.int .i64 12,.int .i64 R,.int .i64 A,.int .i64 N]] w fun e w'=>e=.returned (.tuple #[.int .i64 0,.int .i64 0])/\Below w.heap.size w w':=by
 have HW:=Gl hw;refine vh fun HA=>?_;refine Zc fun HB HR k5 b0 b3=>?_
 go_enter func115,ntmps115
 go_wp2_with fail
 generalize w.alloc (.cells #[.int .i64 12,.int .i64 R,.int .i64 A,.int .i64 N] 97)=W at *;generalize hB:w.heap.size=B at *;go_region_held3 (fun W=>W.cell? ⟨Kb,5,Ai⟩=yi (.slice (yi ⟨Lb,0,Ai⟩) kc kc)/\W.cell? ⟨B,3,Ai⟩=yi (.int .i64 N)) (go_keep) (fail);have e0:W.cell? ⟨Lb,N*5,Ai⟩=yi (.slice p 0 c):=(Ei.LQ HR.out (n:=N) (i:=0) (a:=N*5) E0 rfl E0).trans (congrArg yi (by show uv (Ls N) 0=_;unfold uv;simp[HW.out]));go_wp2_with fail
 go_ret2
 exact⟨rfl,A6⟩
theorem ZI(Kb Lb kc N:Nat)(R A:Int)(Ls:Nat->Ln)(w:ui)(h5:w.cell? ⟨Kb,5,Ai⟩=yi (.slice (yi ⟨Lb,0,Ai⟩) kc kc))(hr:Ei w Lb (kc*5) 175 (Jm Ls))(hN:N<kc)(_hk:kc<=1000)(hw:(Ls N).shown=gi):
  Calls prog 115 #[.pointer (yi ⟨Kb,0,Ai⟩),.agg #[.int .i64 13,.int .i64 R,.int .i64 A,.int .i64 N]] w fun e w'=>e=.returned (.tuple #[.int .i64 0,.int .i64 (-1)])/\Below w.heap.size w w':=by
 refine Aa fun HW HA HB HR k5 b0 b3=>?_
 go_enter func115,ntmps115
 go_wp2_with fail
 generalize w.alloc (.cells #[.int .i64 13,.int .i64 R,.int .i64 A,.int .i64 N] 97)=W at *;generalize hB:w.heap.size=B at *;go_region_held3 (fun W=>W.cell? ⟨Kb,5,Ai⟩=yi (.slice (yi ⟨Lb,0,Ai⟩) kc kc)/\W.cell? ⟨B,3,Ai⟩=yi (.int .i64 N)) (go_keep) (fail);have e2:W.cell? ⟨Lb,N*5+2,Ai⟩=yi (.bool gi):=(Ei.LQ HR.out (n:=N) (i:=2) (a:=N*5+2) E0 rfl E0).trans (congrArg yi (by show uv (Ls N) 2=_;unfold uv;simp[HW.out]));go_wp2_with fail
 go_ret2
 exact⟨rfl,A6⟩
theorem XL(Kb Lb kc N:Nat)(R A:Int)(Ls:Nat->Ln)(w:ui)(h5:w.cell? ⟨Kb,5,Ai⟩=yi (.slice (yi ⟨Lb,0,Ai⟩) kc kc))(hr:Ei w Lb (kc*5) 175 (Jm Ls))(hN:N<kc)(_hk:kc<=1000)(hw:(Ls N).shown=ji)(F:Int)(h6:w.cell? ⟨Kb,6,Ai⟩=yi (.int .i64 F)):
  Calls prog 115 #[.pointer (yi ⟨Kb,0,Ai⟩),.agg #[.int .i64 13,.int .i64 R,.int .i64 A,.int .i64 N]] w fun e w'=>e=.returned (.tuple #[.int .i64 (Ls N).shows,.int .i64 (IntKind.i64.wrap (F-(Ls N).since))])/\Below w.heap.size w w':=by
 refine Aa fun HW HA HB HR k5 b0 b3=>?_;have k6:=(HA.out.cell (p:=⟨Kb,6,Ai⟩) (cell_lt h6)).trans h6
 go_enter func115,ntmps115
 go_wp2_with fail
 generalize w.alloc (.cells #[.int .i64 13,.int .i64 R,.int .i64 A,.int .i64 N] 97)=W at *;generalize hB:w.heap.size=B at *;go_region_held3 (fun W=>W.cell? ⟨Kb,5,Ai⟩=yi (.slice (yi ⟨Lb,0,Ai⟩) kc kc)/\W.cell? ⟨B,3,Ai⟩=yi (.int .i64 N)) (go_keep) (fail);have e2:W.cell? ⟨Lb,N*5+2,Ai⟩=yi (.bool ji):=(Ei.LQ HR.out (n:=N) (i:=2) (a:=N*5+2) E0 rfl E0).trans (congrArg yi (by show uv (Ls N) 2=_;unfold uv;simp[HW.out]));have e3:W.cell? ⟨Lb,N*5+3,Ai⟩=yi (.int .i64 (Ls N).shows):=(Ei.LQ HR.out (n:=N) (i:=3) (a:=N*5+3) E0 rfl E0).trans rfl;have e4:W.cell? ⟨Lb,N*5+4,Ai⟩=yi (.int .i64 (Ls N).since):=(Ei.LQ HR.out (n:=N) (i:=4) (a:=N*5+4) E0 rfl E0).trans rfl;go_wp2_with fail;go_region_held3 (fun W=>W.cell? ⟨Kb,6,Ai⟩=yi (.int .i64 F)/\W.cell? ⟨Lb,N*5+3,Ai⟩=yi (.int .i64 (Ls N).shows)/\W.cell? ⟨Lb,N*5+4,Ai⟩=yi (.int .i64 (Ls N).since)) (go_keep) (fail)
 go_wp2_with fail
 go_ret2
 exact⟨by first|rfl|(rw[IntKind.wrap_i64];rfl),by rw[hB];exact HA.out.drew.drew⟩
structure Wy(w W w1:ui)(Lb:Nat)(v:ti)(m:Nat)(xs:List ti):Prop where
 b1:Below w.heap.size w W
 sz:w.heap.size<=W.heap.size
 gr:W.grownBy w1 Ai
 own:w1.ownsRow 0 2 1 v m xs
 at':v.ownBlock=Ai\/v.ownBlock=yi W.heap.size
section
variable {w W w1:ui}{Lb m:Nat}{v:ti}{xs:List ti}
theorem Wy.but(h:Wy w W w1 Lb v m xs){j:Nat}{x:ti}:ak (fun j=>j=Lb) w (w1.setCell ⟨Lb,j,Ai⟩ x):=by
 refine⟨h.gr.os.trans h.b1.os,h.gr.tape.trans h.b1.tape,h.gr.output.trans h.b1.output,?_,fun k hk hn=>?_⟩
 ·rw[size_setCell];exact Nat.le_trans h.sz h.gr.size
 ·rw[heap_setCell_other _ _ _ _ hn,h.gr.block k (Nat.lt_of_lt_of_le hk h.sz) P0];exact h.b1.block k hk
theorem Wy.BF(h:Wy w W w1 Lb v m xs)(hL:Lb<W.heap.size){j:Nat}{x:ti}:(w1.setCell ⟨Lb,j,Ai⟩ x).ownsRow 0 2 1 v m xs:=
 Rk h.own fun b hb=>heap_setCell_other _ (a:=⟨Lb,j,Ai⟩) _ _ (fun e=>by
  have e:b=Lb:=e;rcases h.at' with h1|h1
  ·rw[h1]at hb;cases hb
  ·rw[h1]at hb;have:=Option.some.inj hb;omega)
theorem Wy.blk(h:Wy w W w1 Lb v m xs)(b:Nat)(hb:v.ownBlock=yi b):w.heap.size<=b:=by
 rcases h.at' with h1|h1
 ·rw[h1]at hb;cases hb
 ·rw[h1]at hb;have:=Option.some.inj hb;have:=h.sz;omega
end
def xy(l:List Int):List Value:=l.map (Value.int .i64)
theorem qM(Kb Lb kc N:Nat)(R A:Int)(Ls:Nat->Ln)(w:ui)(h5:w.cell? ⟨Kb,5,Ai⟩=yi (.slice (yi ⟨Lb,0,Ai⟩) kc kc))(hr:Ei w Lb (kc*5) 175 (Jm Ls))(hN:N<kc)(_hk:kc<=1000)(x:Int)(l:List Int)(rj:w.ownsRow 0 2 1 (Ls N).wv (l.length+1) (xy (x::l)))(hl:l.length<=1000):
  Calls prog 115 #[.pointer (yi ⟨Kb,0,Ai⟩),.agg #[.int .i64 12,.int .i64 R,.int .i64 A,.int .i64 N]] w fun e w'=>e=.returned (.tuple #[.int .i64 x,.int .i64 1])/\∃v',Ei w' Lb (kc*5) 175 (Jm (fj Ls N {Ls N with wv:=v',ws:=l}))/\ak (fun j=>j=Lb) w w'/\w'.ownsRow 0 2 1 v' l.length (xy l)/\∀b,v'.ownBlock=yi b->w.heap.size<=b:=by
 obtain⟨g,cap,hw,hg,Fk0⟩:∃g cap,(Ls N).wv=.slice (yi ⟨g,0,Ai⟩) (l.length+1:Nat) cap/\g<w.heap.size/\l.length+1<=cap:=by
  rcases rj.2 with⟨_,h0⟩|⟨g,cap,cur,hv,hb,hg,hn,_⟩
  ·omega
  ·exact⟨g,cap,hv,(Array.getElem?_eq_some_iff.1 hg).1,hn⟩
 have HW:=Gl hw;rw[hw]at rj;refine vh fun HA=>?_;have HC:Hid (∀j u,(xy (x::l))[j]?=yi u->(w.alloc (.cells #[.int .i64 12,.int .i64 R,.int .i64 A,.int .i64 N] 97)).cell? ⟨g,j,Ai⟩=yi u):=fun j u hu=>by
  have:=rj.cells (g:=g) rfl j u hu;rw[Addr.add_lit,Nat.zero_add]at this;exact(HA.out.cell (p:=⟨g,j,Ai⟩) (cell_lt this)).trans this
 refine Zc fun HB HR k5 b0 b3=>?_;have e1:=HC.out 0 _ rfl;obtain⟨m,hm⟩:∃m,m=l.length:=⟨_,rfl⟩;have HM:=Gl hm;rw[<-hm]at HW hl Fk0;clear h5 hr HB rj hm
 go_enter func115,ntmps115
 go_wp2_with fail
 generalize w.alloc (.cells #[.int .i64 12,.int .i64 R,.int .i64 A,.int .i64 N] 97)=W at *;generalize hB:w.heap.size=B at *;go_region_held3 (fun W=>W.cell? ⟨Kb,5,Ai⟩=yi (.slice (yi ⟨Lb,0,Ai⟩) kc kc)/\W.cell? ⟨B,3,Ai⟩=yi (.int .i64 N)) (go_keep) (fail);have e0:=(Ei.LQ HR.out (n:=N) (i:=0) (a:=N*5) E0 rfl E0).trans (congrArg yi HW.out);by_cases xN:cap=1
 ·subst xN;obtain rfl:m=0:=by omega
  have hl0:=List.eq_nil_of_length_eq_zero HM.out.symm;subst hl0;go_wp2_with (at_builtin;refine ew _ rfl _ _ 51 rfl 0 2 _ 1 8 underlying51 Dm rfl E0 (.slice Ai 0 0) 0 [] rfl (World.ownsRow_nil _ _ _ _) g 0 0 0 [] rfl rfl (fun j u hu=>by simp at hu) (fun u hu=>by cases hu) Y1 E0 E0 ?_);intro pn M80 w1 Oj Ti hat;have HT:Hid (Wy w W.drew w1 Lb (.slice pn 0 M80) 0 (xy [])):=⟨A6,HA.out.drew.size,Ti,Oj,hat⟩;exact xc
 ·go_wp2_with (at_builtin;refine ew _ rfl _ _ 51 rfl 0 2 _ 1 8 underlying51 Dm rfl E0 (.slice Ai 0 0) 0 [] rfl (World.ownsRow_nil _ _ _ _) g 1 m (cap-1) (xy l) rfl (by unfold xy;rw[List.length_map,HM.out,Nat.mul_one]) (fun j u hu=>by rw[Nat.add_comm];exact HC.out (j+1) u hu) (fun u hu=>by obtain⟨y,_,rfl⟩:=List.mem_map.1 hu;rfl) Y1 E0 E0 ?_)
  intro pn M80 w1 Oj Ti hat;have HT:Hid (Wy w W.drew w1 Lb (.slice pn m M80) m (xy l)):=⟨A6,HA.out.drew.size,Ti,Oj,hat⟩;exact xc
section
variable {Kb Gc n nC cq bo oo cb co nI cc nx r a:Nat}{N:Int}{Q:Nat->RC}{w:ui}
theorem UJ{op:Int}(s:mG Kb Gc n nC cq bo oo cb co nI cc nx r a op N Q w)(hop:op=12\/op=13\/op=14)(Lb:Nat)(gL:Lb≠Gc)(hLb:Lb<w.heap.size)(rv av:Int)(R:ui->Prop)(hR:∀V V',ak (fun j=>j=Gc) V V'->R V->R V')(cZ:∀V,ak (fun j=>j=Gc) w V->Calls prog 115 #[.pointer (yi ⟨Kb,0,Ai⟩),.agg #[.int .i64 op,.int .i64 r,.int .i64 a,.int .i64 N]] V fun e w'=>e=.returned (.tuple #[.int .i64 rv,.int .i64 av])/\ak (fun j=>j=Lb) V w'/\R w'):
  Calls prog 88 #[.pointer (yi ⟨Kb,0,Ai⟩),.int .i64 n] w fun e w'=>e=.returned (.int .i64 0)/\Ei w' Gc (nC*26) 131 (Sj (fj Q n {Q n with z:=Ji (Ji (Ji (Q n).z 45 (nx+1)) (25+r) rv) (25+a) av}))/\ak (fun j=>j=Gc\/j=Lb) w w'/\R w':=by
 refine Bl s rfl fun B W x y hB b0 b1 b2 b3 er ea fr Bm dj Vy XF Zt Ir hG hn EF tH yF i3 i4=>?_;clear s;refine Y9 ?_;have Ld0:Hid (∀V,ak (fun j=>j=Gc) w V->Calls prog 115 #[.pointer (yi ⟨Kb,0,Ai⟩),.agg #[.int .i64 op,.int .i64 r,.int .i64 a,.int .i64 N]] V fun e w'=>e=.returned (.tuple #[.int .i64 rv,.int .i64 av])/\ak (fun j=>j=Lb) V w'/\R w'):=cZ;have HRS:Hid (∀V V',ak (fun j=>j=Gc) V V'->R V->R V'):=hR;have HGL:Hid (Lb≠Gc):=gL;clear cZ hR gL;have o0:(op==0)=false:=by rcases hop with rfl|rfl|rfl<;>rfl
 have o1:(op==1)=false:=by rcases hop with rfl|rfl|rfl<;>rfl
 have o2:(op==2)=false:=by rcases hop with rfl|rfl|rfl<;>rfl
 have o3:(op==3)=false:=by rcases hop with rfl|rfl|rfl<;>rfl
 have o4:(op==4)=false:=by rcases hop with rfl|rfl|rfl<;>rfl
 have o5:(op==5)=false:=by rcases hop with rfl|rfl|rfl<;>rfl
 have o6:(op==6)=false:=by rcases hop with rfl|rfl|rfl<;>rfl
 have o7:(op==7)=false:=by rcases hop with rfl|rfl|rfl<;>rfl
 have o8:(op==8)=false:=by rcases hop with rfl|rfl|rfl<;>rfl
 have o9:(op==9)=false:=by rcases hop with rfl|rfl|rfl<;>rfl
 have o10:(op==10)=false:=by rcases hop with rfl|rfl|rfl<;>rfl
 have o11:(op==11)=false:=by rcases hop with rfl|rfl|rfl<;>rfl
 have o15:(op==15)=false:=by rcases hop with rfl|rfl|rfl<;>rfl
 have o16:(op==16)=false:=by rcases hop with rfl|rfl|rfl<;>rfl
 clear hop;go_wp2_with (go_at_call 115;refine(Ld0.out _ (by first|exact dj.out|exact dj.out.drew|exact dj.out.drew.drew|exact dj.out.drew.drew.drew)).mono ?_;rintro e V ⟨rfl,hV1,hV2⟩);have iw:Hid (Ei V Gc (nC*26) 131 (Sj (fj Q n {Q n with z:=Ji (Q n).z 45 (nx+1)}))):=Bm.out.of_heap (hV1.block Gc Vy (fun e=>HGL.out e.symm));have hVB:V.heap[B]?=W.heap[B]?:=hV1.block B XF E0;have v1:V.cell? ⟨B,1,Ai⟩=yi (.int .i64 r):=(World.cell?_of_block hVB).trans b1;have v2:V.cell? ⟨B,2,Ai⟩=yi (.int .i64 a):=(World.cell?_of_block hVB).trans b2;have er1:V.cell? ⟨Gc,n*26+r,Ai⟩=yi _:=Ei.rat iw.out (n:=n) (i:=r) E0 rfl E0;have fr1:=iw.out.frozen (n*26+r);have HV:Hid (ak (fun j=>j=Gc\/j=Lb) w V):=⟨hV1.os.trans dj.out.os,hV1.tape.trans dj.out.tape,hV1.output.trans dj.out.output,Nat.le_trans dj.out.size hV1.size,fun k hk hn=>(hV1.block k (Nat.lt_of_lt_of_le hk dj.out.size) (fun e=>hn (.inr e))).trans (dj.out.block k hk (fun e=>hn (.inl e)))⟩;have HV2:Hid (R V):=hV2;clear hV1 hV2 hVB b0 b1 b2 b3 fr er ea Bm dj Ld0;go_wp2_with fail;refine ja fun uJ=>?_;have k1':∀(V:ui)(v:ti),(V.setCell ⟨Gc,n*26+r,Ai⟩ v).cell? ⟨B,2,Ai⟩=V.cell? ⟨B,2,Ai⟩:=fun V v=>World.cell?_setCell_other _ _ _ _ (fun e=>U2);go_region_held3 (fun W=>W.cell? ⟨B,1,Ai⟩=yi (.int .i64 r)/\W.cell? ⟨B,2,Ai⟩=yi (.int .i64 a)) (go_keep) (fail);clear uJ k1';have pG:Hid (Ei (V.setCell ⟨Gc,n*26+r,Ai⟩ (.int .i64 rv)) Gc (nC*26) 131 (Sj (fj Q n {Q n with z:=Ji (Ji (Q n).z 45 (nx+1)) (25+r) rv}))):=Ei.Rz (i:=r) iw.out E0 rfl rv;have ub:(V.setCell ⟨Gc,n*26+r,Ai⟩ (.int .i64 rv)).cell? ⟨B,2,Ai⟩=yi (.int .i64 a):=(World.cell?_of_block (heap_setCell_other _ _ _ _ (by show B≠Gc;omega))).trans v2;have HV3:Hid (ak (fun j=>j=Gc\/j=Lb) w (V.setCell ⟨Gc,n*26+r,Ai⟩ (.int .i64 rv))):=⟨HV.out.os,HV.out.tape,HV.out.output,by rw[size_setCell];exact HV.out.size,fun k hk hn=>(heap_setCell_other _ _ _ _ (fun e=>hn (.inl e))).trans (HV.out.block k hk hn)⟩;have HV4:Hid (R (V.setCell ⟨Gc,n*26+r,Ai⟩ (.int .i64 rv))):=HRS.out _ _ (vj (ak.refl _ _) _ _) HV2.out;clear HV HV2 iw v1 v2 er1 fr1;generalize V.setCell ⟨Gc,n*26+r,Ai⟩ (.int .i64 rv)=V1 at *;have ea2:V1.cell? ⟨Gc,n*26+a,Ai⟩=yi _:=Ei.rat pG.out (n:=n) (i:=a) E0 rfl E0;have fa2:=pG.out.frozen (n*26+a);go_wp2_with fail;have uJ:∀(V:ui)(v:ti),(V.setCell ⟨Gc,n*26+a,Ai⟩ v).cell? ⟨B,2,Ai⟩=V.cell? ⟨B,2,Ai⟩:=fun V v=>World.cell?_setCell_other _ _ _ _ (fun e=>U2);go_region_held3 (fun W=>W.cell? ⟨B,2,Ai⟩=yi (.int .i64 a)) (go_keep) (fail);clear uJ;go_wp2_with fail;go_ret;exact⟨rfl,Ei.Rz (i:=a) pG.out E0 rfl av,⟨HV3.out.os,HV3.out.tape,HV3.out.output,M7,fun k hk hn=>(heap_setCell_other V1 ⟨Gc,n*26+a,Ai⟩ k _ (fun e=>hn (.inl e))).trans (HV3.out.block k hk hn)⟩,HRS.out _ _ (by first|exact vj (ak.refl _ _) _ _|exact(vj (ak.refl _ _) _ _).drew|exact(vj (ak.refl _ _) _ _).drew.drew|exact(vj (ak.refl _ _) _ _).drew.drew.drew) HV4.out⟩
theorem NT(s:mG Kb Gc n nC cq bo oo cb co nI cc nx r a 16 N Q w)(c Lb kc:Nat)(Ls:Nat->Ln)(hNc:N=c)(kH:c<kc)(gL:Lb≠Gc)(gK:Kb≠Lb)(h5:w.cell? ⟨Kb,5,Ai⟩=yi (.slice (yi ⟨Lb,0,Ai⟩) kc kc))(hrL:Ei w Lb (kc*5) 175 (Jm Ls)):
  Calls prog 88 #[.pointer (yi ⟨Kb,0,Ai⟩),.int .i64 n] w fun e w'=>e=.returned (.int .i64 0)/\Ei w' Gc (nC*26) 131 (Sj (fj Q n {Q n with z:=Ji (Ji (Q n).z 45 (nx+1)) (25+r) (Ls c).lost}))/\ak (fun j=>j=Gc\/j=Lb) w w'/\Ei w' Lb (kc*5) 175 (Jm (fj Ls c {Ls c with lost:=0})):=by
 refine Bl s rfl fun B W x y hB b0 b1 b2 b3 er ea fr Bm dj Vy XF Zt Ir hG hn EF tH yF i3 i4=>?_;clear s;refine Y9 ?_;subst hNc;have hLb:=hrL.lt;have HL:Hid (Ei W Lb (kc*5) 175 (Jm Ls)):=hrL.of_heap (dj.out.block Lb hrL.lt gL);have k5:W.cell? ⟨Kb,5,Ai⟩=yi (.slice (yi ⟨Lb,0,Ai⟩) kc kc):=(World.cell?_of_block (dj.out.block Kb (cell_lt h5) yF)).trans h5;have eL:W.cell? ⟨Lb,c*5+1,Ai⟩=yi (.int .i64 (Ls c).lost):=Ei.LQ HL.out (n:=c) (i:=1) E0 rfl E0;have ic:(c:Int)<(kc:Int):=E0;clear hrL h5;generalize (Ls c).lost=lo at *;go_wp2_with fail;refine ja fun uJ=>?_;refine Eg fun k1'=>?_;have k2':∀(V:ui)(v:ti),(V.setCell ⟨Gc,n*26+r,Ai⟩ v).cell? ⟨Kb,5,Ai⟩=V.cell? ⟨Kb,5,Ai⟩:=fun V v=>World.cell?_setCell_other _ _ _ _ (fun e=>U2);have k3':∀(V:ui)(v:ti),(V.setCell ⟨Gc,n*26+r,Ai⟩ v).cell? ⟨Lb,c*5+1,Ai⟩=V.cell? ⟨Lb,c*5+1,Ai⟩:=fun V v=>World.cell?_setCell_other _ _ _ _ (fun e=>U2);go_region_held3 (fun W=>W.cell? ⟨B,1,Ai⟩=yi (.int .i64 r)/\W.cell? ⟨Kb,5,Ai⟩=yi (.slice (yi ⟨Lb,0,Ai⟩) kc kc)/\W.cell? ⟨B,3,Ai⟩=yi (.int .i64 c)/\W.cell? ⟨Lb,c*5+1,Ai⟩=yi (.int .i64 lo)) (go_keep) (fail);clear uJ k1' k2' k3';have pG:Hid (Ei (W.setCell ⟨Gc,n*26+r,Ai⟩ (.int .i64 lo)) Gc (nC*26) 131 (Sj (fj Q n {Q n with z:=Ji (Ji (Q n).z 45 (nx+1)) (25+r) lo}))):=Ei.Rz (i:=r) Bm.out E0 rfl lo;have HL2:Hid (Ei (W.setCell ⟨Gc,n*26+r,Ai⟩ (.int .i64 lo)) Lb (kc*5) 175 (Jm Ls)):=HL.out.of_heap (heap_setCell_other _ _ _ _ gL);have u3:(W.setCell ⟨Gc,n*26+r,Ai⟩ (.int .i64 lo)).cell? ⟨B,3,Ai⟩=yi (.int .i64 c):=(World.cell?_of_block (heap_setCell_other _ _ _ _ (by show B≠Gc;omega))).trans b3;have u5:(W.setCell ⟨Gc,n*26+r,Ai⟩ (.int .i64 lo)).cell? ⟨Kb,5,Ai⟩=yi (.slice (yi ⟨Lb,0,Ai⟩) kc kc):=(World.cell?_of_block (heap_setCell_other _ _ _ _ yF)).trans k5;have HV3:Hid (ak (fun j=>j=Gc) w (W.setCell ⟨Gc,n*26+r,Ai⟩ (.int .i64 lo))):=vj dj.out _ _;clear Bm HL b0 b1 b2 b3 er ea fr k5 eL dj;generalize W.setCell ⟨Gc,n*26+r,Ai⟩ (.int .i64 lo)=V1 at *;have eL2:V1.cell? ⟨Lb,c*5+1,Ai⟩=yi _:=Ei.LQ HL2.out (n:=c) (i:=1) E0 rfl E0;have fL2:=HL2.out.frozen (c*5+1);go_wp2_with fail;have uJ:∀(V:ui)(v:ti),(V.setCell ⟨Lb,c*5+1,Ai⟩ v).cell? ⟨B,3,Ai⟩=V.cell? ⟨B,3,Ai⟩:=fun V v=>World.cell?_setCell_other _ _ _ _ (fun e=>U2);have k1':∀(V:ui)(v:ti),(V.setCell ⟨Lb,c*5+1,Ai⟩ v).cell? ⟨Kb,5,Ai⟩=V.cell? ⟨Kb,5,Ai⟩:=fun V v=>World.cell?_setCell_other _ _ _ _ (fun e=>U2);go_region_held3 (fun W=>W.cell? ⟨B,3,Ai⟩=yi (.int .i64 c)/\W.cell? ⟨Kb,5,Ai⟩=yi (.slice (yi ⟨Lb,0,Ai⟩) kc kc)) (go_keep) (fail);clear uJ k1';go_wp2_with fail;go_ret;exact⟨rfl,pG.out.of_heap (heap_setCell_other V1 ⟨Lb,c*5+1,Ai⟩ Gc _ (fun e=>gL e.symm)),⟨HV3.out.os,HV3.out.tape,HV3.out.output,M7,fun k hk hn=>(heap_setCell_other V1 ⟨Lb,c*5+1,Ai⟩ k _ (fun e=>hn (.inr e))).trans (HV3.out.block k hk (fun e=>hn (.inl e)))⟩,Ei.ll HL2.out rfl 0⟩
end
end Go.Proofs.YtdoghgnifkgfdaaGreat.Mute
