import Derived.Test.YtdoghgnifkgfdaaGreatP00
import Derived.Test.YtdoghgnifkgfdaaGreatP04
set_option maxRecDepth 100000
set_option maxHeartbeats 16000000
open Option renaming none->Ai,some->yi
open Go renaming World->ui,Value->ti,undef->ri
open Bool renaming true->ji,false->gi
namespace Go.Proofs.YtdoghgnifkgfdaaGreat.Mute
open Tryz Go Go.Conc
section
variable {P:Program}{main:Bool}{R:ui->ui->Prop}{D:ui->ui->Array Event->Prop}{Stop:Goroutine->ui->Prop}
variable {b:Frame}{a:Act}{k:List Item}{cs:List Frame}{w:ui}
theorem Ci.ctl(T:Terms R D){g g':Goroutine}(hs:g.status=.running)(h:∀w,stepG P main g w=.go g' w)(hg:Ci P main R D Stop g' w):Ci P main R D Stop g w:=
 .one hs fun w₁ hr=>⟨g',w₁,#[],h w₁,T.idle _,hg.rely T.trans hr⟩
theorem Ci.skip(T:Terms R D)(h:Ci P main R D Stop (G (b.at a k) cs) w):Ci P main R D Stop (G (b.at a (.code .skip::k)) cs) w:=.ctl T rfl (fun _=>stepG_skip) h
theorem Ci.inBlock(T:Terms R D){id:Nat}(h:Ci P main R D Stop (G (b.at a k) cs) w):Ci P main R D Stop (G (b.at a (.inBlock id::k)) cs) w:=.ctl T rfl (fun _=>stepG_inBlock) h
theorem Ci.seq(T:Terms R D){x y:Code}(h:Ci P main R D Stop (G (b.at a (.code x::.code y::k)) cs) w):Ci P main R D Stop (G (b.at a (.code (.seq x y)::k)) cs) w:=.ctl T rfl (fun _=>stepG_seq) h
theorem Ci.cond(T:Terms R D){c:Operand}{x y:Code}{t:Bool}(e:a.eval c=.bool t)(h:Ci P main R D Stop (G (b.at a (.code (if t then x else y)::k)) cs) w):Ci P main R D Stop (G (b.at a (.code (.cond c x y)::k)) cs) w:=.ctl T rfl (fun _=>stepG_cond e) h
theorem Ci.block(T:Terms R D){id:Nat}{c:Code}(h:Ci P main R D Stop (G (b.at a (.code c::.inBlock id::k)) cs) w):Ci P main R D Stop (G (b.at a (.code (.block id c)::k)) cs) w:=.ctl T rfl (fun _=>stepG_block) h
theorem Ci.loop(T:Terms R D){c:Code}(h:Ci P main R D Stop (G (b.at a (.code c::.inLoop c::k)) cs) w):Ci P main R D Stop (G (b.at a (.code (.loop c)::k)) cs) w:=.ctl T rfl (fun _=>stepG_loop) h
theorem Ci.inLoop(T:Terms R D){c:Code}(h:Ci P main R D Stop (G (b.at a (.code c::.inLoop c::k)) cs) w):Ci P main R D Stop (G (b.at a (.inLoop c::k)) cs) w:=.ctl T rfl (fun _=>stepG_inLoop) h
theorem Ci.exit(T:Terms R D){id:Nat}{k':List Item}(e:exitTo id k=yi k')(h:Ci P main R D Stop (G (b.at a k') cs) w):Ci P main R D Stop (G (b.at a (.code (.exit id)::k)) cs) w:=.ctl T rfl (fun _=>stepG_exit e) h
theorem Ci.region(T:Terms R D){id:Nat}{ops:Array Oper}(h:Ci P main R D Stop (G (b.at a (.inRegion ops (List.range ops.size)::k)) cs) w):Ci P main R D Stop (G (b.at a (.code (.region id ops gi)::k)) cs) w:=.ctl T rfl (fun _=>stepG_region) h
theorem Ci.regionEnd(T:Terms R D){ops:Array Oper}(h:Ci P main R D Stop (G (b.at a k) cs) w):Ci P main R D Stop (G (b.at a (.inRegion ops []::k)) cs) w:=.ctl T rfl (fun _=>stepG_region_end) h
theorem Ci.ret(T:Terms R D)(h:∀todo,Ci P main R D Stop (G {b.at a todo with mode:=.returning} cs) w):Ci P main R D Stop (G (b.at a (.code .ret::k)) cs) w:=.ctl T rfl (fun _=>stepG_ret') (h _)
theorem Ci.fin(T:Terms R D)(h:Ci P main R D Stop (G {b.at a []with mode:=.returning} cs) w):Ci P main R D Stop (G (b.at a []) cs) w:=.ctl T rfl (fun _=>stepG_end) h
theorem Ci.unwanted(T:Terms R D){ops:Array Oper}{i:Nat}{rest:List Nat}{o:Oper}(ho:ops[i]?=yi o)(hw:Region.wanted o (yielded ops a.tmps)=gi)
  (h:Ci P main R D Stop (G (b.at (a.put o.dst ri) (.inRegion ops rest::k)) cs) w):Ci P main R D Stop (G (b.at a (.inRegion ops (i::rest)::k)) cs) w:=.ctl T rfl (fun _=>stepG_unwanted ho hw) h
theorem Ci.op{ops:Array Oper}{i:Nat}{rest:List Nat}{o:Oper}(ho:ops[i]?=yi o)(hw:Region.wanted o (yielded ops a.tmps)=ji)(hk:b.kind≠.early)
  (h:∀w₁,R w w₁->∀K:Act->ui->Prop,(∀a' w',D w₁ w' (listed P b.fn a o w₁)/\Ci P main R D Stop (G (b.at a' (.inRegion ops rest::k)) cs) w'->K a' w')->uponK o a K ((execOp a.eval o).run P w₁)):
  Ci P main R D Stop (G (b.at a (.inRegion ops (i::rest)::k)) cs) w:=by
 refine .one rfl fun w₁ hr=>?_;have:=h w₁ hr _ fun _ _ x=>x;generalize hx:(execOp a.eval o).run P w₁=r at this
 match r,this with
 |.ok (.value v) w',h=>exact⟨_,_,_,stepG_value ho hw hk hx,h.1,h.2⟩
 |.ok .skip w',h=>exact⟨_,_,_,stepG_none ho hw hk hx,h.1,h.2⟩
theorem Ci.enter(T:Terms R D){ops:Array Oper}{i:Nat}{rest:List Nat}{o:Oper}{f:FuncId}{fn:Func}{c:Code}{args:Array Operand}{qG:Array TypeId}
  (ho:ops[i]?=yi o)(hw:Region.wanted o (yielded ops a.tmps)=ji)(hk:b.kind≠.early)(hop:o.op=.call {callee:=.value (.func f),args,argTypes:=qG})
  (hf : P.funcs[f]? = yi fn) (Xw : (fn.name == "runtime.NumGoroutine") = gi) (hb : fn.body = yi c)
  (h:Ci P main R D Stop (G ((base f).at {tmps:=args.map a.eval++Array.replicate (fn.ntmps-(args.map a.eval).size) ri,defers:=[]} [.code c]) (b.at a (.inRegion ops (i::rest)::k)::cs)) w):
  Ci P main R D Stop (G (b.at a (.inRegion ops (i::rest)::k)) cs) w:=
 .one rfl fun w₁ hr=>by
  have:=goes_call (P:=P) (main:=main) (b:=b) (a:=a) (k:=k) (cs:=cs) (w:=w₁) (K:=fun g' w' es=>g'=G ((base f).at {tmps:=args.map a.eval++Array.replicate (fn.ntmps-(args.map a.eval).size) ri,defers:=[]} [.code c]) (b.at a (.inRegion ops (i::rest)::k)::cs)/\w'=w₁/\es=#[]) ho hw hk hop hf Xw hb ⟨rfl,rfl,rfl⟩;revert this;cases wm:stepG P main (G (b.at a (.inRegion ops (i::rest)::k)) cs) w₁<;>simp only[GStep.goes]<;>try exact False.elim
  rintro⟨rfl,rfl,rfl⟩;exact⟨_,_,_,rfl,T.idle _,h.rely T.trans hr⟩
end
open Go.ConcN (sumTo upd sumTo_upd upd_ne upd_same)
def bj(P:Program)(Post:Goroutine->ui->Prop)(a:Goroutine)(w:ui):Prop:=
 ∀(gs:Array Goroutine)(sl:Option (Nat×Nat))(t:Trace)(q:Nat->Nat)(d:Nat),gs[0]?=yi a->Leavers P t gs q->Uo t->
  ∃N yk a' w' sl' t' q',runNT P N (crowd gs (w.at d) sl) t=(.next (crowd yk w' sl'),t')/\gs.size<=yk.size/\yk[0]?=yi a'/\Post a' w'/\Leavers P t' yk q'/\Uo t'
section
variable {P:Program}{Post Q:Goroutine->ui->Prop}{a:Goroutine}{w:ui}
theorem ux{m m' m'':Machine}{t t' t'':Trace}{N K:Nat}(h:runNT P N m t=(.next m',t'))(hk:runNT P K m' t'=(.next m'',t'')):runNT P (N+K) m t=(.next m'',t''):=by
 induction N generalizing m t with
 |zero=>
  simp only[runNT]at h;cases h;rw[Nat.zero_add];exact hk
 |succ N ih=>
  rw[show N+1+K=(N+K)+1 by omega];simp only[runNT]at h ⊢;split at h
  ·exact ih h
  ·rename_i hx _
   simp only[Prod.mk.injEq]at h;exact absurd h.1 (hx _)
theorem bj.done(h:∀d,Post a (w.at d)):bj P Post a w:=fun gs sl t q d h0 hL hP=>⟨0,gs,a,w.at d,sl,t,q,rfl,Nat.le_refl _,h0,h d,hL,hP⟩
theorem bj.at(h:bj P Post a w)(d:Nat):bj P Post a (w.at d):=fun gs sl t q d' h0 hL hP=>h gs sl t q d' h0 hL hP
theorem bj.bind(h:bj P Q a w)(hm:∀a' w',Q a' w'->bj P Post a' w'):bj P Post a w:=fun gs sl t q d h0 hL hP=>by
 obtain⟨N,yk,a',w',sl',t',q',h1,h2,h3,h4,h5,h6⟩:=h gs sl t q d h0 hL hP;obtain⟨M,eZ,a2,w2,WQ,t2,q2,k1,k2,k3⟩:=hm _ _ h4 yk sl' t' q' w'.drawn h3 h5 h6;exact⟨N+M,eZ,a2,w2,WQ,t2,q2,ux h1 k1,Nat.le_trans h2 k2,k3⟩
theorem uA{gs:Array Goroutine}{t:Trace}{q:Nat->Nat}(hL:Leavers P t gs q)(ha:gs[0]?=yi a)(hr:a.status=.running):∀g∈gs,awake g:=by
 intro g hg;obtain⟨i,hi,rfl⟩:=Array.mem_iff_getElem.1 hg;rcases Nat.eq_zero_or_pos i with rfl|lJ
 ·have:gs[0]=a:=by simpa[Array.getElem?_eq_getElem hi]using ha
  rw[this];exact awake_of (.inl hr)
 ·exact awake_of ((hL.old i _ lJ (Array.getElem?_eq_getElem hi)).status.elim .inl fun x=>.inr (.inr x))
theorem vC{gs:Array Goroutine}{t:Trace}{q:Nat->Nat}{g:Goroutine}{i:Nat}{sl:Option (Nat×Nat)}(hL:Leavers P t gs q)(hP:Uo t)(ha:gs[0]?=yi a)(hr:a.status=.running)(hi:gs[i]?=yi g)(hg:g.status=.running)(lJ:0<i):
  ∃yk ops q',runT P (crowd gs w sl) i=(.next (crowd yk w sl),ops)/\yk.size=gs.size/\yk[0]?=yi a/\Leavers P (t++ops) yk q'/\Uo (t++ops)/\sumTo yk.size q'<sumTo gs.size q:=by
 have hq:=hL.old i g lJ hi;have zy:i≠0:=E0;have Wi:i<gs.size:=(Array.getElem?_eq_some_iff.1 hi).1;have F10:(i==0)=false:=by simp;omega
 cases TT:q i with
 |zero=>rw[TT]at hq;rw[hq.1]at hg;cases hg
 |succ m=>
  rw[TT]at hq;rcases hq with⟨hf,_⟩|⟨_,g',es,hm,pT,CV⟩
  ·rw[hf]at hg;cases hg
  have Oo:=runT_crowd_go (P:=P) (sl:=sl) (i:=i) hi (by rw[F10];exact pT w);have hsz:((gs.map (woken P g g' w)).setIfInBounds i g').size=gs.size:=P0;have W50:sumTo gs.size (upd q i m)+(m+1)=sumTo gs.size q+m:=by
   have:=sumTo_upd q m id Wi;simpa[TT]using this
  refine⟨_,_,upd q i m,Oo,hsz,?_,⟨fun j x hj hx=>?_,fun j hj=>?_⟩,hP.mute zy hm,by rw[hsz];omega⟩
  ·exact Nh
  ·by_cases Yq:i=j
   ·exact ya
   ·rw[Array.getElem?_setIfInBounds_ne Yq,Array.getElem?_map]at hx;obtain⟨y,hy,rfl⟩:=Option.map_eq_some_iff.1 hx;have pF:=hL.old j y hj hy;exact ie
  ·rw[Deaf_other t (g':=i) Z2 _ ofEvents_g];exact hL.above j E2
theorem bj.picked(hr:a.status=.running) (H:∀(gs:Array Goroutine)(sl:Option (Nat×Nat))(t:Trace)(q:Nat->Nat)(d:Nat),gs[0]?=yi a->Leavers P t gs q->Uo t->
   ∃gs1 w1 sl1 ops q1 N yk a' w' sl' t' q',runT P (crowd gs (w.at d) sl) 0=(.next (crowd gs1 w1 sl1),ops)/\q1=q/\runNT P N (crowd gs1 w1 sl1) (t++ops)=(.next (crowd yk w' sl'),t')/\gs.size<=yk.size/\yk[0]?=yi a'/\Post a' w'/\Leavers P t' yk q'/\Uo t'):bj P Post a w:=by
 intro gs sl t q;generalize hM:sumTo gs.size q=M;induction M using Nat.strongRecOn generalizing gs sl t q with
 |_ M ihM=>
  intro d h0 hL hP;obtain⟨i,g,d',sl',hi,hg,wm⟩:=crowd_pick (P:=P) (w:=w.at d) (sl:=sl) (uA hL h0 hr) ⟨0,_,h0,hr⟩;by_cases zy:i=0
  ·subst zy;obtain⟨gs1,w1,sl1,ops,q1,N,yk,a',w',WQ,t',q',e1,_,e2,e3⟩:=H gs sl' t q d' h0 hL hP;exact⟨N+1,yk,a',w',WQ,t',q',by simp only[runNT,wm];rw[show ((w.at d).at d')=w.at d' from rfl,e1];exact e2,e3⟩
  ·obtain⟨yk,ops,q',e1,e2,e3,e4,e5,e6⟩:=vC (w:=(w.at d).at d') (sl:=sl') hL hP h0 hr hi hg E0;obtain⟨N,eZ,a2,w2,WQ,t2,q2,k1,k2,k3⟩:=ihM _ E0 yk sl' (t++ops) q' rfl d' e3 e4 e5;exact⟨N+1,eZ,a2,w2,WQ,t2,q2,by simp only[runNT,wm,e1];exact k1,E0,k3⟩
theorem bj.step(hr:a.status=.running)(h:∀d,∃a' w' es,stepG P ji a (w.at d)=.go a' w' es/\(∀e∈es,ko e)/\bj P Post a' w'):bj P Post a w:=by
 refine .picked hr fun gs sl t q d h0 hL hP=>?_;obtain⟨a',w',es,hgo,zn,hR⟩:=h d;have Wi:0<gs.size:=(Array.getElem?_eq_some_iff.1 h0).1;have Oo:=runT_crowd_go (P:=P) (sl:=sl) (i:=0) h0 (show stepG P (0==0) a (w.at d)=_ from hgo);obtain⟨N,eZ,a2,w2,WQ,t2,q2,k1,k2,k3⟩:=hR ((gs.map (woken P a a' w')).setIfInBounds 0 a') sl (t++MemOp.ofEvents 0 a.frame.fn a.frame.place es) q w'.drawn (by simp[Wi])
  ⟨fun j x hj hx=>by
   rw[Array.getElem?_setIfInBounds_ne E0,Array.getElem?_map]at hx;obtain⟨y,hy,rfl⟩:=Option.map_eq_some_iff.1 hx;have pF:=hL.old j y hj hy;rw[woken_quitsD pF,Deaf_other t E0 _ ofEvents_g];exact pF,fun j hj=>by
   rw[Deaf_other t (g':=0) Z2 _ ofEvents_g];exact hL.above j E2⟩ (hP.own zn)
 exact⟨_,_,_,_,q,N,eZ,a2,w2,WQ,t2,q2,Oo,rfl,k1,by simpa using k2,k3⟩
theorem bj.JV{f:FuncId}{args:Array ti}{R:Ending->ui->Prop}(cs:List Frame)(h:K10 P f args w R)
  (hp:∀fr e w' d',fr.fn=f->(∀τ d,fr.leaving P (Rj w' τ d) e)->R e w'->bj P Post (G fr cs) (Rj w' w.tape d')):bj P Post (G (Frame.enter P f args .normal) cs) w:=by
 intro gs sl t q d h0 hL hP;obtain⟨N,yk,Gq,w',d',sl',t',q',e,h1,h2,h3,h4,h5,h6,h7,h8⟩:=h gs sl t q cs w.tape d h0 hL hP;obtain⟨M,eZ,a2,w2,WQ,t2,q2,k1,k2,k3⟩:=hp Gq e w' d' h4 h5 h6 yk sl' t' q' d' h3 h7 h8;exact⟨N+M,eZ,a2,w2,WQ,t2,q2,ux (show runNT P N (crowd gs (w.at d) sl) t=_ from h1) k1,Nat.le_trans h2 k2,k3⟩
end
section
variable {P:Program}{c:Nat}{z:ti}{R0 R1:ui->ui->Prop}{D0 D1:ui->ui->Array Event->Prop}{SL ML:ui->Touch->Prop}{FS:ui->Prop}{Fin Post:Goroutine->ui->Prop}
theorem bj.fork(U:Np c R0 R1 D0 D1 SL ML FS){vs:List ti}{a:Goroutine}{w:ui}(hr:a.status=.running)
  (h:∀d,∃a' b w' es,stepG P ji a (w.at d)=.spawn a' b w' es/\(∀e∈es,ko e)/\(∃s r tm,w'.heap[c]?=yi (.chan 0 #[] gi s r tm))/\Ci P ji R0 D0 (StopA P c z R0 D0 ML Fin vs) a' w'/\Ci P gi R1 D1 (StopB P c R1 D1 SL FS vs) b w')
  (hp:∀a' w',Fin a' w'->FS w'->bj P Post a' w'):bj P Post a w:=by
 refine bj.bind (Q:=fun a' w'=>Fin a' w'/\FS w') (.picked hr fun gs sl t q d h0 hL hP=>?_) fun a' w' ⟨x,y⟩=>hp a' w' x y;obtain⟨a',b,w',es,hsp,zn,hc,hA,hB⟩:=h d;have Wi:0<gs.size:=(Array.getElem?_eq_some_iff.1 h0).1;have Oo:=runT_crowd_spawn (P:=P) (sl:=sl) (i:=0) h0 (show stepG P (0==0) a (w.at d)=_ from hsp);have Vw:gs.size≠0:=E0;have e2:∀x y,(((MemOp.ofEvents 0 a.frame.fn a.frame.place es).push x).push y:Trace)=MemOp.ofEvents 0 a.frame.fn a.frame.place es++#[x,y]:=fun x y=>Array.ext' P0;rw[e2]at Oo;have hq:∀(j:Nat)(op:MemOp),op∈(#[{g:=0,fn:=a.frame.fn,pos:=a.frame.place,act:=.go gs.size},{g:=gs.size,fn:=b.frame.fn,pos:=a.frame.place,act:=.start}]:Trace)->∀d,deafStep j d op=d:=fun j op hop=>by
  simp only[List.mem_toArray,List.mem_cons,List.not_mem_nil,or_false]at hop;rcases hop with rfl|rfl<;>exact fun _=>rfl
 have hd:∀j,j≠0->Deaf (t++(MemOp.ofEvents 0 a.frame.fn a.frame.place es++#[{g:=0,fn:=a.frame.fn,pos:=a.frame.place,act:=.go gs.size},{g:=gs.size,fn:=b.frame.fn,pos:=a.frame.place,act:=.start}])) j=Deaf t j:=fun j hj=>Yy ofEvents_g (Ne.symm hj) (hq j);have hC:Ctx P c gs.size SL ML ((gs.setIfInBounds 0 a').push b) w' (t++(MemOp.ofEvents 0 a.frame.fn a.frame.place es++#[{g:=0,fn:=a.frame.fn,pos:=a.frame.place,act:=.go gs.size},{g:=gs.size,fn:=b.frame.fn,pos:=a.frame.place,act:=.start}])) q:=by
  refine⟨Vw,hc,fun i g zy yr hi=>?_,fun j hj=>?_,?_⟩
  ·have uI:gs[i]?=yi g:=by
    rw[Array.getElem?_push]at hi;simp only[Array.size_setIfInBounds,yr,if_false]at hi;rw[Array.getElem?_setIfInBounds_ne (Ne.symm zy)]at hi;exact hi
   rw[hd i zy];exact hL.old i g E0 uI
  ·have Vs:gs.size+1<=j:=by simpa using hj
   rw[hd j E0];exact hL.above j E0
  ·rw[<-Array.append_assoc];exact Ar.fork (hP.own zn) (by rw[Deaf_other t (Ne.symm Vw) _ ofEvents_g];exact hL.above _ (Nat.le_refl _)) _ _ _
 obtain⟨N,eZ,a2,w2,WQ,t2,q2,k1,k2,k3,k4,k5,k6,k7⟩:=phase U vs a' b w' _ sl _ q hA hB (by rw[Array.getElem?_push,if_neg A1,Array.getElem?_setIfInBounds_self_of_lt Wi]) (by rw[Array.getElem?_push,if_pos P0]) hC;exact⟨_,_,_,_,q,N,eZ,a2,w2,WQ,t2,q2,Oo,rfl,k1,by rw[k2];simp,k3,⟨k4,k5⟩,k6,k7⟩
end
def Sm:Code->Bool
 |.region _ ops _=>ops.all fun o=>!qw o
 |.seq a b|.cond _ a b=>Sm a&&Sm b
 |.block _ c|.loop c|.scope c=>Sm c
 |_=>ji
def tp:Item->Prop
 |.code c|.inLoop c|.inScope c=>Sm c=ji
 |.inRegion ops _=>(ops.all fun o=>!qw o)=ji
 |_=>True
def Rq(s:List Item)(fr:Frame):Frame:={fr with todo:=fr.todo++s}
section
variable {P:Program}{A:Ou}{fr:Frame}{w:ui}
def y40(P:Program)(fr:Frame)(s:List Item)(x y:List Frame->GStep):Prop:=
 (∃Gq w' es,((∀it∈fr.todo,tp it)->∀it∈Gq.todo,tp it)/\Gq.defers=fr.defers/\Gq.kind=fr.kind/\∀cs,x cs=.go (G Gq cs) w' es/\y cs=.go (G (Rq s Gq) cs) w' es)\/
 (∃f args w' es ops i rest k,fr.todo=.inRegion ops (i::rest)::k/\∀cs,x cs=.go (G (Frame.enter P f args .normal) (fr::cs)) w' es/\y cs=.go (G (Frame.enter P f args .normal) (Rq s fr::cs)) w' es)\/
 (∀cs,∃o w' es,x cs=.ended o w' es)
theorem XW{sm:Sem Next}{ops:Array Oper}{i:Nat}{rest:List Nat}{k:List Item}{o:Oper}(h:bp P A fr)(dF:fr.kind=.normal)(ht:fr.todo=.inRegion ops (i::rest)::k)(hnd:qw o=gi)(hs:Ok P (Gz P A fr.fn o) sm)(Po:∀g,P.stepOf g=Ai)(s:List Item)(w:ui):
  y40 P fr s (fun cs=>stepG.apply P ji fr cs Ai sm w) (fun cs=>stepG.apply P ji (Rq s fr) cs Ai sm w):=by
 obtain⟨s1,_⟩:=Vq P sm w #[] hs P0;have SE:(fr.kind==.early)=false:=by rw[dF];rfl
 have JQ:((Rq s fr).kind==.early)=false:=SE;have rG:(Rq s fr).todo=.inRegion ops (i::rest)::(k++s):=by show fr.todo++s=_;rw[ht];rfl
 have QA:(Rq s fr).fn=fr.fn:=rfl;have IU:fr.roundOf=none:=h.round;have MS:(Rq s fr).roundOf=none:=h.round;have Us:∀v,(Rq s fr).finish v=Rq s (fr.finish v):=fun v=>by
  unfold Frame.finish;rw[rG,ht];simp[Rq]
 have ru:∀v,(∀it∈fr.todo,tp it)->∀it∈(fr.finish v).todo,tp it:=fun v hc it hit=>by
  unfold Frame.finish at hit;rw[ht]at hc hit;simp only[List.mem_cons]at hit;rcases hit with rfl|hit
  ·exact hc (.inRegion ops (i::rest)) List.mem_cons_self
  ·exact hc it (List.mem_cons_of_mem _ hit)
 have U80:∀v,(fr.finish v).defers=fr.defers:=fun v=>by unfold Frame.finish;split<;>rfl
 have hra:∀c,(Rq s fr).raise c=Rq s (fr.raise c):=fun c=>by
  unfold Frame.raise Rq;cases fr.mode<;>rfl
 have hrt:∀c,(fr.raise c).todo=fr.todo/\(fr.raise c).defers=fr.defers:=fun c=>by
  unfold Frame.raise;cases fr.mode<;>exact⟨rfl,rfl⟩
 have A30:∀cs,tryRecover fr cs=none:=fun cs=>by unfold tryRecover;simp[dF]
 have Gc0:∀cs,tryRecover (Rq s fr) cs=none:=fun cs=>by
  have:(Rq s fr).kind=.normal:=dF;unfold tryRecover;simp[this]
 cases hr:sm.runT P w #[]with
 |mk r es=>
  rw[hr]at s1;cases r with
  |ok a w'=>
   cases a with
   |value v=>
    refine .inl ⟨fr.finish v,w',seen P fr.fn es,ru v,U80 v,om fr v,fun cs=>⟨?_,?_⟩⟩
    ·refine jf ?_;simp[G]
    ·simp only[stepG.apply,if_true,hr,JQ,GStep.after,Us,QA];simp[G]
   |skip=>
    refine .inl ⟨fr.finish ri,w',seen P fr.fn es,ru ri,U80 ri,om fr _,fun cs=>⟨?_,?_⟩⟩
    ·refine jf ?_;simp[G]
    ·simp only[stepG.apply,if_true,hr,JQ,GStep.after,Us,QA];simp[G]
   |enter f args=>
    refine .inr (.inl ⟨f,args,w',seen P fr.fn es,ops,i,rest,k,ht,fun cs=>⟨?_,?_⟩⟩)
    ·simp only[stepG.apply,if_true,hr,SE,GStep.after,ht];simp[G]
    ·simp only[stepG.apply,if_true,hr,JQ,GStep.after,rG,QA];simp[G]
   |defer df=>
    rw[s1.2]at hnd;cases hnd
   |recover=>
    refine .inl ⟨fr.finish .nilIface,w',seen P fr.fn es,ru _,U80 _,om fr _,fun cs=>⟨?_,?_⟩⟩
    ·simp only[stepG.apply,if_true,hr,SE,GStep.after,IU,A30];simp[G]
    ·simp only[stepG.apply,if_true,hr,JQ,GStep.after,MS,Gc0,Us,QA];simp[G]
   |_=>exact s1.elim
  |halt hh w'=>
   cases hh with
   |panic v=>
    refine .inl ⟨fr.raise [{v,recovered:=gi}],w',seen P fr.fn es,fun hc=>by rw[(hrt _).1];exact hc,(hrt _).2,Pv fr _,fun cs=>⟨?_,?_⟩⟩
    ·refine jf ?_;simp[G]
    ·simp only[stepG.apply,if_true,hr,JQ,GStep.after,hra,QA];simp[G]
   |stuck m=>
    refine .inr (.inr fun cs=>?_);refine jf ?_;exact⟨_,_,_,rfl⟩
   |unsupported u=>
    cases u with
    |initOrder g=>
     cases hfo:P.follows .staticDataAhead with
     |true=>
      refine .inr (.inr fun cs=>?_);simp only[stepG.apply,if_true,hr,SE,GStep.after,early,hfo,Po];exact⟨_,_,_,rfl⟩
     |false=>
      cases hg:w'.heap[g]? with
      |none=>
       refine .inr (.inr fun cs=>?_);refine Yh ?_;exact⟨_,_,_,rfl⟩
      |some ob=>
       cases ob with
       |pending c e=>
        refine .inl ⟨fr,{w' with heap:=w'.heap.setIfInBounds g (.cells c e)},seen P fr.fn #[],id,rfl,rfl,fun cs=>⟨?_,?_⟩⟩
        ·refine Yh ?_;simp[G]
        ·simp only[stepG.apply,if_true,hr,JQ,GStep.after,early,hfo,hg,QA];simp[G]
       |_=>
        refine .inr (.inr fun cs=>?_);refine Yh ?_;exact⟨_,_,_,rfl⟩
    |_=>
     refine .inr (.inr fun cs=>?_);refine jf ?_;exact⟨_,_,_,rfl⟩
   |_=>exact s1.elim
theorem dB{id:Nat}(s:List Item):∀{k l:List Item},exitTo id k=yi l->exitTo id (k++s)=yi (l++s)
 | [],_,e=>by simp[exitTo]at e
 |x::k,l,e=>by
  cases x with
  |inBlock id'=>
   rw[List.cons_append];unfold exitTo at e ⊢;split at e
   ·rename_i hh
    cases e;rw[if_pos hh]
   ·rename_i hh
    rw[if_neg hh];exact dB s e
  |_=>rw[List.cons_append];exact dB s (by simpa[exitTo]using e) |> fun z=>by simpa[exitTo]using z
theorem lz{id:Nat}:∀{k l:List Item},exitTo id k=yi l->(∀it∈k,tp it)->∀it∈l,tp it
 | [],_,e,_=>by simp[exitTo]at e
 |x::k,l,e,hk=>by
  have sF:∀it∈k,tp it:=fun it hit=>hk it (List.mem_cons_of_mem _ hit);cases x with
  |inBlock id'=>
   unfold exitTo at e;split at e
   ·cases e;exact sF
   ·exact lz e sF
  |_=>exact lz (by simpa[exitTo]using e) sF
theorem Ep{s l:List Item}{x y:List Frame->GStep}(hc:(∀it∈fr.todo,tp it)->∀it∈l,tp it)(hx:∀cs,x cs=.go (G {fr with todo:=l} cs) w #[])(hy:∀cs,y cs=.go (G {fr with todo:=l++s} cs) w #[]):y40 P fr s x y:=
 .inl ⟨{fr with todo:=l},w,#[],hc,rfl,rfl,fun cs=>⟨hx cs,hy cs⟩⟩
theorem k10(H:Dk P A)(Po:∀g,P.stepOf g=Ai)(h:bp P A fr)(dF:fr.kind=.normal)(hm:fr.mode=.run)(Jj:fr.todo≠[])(ru:∀it∈fr.todo,tp it)(main:Bool)(s:List Item)(w:ui):
  y40 P fr s (fun cs=>stepG P main (G fr cs) w) (fun cs=>stepG P main (G (Rq s fr) cs) w):=by
 have heq:∀cs,stepG P main (G fr cs) w=stepG.exec P main ji fr cs Ai w:=fun cs=>Qz hm _ _ _;have zn:∀cs,stepG P main (G (Rq s fr) cs) w=stepG.exec P main ji (Rq s fr) cs Ai w:=fun cs=>Qz (fr:=Rq s fr) hm _ _ _;have IU:fr.roundOf=none:=h.round;have MS:(Rq s fr).roundOf=none:=h.round;have hto:=h.todo;cases ht:fr.todo with
 |nil=>exact absurd ht Jj
 |cons it k=>
  have rG:(Rq s fr).todo=it::(k++s):=by show fr.todo++s=_;rw[ht];rfl
  rw[ht]at hto ru;have hit:=hto it List.mem_cons_self;have cit:=ru it List.mem_cons_self;have ck:∀x∈k,tp x:=fun x hx=>ru x (List.mem_cons_of_mem _ hx);have one:∀{a:Item},tp a->∀x∈a::k,tp x:=fun ha x hx=>by
   rcases List.mem_cons.1 hx with rfl|hx
   ·exact ha
   ·exact ck x hx
  have two:∀{a b:Item},tp a->tp b->∀x∈a::b::k,tp x:=fun ha hb x hx=>by
   rcases List.mem_cons.1 hx with rfl|hx
   ·exact ha
   ·rcases List.mem_cons.1 hx with rfl|hx
    ·exact hb
    ·exact ck x hx
  cases it with
  |inBlock id=>exact Ep (w:=w) (fun _=>ck) (fun cs=>M3) (fun cs=>U3)
  |inScope c=>exact Ep (w:=w) (fun _=>ck) (fun cs=>M3) (fun cs=>U3)
  |inLoop c=>exact Ep (w:=w) (fun _=>two (a:=.code c) (b:=.inLoop c) cit cit) (fun cs=>M3) (fun cs=>U3)
  |inRegion ops l=>
   cases l with
   |nil=>exact Ep (w:=w) (fun _=>ck) (fun cs=>M3) (fun cs=>U3)
   |cons i rest=>
    cases dx:((ops[i]?).map (Region.wanted · (yielded ops fr.tmps))).getD gi with
    |true=>
     obtain⟨o,ho⟩:∃o,ops[i]?=yi o:=by
      cases hx:ops[i]? with
      |none=>rw[hx]at dx;cases dx
      |some o=>exact⟨o,rfl⟩
     have hpl:gj P A fr.fn o=true:=by
      have:ops.all (gj P A fr.fn)=true:=hit;exact Rh
     have hnd:qw o=false:=by
      have:(ops.all fun o=>!qw o)=true:=cit;rw[Array.all_eq_true_iff_forall_mem]at this;simpa using this o (Array.mem_of_getElem? ho)
     have M_:(Option.map (fun x=>Region.wanted x (yielded ops fr.tmps)) (yi o)).getD gi=true:=by rw[ho]at dx;exact dx
     have e1:∀cs,stepG P main (G fr cs) w=stepG.apply P ji fr cs Ai (execOp fr.eval o) w:=fun cs=>by
      rw[heq];simp only[stepG.exec,ht,stepG.oper,Frame.oper?,ho,IU];rw[if_pos M_]
     have e2:∀cs,stepG P main (G (Rq s fr) cs) w=stepG.apply P ji (Rq s fr) cs Ai (execOp fr.eval o) w:=fun cs=>by
      rw[zn];simp only[stepG.exec,rG,stepG.oper,Frame.oper?,ho,MS];exact if_pos M_
     have:=XW h dF ht hnd (ZD (ρ:=fr.eval) H h.slots (fun _=>rfl) hpl) Po s w;rw[show (fun cs=>stepG P main (G fr cs) w)=fun cs=>stepG.apply P ji fr cs Ai (execOp fr.eval o) w from funext e1,show (fun cs=>stepG P main (G (Rq s fr) cs) w)=fun cs=>stepG.apply P ji (Rq s fr) cs Ai (execOp fr.eval o) w from funext e2];exact this
    |false=>
     have jR:((ops[i]?).map (Region.wanted · (yielded ops (Rq s fr).tmps))).getD gi=false:=dx;have qL:∀it∈(fr.finish ri).todo,tp it:=fun x hx=>by
      unfold Frame.finish at hx;rw[ht]at hx;exact one (a:=.inRegion ops rest) cit x hx
     have Us:(Rq s fr).finish ri=Rq s (fr.finish ri):=by
      unfold Frame.finish;rw[rG,ht];simp[Rq]
     refine .inl ⟨fr.finish ri,w,#[],fun _=>qL,by unfold Frame.finish;split<;>rfl,om _ _,fun cs=>⟨?_,?_⟩⟩
     ·refine(heq cs).trans ?_;simp only[stepG.exec,ht,dx];simp[G]
     ·refine(zn cs).trans ?_;simp only[stepG.exec,rG,jR,Us];simp[G]
  |code c=>
   cases c with
   |skip=>exact Ep (w:=w) (fun _=>ck) (fun cs=>M3) (fun cs=>U3)
   |label l=>exact Ep (w:=w) (fun _=>ck) (fun cs=>M3) (fun cs=>U3)
   |seq a b=>
    have hp:Sm a=ji/\Sm b=true:=by
     have:Sm (.seq a b)=true:=cit;simpa[Sm]using this
    exact Ep (w:=w) (fun _=>two (a:=.code a) (b:=.code b) hp.1 hp.2) (fun cs=>M3) (fun cs=>U3)
   |cond x a b=>
    have hp:Sm a=ji/\Sm b=true:=by
     have:Sm (.cond x a b)=true:=cit;simpa[Sm]using this
    cases hx:fr.eval x with
    |bool bb=>
     have hxs:(Rq s fr).eval x=.bool bb:=hx;cases bb with
     |true=>exact Ep (w:=w) (fun _=>one (a:=.code a) hp.1) (fun cs=>O6) (fun cs=>J7)
     |false=>exact Ep (w:=w) (fun _=>one (a:=.code b) hp.2) (fun cs=>O6) (fun cs=>J7)
    |_=>exact .inr (.inr fun cs=>by show ∃o w' es,stepG P main (G fr cs) w=_;rw[heq];simp only[stepG.exec,ht,hx];exact⟨_,_,_,rfl⟩)
   |block id c=>
    have hp:Sm c=true:=cit;exact Ep (w:=w) (fun _=>two (a:=.code c) (b:=.inBlock id) hp trivial) (fun cs=>M3) (fun cs=>U3)
   |loop c=>
    have hp:Sm c=true:=cit;exact Ep (w:=w) (fun _=>two (a:=.code c) (b:=.inLoop c) hp hp) (fun cs=>M3) (fun cs=>U3)
   |scope c=>
    have hp:Sm c=true:=cit;exact Ep (w:=w) (fun _=>two (a:=.code c) (b:=.inScope c) hp hp) (fun cs=>M3) (fun cs=>U3)
   |ret=>
    refine .inl ⟨{fr with mode:=.returning},w,#[],fun hc=>hc,rfl,rfl,fun cs=>⟨?_,?_⟩⟩
    ·refine(heq cs).trans ?_;simp only[stepG.exec,ht,IU];simp[G]
    ·refine(zn cs).trans ?_;simp only[stepG.exec,rG,MS];simp[G,Rq,ht,IU]
   |exit id=>
    cases hx:exitTo id k with
    |some l=>exact Ep (w:=w) (fun _=>lz hx ck) (fun cs=>O6) (fun cs=>by rw[zn];simp only[stepG.exec,rG,dB s hx];simp[G,Rq])
    |none=>exact .inr (.inr fun cs=>by show ∃o w' es,stepG P main (G fr cs) w=_;rw[heq];simp only[stepG.exec,ht,hx,IU];exact⟨_,_,_,rfl⟩)
   |region id ops draw=>
    have hp:(ops.all fun o=>!qw o)=true:=cit;cases draw with
    |false=>exact Ep (w:=w) (fun _=>one (a:=.inRegion ops (List.range ops.size)) hp) (fun cs=>M3) (fun cs=>U3)
    |true=>
     obtain⟨n,t,w',_,_,q3⟩:=OE P (.order fr.fn id) w;have q4:=q3 w.tape w.drawn (fun _ _=>rfl);refine .inl ⟨{fr with todo:=.inRegion ops (Region.schedule (P.follows .mixedOrders) ops t)::k},Rj w' w.tape (w.drawn+n),#[],fun _=>one (a:=.inRegion ops _) hp,rfl,rfl,fun cs=>⟨?_,?_⟩⟩
     ·refine(heq cs).trans ?_;simp only[stepG.exec,ht,show (choose (.order fr.fn id)).run P w=_ from q4];simp[G]
     ·refine(zn cs).trans ?_;simp only[stepG.exec,rG,show (choose (.order (Rq s fr).fn id)).run P w=_ from q4];simp[G,Rq]
   |_=>
    exfalso;simp[Qq,Tj]at hit
  |_=>exact(hit:False).elim
end
section
variable {P:Program}{A:Ou}{fr:Frame}{w:ui}{Q Q':Frame->ui->Prop}
structure Bot(P:Program)(A:Ou)(fr:Frame):Prop where
 ok:bp P A fr
 kind:fr.kind=.normal
 mode:fr.mode=.run
 defers:fr.defers=[]
 calm:∀it∈fr.todo,tp it
theorem Sr{f f':Frame}{l l':List Frame}{w w':ui}{es es':Array Event}(h:GStep.go (G f l) w es=GStep.go (G f' l') w' es'):f=f'/\l=l'/\w=w'/\es=es':=by
 simp only[GStep.go.injEq,G,Goroutine.mk.injEq]at h;exact⟨h.1.1,h.1.2.1,h.2.1,h.2.2⟩
theorem not_safe(hQ:∀fr w,Q fr w->fr.mode=.run)(h:Safe P Q fr [] w)(ho:bp P A fr)(hk:fr.kind=.normal)(hm:fr.mode≠.run)(hd:fr.defers=[]):False:=by
 cases h with
 |stop hq=>exact hm (hQ _ _ hq)
 |step nx ev n h1 h2 h3=>
  have e:=h2 (fun _ _=>0) 0 ji [Ol];rw[show ([]:List Frame)++[Ol]=[Ol]from rfl,Zl hm]at e;obtain⟨fn,hf⟩:=ho.fn;cases Qw:fr.mode with
  |run=>exact hm Qw
  |panicking chain=>
   unfold unwind at e;simp only[hd,Qw,Ut ho]at e;have:=(Sr (show GStep.go (G (Ol.raise chain) []) _ #[]=_ from e)).2.1;simp at this
  |returning=>
   unfold unwind at e;simp only[hd,Qw,hf]at e;cases hr:(results fn fr.tmps).runT P (Rj w (fun _ _=>0) 0) #[]with
   |mk r es=>
    rw[hr]at e;cases r with
    |ok v w'=>
     simp only[doReturn,hk,GStep.after]at e;have:=(Sr (show GStep.go (G (Ol.finish v) []) w' _=_ from e)).2.1;simp at this
    |halt hh w'=>
     simp only[GStep.after]at e;cases hh<;>simp at e
def At(P:Program)(A:Ou)(s:List Item)(fr:Frame)(top:List Frame)(VG:Frame)(SA:List Frame):Prop:=
 (top=[]/\Bot P A fr/\Rq s fr=VG/\[]=SA)\/
 (∃t1 bot,top=t1++[bot]/\bp P A fr/\Vo P A fr.kind t1/\Bot P A bot/\(∃ops i rest k,bot.todo=.inRegion ops (i::rest)::k)/\(∀v,bp P A (bot.finish v))/\fr=VG/\t1++[Rq s bot]=SA)
theorem Zw(w:ui)(τ:Nat->Question->Nat)(d n:Nat):Agree (Rj w τ d) τ d n:=fun _ _=>rfl
theorem uU{bot:Frame}{ops:Array Oper}{i:Nat}{rest:List Nat}{k:List Item}(hb:Bot P A bot)(ht:bot.todo=.inRegion ops (i::rest)::k)(v:ti)(ho:bp P A (bot.finish v)):Bot P A (bot.finish v):=by
 refine⟨ho,(om bot v).trans hb.kind,?_,?_,fun it hit=>?_⟩
 ·have:(bot.finish v).mode=bot.mode:=by unfold Frame.finish;split<;>rfl
  exact this.trans hb.mode
 ·have:(bot.finish v).defers=bot.defers:=by unfold Frame.finish;split<;>rfl
  exact this.trans hb.defers
 ·have hc:=hb.calm;unfold Frame.finish at hit;rw[ht]at hc hit;simp only[List.mem_cons]at hit;rcases hit with rfl|hit
  ·exact hc (.inRegion ops (i::rest)) List.mem_cons_self
  ·exact hc it (List.mem_cons_of_mem _ hit)
theorem US{bot:Frame}{ops:Array Oper}{i:Nat}{rest:List Nat}{k:List Item}(s:List Item)(ht:bot.todo=.inRegion ops (i::rest)::k)(v:ti):(Rq s bot).finish v=Rq s (bot.finish v):=by
 have rG:(Rq s bot).todo=.inRegion ops (i::rest)::(k++s):=by show bot.todo++s=_;rw[ht];rfl
 unfold Frame.finish;rw[rG,ht];simp[Rq]
theorem A00(H:Dk P A)(Po:∀g,P.stepOf g=Ai)(s:List Item)(hQ:∀fr w,Q fr w->fr.mode=.run/\fr.todo=[])(hQ':∀fr w,Q fr w->Q' (Rq s fr) w){top:List Frame}(h:Safe P Q fr top w):
  ∀VG SA,At P A s fr top VG SA->Safe P Q' VG SA w:=by
 induction h with
 | @stop fr w hq=>
  rintro VG SA (⟨_,_,rfl,rfl⟩|⟨t1,bot,e,_⟩)
  ·exact .stop (hQ' _ _ hq)
  ·simp at e
 | @step fr top w nx ev n h1 h2 h3 ih=>
  rintro VG SA (⟨rfl,hb,rfl,rfl⟩|⟨t1,bot,rfl,hf,wm,hb,⟨ops,i,rest,k,ht⟩,Us,rfl,rfl⟩)
  ·
   refine Safe.step' fun τ d=>?_;have hn:∀Gq,nx τ d=⟨Gq,[],(nx τ d).w⟩->bp P A Gq->Gq.kind=.normal->Gq.mode≠.run->Gq.defers=[]->False:=fun Gq e ho hk hm hd=>by
    have mU:=h3 τ d;rw[e]at mU;exact not_safe (fun fr w hq=>(hQ fr w hq).1) mU ho hk hm hd
   by_cases Jj:fr.todo=[]
   ·exfalso;have e:=h2 τ d ji [];rw[show ([]:List Frame)++[]=[]from rfl,Qz hb.mode]at e;simp only[stepG.exec,Jj,hb.ok.round]at e;obtain⟨e1,e2,_,_⟩:=Sr (show GStep.go (G {fr with mode:=.returning} []) _ #[]=_ from by simpa[G,Jj,hb.ok.round]using e);refine hn {fr with mode:=.returning} ?_ (hb.ok.mode _) hb.kind P0 hb.defers;have e3:(nx τ d).top=[]:=by simpa using e2.symm
    rw[<-e3,e1]
   ·have hw:∀main,y40 P fr s (fun cs=>stepG P main (G fr cs) (Rj w τ d)) (fun cs=>stepG P main (G (Rq s fr) cs) (Rj w τ d)):=fun main=>k10 H Po hb.ok hb.kind hb.mode Jj hb.calm main s _;obtain⟨n',oJ⟩:=iE H Po hb.ok (top:=[]) (show Vo P A fr.kind []from hb.kind) (.inl hb.mode) (Rj w τ d);rcases oJ with⟨fr1,W00,w1,es1,oI,jV,_,_,_,t10⟩|xP
    rotate_left
    ·obtain⟨o,w',es,he⟩:=xP τ d (Zw w τ d n') ji [];have:=h2 τ d ji [];rw[show Rj (Rj w τ d) τ d=Rj w τ d from rfl]at he;rw[he]at this;cases this
    have e1:=t10 τ d (Zw w τ d n') ji [];rw[show Rj (Rj w τ d) τ d=Rj w τ d from rfl,h2 τ d ji []]at e1;obtain⟨f1,f2,_,_⟩:=Sr e1;have f2':W00=(nx τ d).top:=by simpa using f2.symm
    subst f1 f2';rcases hw ji with⟨Gq,w',es,hc,hdf,YT,EX⟩|⟨f,args,w',es,ops,i,rest,k,ht,EX⟩|hx
    ·
     obtain⟨g1,g2,g3,g4⟩:=Sr ((h2 τ d ji []).symm.trans (EX []).1);have zL:(nx τ d).top=[]:=J5;subst g1;have zu:(nx τ d).fr.mode=.run:=by
      apply Classical.byContradiction;intro hm;exact hn (nx τ d).fr (by rw[<-zL]) oI (YT.trans hb.kind) hm (hdf.trans hb.defers)
     refine⟨Rq s (nx τ d).fr,[],(nx τ d).w,ev τ d,n τ d,h1 τ d,fun main cs=>?_,ih τ d _ _ (.inl ⟨zL,⟨oI,YT.trans hb.kind,zu,hdf.trans hb.defers,hc hb.calm⟩,rfl,rfl⟩)⟩;rcases hw main with⟨Gq,w',es,_,_,_,EX⟩|⟨f,args,w',es,_,_,_,_,_,EX⟩|hx
     ·obtain⟨g1,g2,g3,g4⟩:=Sr ((h2 τ d main cs).symm.trans (EX cs).1);have:=(EX cs).2;rw[<-g1,<-g3,<-g4]at this;exact nh
     ·obtain⟨g1,g2,g3,g4⟩:=Sr ((h2 τ d main cs).symm.trans (EX cs).1);rw[zL]at g2;have:=congrArg List.length g2;simp at this
     ·obtain⟨o,w',es,he⟩:=hx cs;have:=(h2 τ d main cs).symm.trans he;cases this
    ·
     obtain⟨g1,g2,g3,g4⟩:=Sr ((h2 τ d ji []).symm.trans (EX []).1);have zL:(nx τ d).top=[fr]:=J5;rw[zL]at jV;refine⟨(nx τ d).fr,[Rq s fr],(nx τ d).w,ev τ d,n τ d,h1 τ d,fun main cs=>?_,ih τ d _ _ (.inr ⟨[],fr,by rw[zL];rfl,oI,by rw[g1];rfl,hb,⟨ops,i,rest,k,ht⟩,jV.2.1 (by rw[g1];rfl),rfl,rfl⟩)⟩;rcases hw main with⟨Gq,w',es,_,_,_,EX⟩|⟨f,args,w',es,_,_,_,_,_,EX⟩|hx
     ·obtain⟨g1,g2,g3,g4⟩:=Sr ((h2 τ d main cs).symm.trans (EX cs).1);rw[zL]at g2;have:=congrArg List.length g2;simp at this
     ·obtain⟨g1,g2,g3,g4⟩:=Sr ((h2 τ d main cs).symm.trans (EX cs).1);have:=(EX cs).2;rw[<-g1,<-g3,<-g4]at this;exact nh
     ·obtain⟨o,w',es,he⟩:=hx cs;have:=(h2 τ d main cs).symm.trans he;cases this
    ·obtain⟨o,w',es,he⟩:=hx [];have:=(h2 τ d ji []).symm.trans he;cases this
  ·
   refine Safe.step' fun τ d=>?_;have app:∀(t:List Frame)(x:Frame)(cs:List Frame),(t++[x])++cs=t++(x::cs):=fun t x cs=>by simp
   by_cases hl:fr.mode=.run\/fr.defers≠[]\/t1≠[]
   ·obtain⟨n',oJ⟩:=iE H Po hf wm hl (Rj w τ d);rcases oJ with⟨fr1,W00,w1,es1,oI,jV,_,_,_,t10⟩|xP
    rotate_left
    ·obtain⟨o,w',es,he⟩:=xP τ d (Zw w τ d n') ji (bot::[]);have:=h2 τ d ji [];rw[app,show Rj w τ d=Rj (Rj w τ d) τ d from rfl,he]at this;cases this
    have key:(nx τ d).fr=fr1/\(nx τ d).top=W00++[bot]:=by
     have e1:=t10 τ d (Zw w τ d n') ji (bot::[]);have e2:=h2 τ d ji [];rw[app]at e2;obtain⟨g1,g2,_,_⟩:=Sr (e2.symm.trans e1);exact⟨g1,J5⟩
    obtain⟨k1,k2⟩:=key;subst k1;refine⟨(nx τ d).fr,W00++[Rq s bot],(nx τ d).w,ev τ d,n τ d,h1 τ d,fun main cs=>?_,ih τ d _ _ (.inr ⟨W00,bot,k2,oI,jV,hb,⟨ops,i,rest,k,ht⟩,Us,rfl,rfl⟩)⟩;have e1:=t10 τ d (Zw w τ d n') main (bot::cs);have e2:=h2 τ d main cs;rw[app]at e2;obtain⟨_,_,g3,g4⟩:=Sr (e2.symm.trans e1);have e3:=t10 τ d (Zw w τ d n') main (Rq s bot::cs);rw[app,app];refine(show stepG P main (G fr (t1++Rq s bot::cs)) (Rj w τ d)=_ from e3).trans ?_;rw[g3,g4]
   ·have hm:fr.mode≠.run:=fun e=>hl (.inl e);have hd:fr.defers=[]:=by
     apply Classical.byContradiction;intro e;exact hl (.inr (.inl e))
    have ht1:t1=[]:=by
     apply Classical.byContradiction;intro e;exact hl (.inr (.inr e))
    subst ht1;have dF:fr.kind=.normal:=wm;obtain⟨fn,QA⟩:=hf.fn;cases Qw:fr.mode with
    |run=>exact absurd Qw hm
    |panicking chain=>
     exfalso;have e:=h2 τ d ji [];rw[show ([]++[bot]:List Frame)++[]=[bot]from rfl,Zl hm]at e;unfold unwind at e;simp only[hd,Qw,Ut hf]at e;obtain⟨g1,g2,_,_⟩:=Sr (show GStep.go (G (bot.raise chain) []) _ #[]=_ from e);have mU:=h3 τ d;rw[<-g1,show (nx τ d).top=[]by simpa using g2.symm]at mU;refine not_safe (fun fr w hq=>(hQ fr w hq).1) mU (hb.ok.raise _) ((Pv _ _).trans hb.kind) ?_ ?_
     ·unfold Frame.raise;split<;>simp
     ·have:(bot.raise chain).defers=bot.defers:=by unfold Frame.raise;split<;>rfl
      exact this.trans hb.defers
    |returning=>
     have hu:∀main (x:Frame) cs,stepG P main (G fr (x::cs)) (Rj w τ d)=unwind P main fr (x::cs) Ai (Rj w τ d):=fun main x cs=>Zl hm _ _ _;cases hr:(results fn fr.tmps).runT P (Rj w τ d) #[]with
     |mk r es=>
      cases r with
      |ok v w'=>
       have hgo:∀main (x:Frame) cs,stepG P main (G fr (x::cs)) (Rj w τ d)=.go (G (x.finish v) cs) w' (seen P fr.fn es):=fun main x cs=>by
        rw[hu];unfold unwind;simp only[hd,Qw,QA,hr,doReturn,dF,GStep.after];simp[G]
       have e:=h2 τ d ji [];obtain⟨g1,g2,g3,g4⟩:=Sr (e.symm.trans (hgo ji bot []));have zL:(nx τ d).top=[]:=J5;refine⟨Rq s (bot.finish v),[],(nx τ d).w,ev τ d,n τ d,h1 τ d,fun main cs=>?_,?_⟩
       ·show stepG P main (G fr (Rq s bot::cs)) _=_;rw[hgo,US s ht,g3,g4];rfl
       ·refine ih τ d _ _ (.inl ⟨zL,?_,by rw[g1],rfl⟩);rw[g1];exact uU hb ht v (Us v)
      |halt hh w'=>
       exfalso;have e:=h2 τ d ji [];rw[show ([]++[bot]:List Frame)++[]=[bot]from rfl,hu]at e;unfold unwind at e;simp only[hd,Qw,QA,hr,GStep.after]at e;cases hh<;>simp at e
theorem bj.j60{Post:Goroutine->ui->Prop}{cs:List Frame}(h:Safe P Q fr [] w)(hp:∀Gq w' d',Q Gq w'->bj P Post (G Gq cs) (Rj w' w.tape d')):bj P Post (G fr cs) w:=by
 intro gs sl t q d h0 hL hP;obtain⟨N,yk,Gq,w',d',sl',t',q',h1,h2,h3,h4,h5,h6⟩:=rF h gs sl t q cs w.tape d h0 hL hP;obtain⟨M,eZ,a2,w2,WQ,t2,q2,k1,k2,k3⟩:=hp Gq w' d' h4 yk sl' t' q' d' h3 h5 h6;exact⟨N+M,eZ,a2,w2,WQ,t2,q2,ux (show runNT P N (crowd gs (w.at d) sl) t=_ from h1) k1,E0,k3⟩
theorem bj.piece(H:Dk P A)(Po:∀g,P.stepOf g=Ai){c:Code}{Qn:Act->ui->Prop}{a:Act}{b:Frame}{k:List Item}{cs:List Frame}{Post:Goroutine->ui->Prop}
  (hp:Tj P A b.fn c=ji)(hc:Sm c=ji)(QA:∃fn,P.funcs[b.fn]?=yi fn)(E00:b.kind=.normal)(s80:Yo A b.fn (fun t=>a.tmps.getD t ri))(hd:a.defers=[])
  (hwp:∀τ,c.wp P (fun e a' w'=>e=.normal/\Qn a' w') a (Rj w τ 0))
  (hpost:∀a' w' τ' d' d,Qn a' (Rj w' τ' d')->bj P Post (G (b.at a' k) cs) (Rj w' w.tape d)):bj P Post (G (b.at a (.code c::k)) cs) w:=by
 have gl:bp P A (b.at a [.code c]):=⟨QA,rfl,.inl E00,fun it hit=>by
  have:it=.code c:=by simpa[Frame.at]using hit
  subst this;exact hp,s80,fun d hdd=>by
  have:d∈a.defers:=hdd;rw[hd]at this;cases this⟩
 have hS:Safe P (fun fr w=>∃τ d a',fr=b.at a' []/\Qn a' (Rj w τ d)) (b.at a [.code c]) [] w:=by
  refine kC (x:=⟨b.at a [.code c],[],w⟩) H Po ⟨gl,E00⟩ (fun _ fr w=>∃a',fr=b.at a' []/\Qn a' w) (fun τ fr w d ⟨a',e,h⟩=>⟨τ,d,a',e,h⟩) fun τ=>?_;obtain⟨e,a',w',⟨rfl,hq⟩,N,hN⟩:=hwp τ b [] [Ol];exact⟨N,b.at a' [],w',hN,a',rfl,hq⟩
 have hS':=A00 (Q':=fun fr w=>∃τ d a',fr=b.at a' k/\Qn a' (Rj w τ d)) H Po k (fun fr w ⟨τ,d,a',e,_⟩=>by rw[e];exact⟨rfl,rfl⟩) (fun fr w ⟨τ,d,a',e,h⟩=>⟨τ,d,a',V2,h⟩) hS _ _
  (.inl ⟨rfl,⟨gl,E00,rfl,hd,fun it hit=>by
   have:it=.code c:=by simpa[Frame.at]using hit
   subst this;exact hc⟩,rfl,rfl⟩)
 exact bj.j60 (fr:=Rq k (b.at a [.code c])) hS' fun Gq w' d' ⟨τ,dd,a',e,h⟩=>by
  rw[e];exact hpost a' w' τ dd d' h
end
end Go.Proofs.YtdoghgnifkgfdaaGreat.Mute
