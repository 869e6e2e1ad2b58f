import Derived.Test.YtdoghgnifkgfdaaGreatA02
set_option maxRecDepth 100000
set_option maxHeartbeats 16000000
open Option renaming none->Hn,some->Gn
open Go renaming World->En,Value->Dn,undef->Bn,Goroutine->zn,Calls->Zm,Program->Ym,Frame->Xm,Addr->Vm
open Bool renaming true->Um,false->Tm
open Nat renaming le_trans->Qm,le_refl->Om
open List renaming range->Hm
open Array renaming getElem?_setIfInBounds_ne->Cm,getElem?_eq_getElem->Bm
namespace Go.Proofs.YtdoghgnifkgfdaaGreat.Mute
open Tryz Go Go.Conc
structure Bt where
 B:Nat
 c:Nat
 ev:TypeId
 S:Nat->Prop
 M:Nat->Prop
def mL(t:TypeId):Obj->Bool
 |.cells _ e _=>e==t
 |_=>Tm
def Bt.send(L:Bt)(b:Nat)(o:Obj):Prop:=b≠L.c/\((b<L.B/\L.S b)\/(L.B<=b/\mL L.ev o=Tm))
def Bt.main(L:Bt)(b:Nat)(o:Obj):Prop:=b≠L.c/\((b<L.B/\L.M b)\/(L.B<=b/\mL L.ev o=Um))
structure Rq(L:Bt)(mine:Nat->Obj->Prop)(w w':En):Prop where
 os:w'.os=w.os
 out:w'.output=w.output
 tape:w'.tape=w.tape
 size:w.heap.size<=w'.heap.size
 at_:∀b o,w.heap[b]?=Gn o->∃o',w'.heap[b]?=Gn o'/\(b≠L.c->mL L.ev o'=mL L.ev o)/\(b≠L.c->¬mine b o->o'=o)
def oy(L:Bt)(mine:Nat->Obj->Prop):Prop:=∀b o o',(b≠L.c->mL L.ev o'=mL L.ev o)->mine b o->mine b o'
theorem Bt.Dp(L:Bt):oy L L.send:=fun b o o' e h=>⟨h.1,h.2.imp id fun x=>⟨x.1,by rw[e h.1];exact x.2⟩⟩
theorem Bt.Ap(L:Bt):oy L L.main:=fun b o o' e h=>⟨h.1,h.2.imp id fun x=>⟨x.1,by rw[e h.1];exact x.2⟩⟩
section
variable {L:Bt}{mine:Nat->Obj->Prop}{w w' MQ:En}
theorem Rq.refl(w:En):Rq L mine w w:=⟨rfl,rfl,rfl,Om _,fun _ o h=>⟨o,h,fun _=>rfl,fun _ _=>rfl⟩⟩
theorem Rq.trans(h:Rq L mine w w')(h':Rq L mine w' MQ):Rq L mine w MQ:=
 ⟨h'.os.trans h.os,h'.out.trans h.out,h'.tape.trans h.tape,Qm h.size h'.size,fun b o ho=>by
  obtain⟨o1,h1,e1,k1⟩:=h.at_ b o ho;obtain⟨o2,h2,e2,k2⟩:=h'.at_ b o1 h1;refine⟨o2,h2,fun hc=>(e2 hc).trans (e1 hc),fun hc hm=>?_⟩;have:o1=o:=k1 hc hm;subst this;exact k2 hc hm⟩
theorem Rq.at(w:En)(d:Nat):Rq L mine w (w.at d):=⟨rfl,rfl,rfl,Om _,fun _ o h=>⟨o,h,fun _=>rfl,fun _ _=>rfl⟩⟩
theorem Rq.draw(w:En)(d:Nat):Rq L mine w {w with drawn:=d}:=⟨rfl,rfl,rfl,Om _,fun _ o h=>⟨o,h,fun _=>rfl,fun _ _=>rfl⟩⟩
theorem Rq.keep(h:Rq L mine w w'){b:Nat}{o:Obj}(ho:w.heap[b]?=Gn o)(hc:b≠L.c)(hm:¬mine b o):w'.heap[b]?=Gn o:=by
 obtain⟨o',h1,_,h2⟩:=h.at_ b o ho;rw[h1,h2 hc hm]
theorem Rq.chan(w:En)(cl:Bool)(s r:Nat)(tm:Bool):Rq L mine w (w.setChan L.c 0 #[] cl s r tm):=by
 refine⟨rfl,rfl,rfl,by simp[World.setChan],fun b o ho=>?_⟩;by_cases hc:b=L.c
 ·subst hc;have yo:=(Array.getElem?_eq_some_iff.1 ho).1;exact⟨.chan 0 #[] cl s r tm,by simp[World.setChan,yo],fun x=>absurd rfl x,fun x=>absurd rfl x⟩
 ·exact⟨o,by simpa[World.setChan,Cm (Ne.symm hc)]using ho,fun _=>rfl,fun _ _=>rfl⟩
theorem Rq.set(w:En)(a:Vm)(v:Dn)(o:Obj)(ho:w.heap[a.block]?=Gn o)(hm:mine a.block o):Rq L mine w (w.setCell a v):=by
 refine⟨rfl,rfl,rfl,by simp[World.setCell],fun b o' aI=>?_⟩;by_cases hb:b=a.block
 ·subst hb;obtain rfl:o=o':=by rw[ho]at aI;exact Option.some.inj aI
  refine⟨_,by simp only[World.setCell,Array.getElem?_modify,if_true,aI,Option.map_some];rfl,fun _=>?_,fun _ x=>absurd hm x⟩;cases o<;>rfl
 ·refine⟨o',?_,fun _=>rfl,fun _ _=>rfl⟩;simp only[World.setCell,Array.getElem?_modify,if_neg (Ne.symm hb)];exact aI
theorem Rq.alloc(w:En)(o:Obj):Rq L mine w (w.alloc o):=by
 refine⟨rfl,rfl,rfl,by show w.heap.size<=(w.heap.push o).size;simp,fun b o' aI=>?_⟩;have yo:=(Array.getElem?_eq_some_iff.1 aI).1;exact⟨o',by show (w.heap.push o)[b]?=Gn o';simp[Array.getElem?_push,Nat.ne_of_lt yo,aI],fun _=>rfl,fun _ _=>rfl⟩
end
def uA(L:Bt)(mine other:Nat->Obj->Prop)(w:En)(x:Touch):Prop:=
 match x.loc with
 |.cell a=>∃o,w.heap[a.block]?=Gn o/\¬other a.block o/\(x.write=Um->mine a.block o)
 |.obj r=>r=L.c/\x.write=Tm
 |_=>x.write=Tm
theorem uA.turn{L:Bt}{mine other who:Nat->Obj->Prop}{w w':En}{x:Touch}(tm:oy L mine)(to:oy L other)(h:Rq L who w w')(ha:uA L mine other w x):uA L mine other w' x:=by
 unfold uA at ha ⊢;cases hx:x.loc with
 |cell a=>
  rw[hx]at ha;obtain⟨o,h1,h2,h3⟩:=ha;obtain⟨o',k1,k2,_⟩:=h.at_ _ _ h1;exact⟨o',k1,fun hh=>h2 (to _ _ _ (fun x=>(k2 x).symm) hh),fun hw=>tm _ _ _ k2 (h3 hw)⟩
 |obj r=>rw[hx]at ha;exact ha
 |output=>rw[hx]at ha;exact ha
 |goroutines=>rw[hx]at ha;exact ha
 |mark m=>rw[hx]at ha;exact ha
def WA(L:Bt)(mine other:Nat->Obj->Prop)(w:En)(e:Event):Prop:=yv e/\∀x,(MemAct.ofEvent e).touch?=Gn x->x.loc.isMemory=Um->uA L mine other w x
structure Does(L:Bt)(mine other:Nat->Obj->Prop)(w w':En)(es:Array Event):Prop where
 turn:Rq L mine w w'
 chan:w'.heap[L.c]?=w.heap[L.c]?
 evs:∀e∈es,WA L mine other w' e
section
variable {L:Bt}{mine other:Nat->Obj->Prop}{w w':En}
theorem Does.idle(w:En):Does L mine other w w #[]:=⟨.refl w,rfl,P0⟩
theorem Does.look(w:En){es:Array Event}(h:∀e∈es,WA L mine other w e):Does L mine other w w es:=⟨.refl w,rfl,h⟩
section
variable {a:Vm}{o:Obj}(ho:w.heap[a.block]?=Gn o)(hn:¬other a.block o)
include a o ho hn
theorem WA.read:WA L mine other w ⟨.cell a,Tm,Tm⟩:=
 ⟨Gq _ _ _,fun x hx _=>by
  simp only[MemAct.ofEvent,MemAct.touch?,Option.some.injEq]at hx;subst hx;exact⟨o,ho,hn,fun h=>X3⟩⟩
theorem WA.write(hm:mine a.block o):WA L mine other w ⟨.cell a,Um,Tm⟩:=
 ⟨Gq _ _ _,fun x hx _=>by
  simp only[MemAct.ofEvent,MemAct.touch?,Option.some.injEq]at hx;subst hx;exact⟨o,ho,hn,fun _=>hm⟩⟩
end
theorem Does.set{a:Vm}{v:Dn}{o:Obj}{es:Array Event}(tm:oy L mine)(to:oy L other)(ho:w.heap[a.block]?=Gn o)(hc:a.block≠L.c)(hm:mine a.block o)(Eu:∀e∈es,WA L mine other w e):Does L mine other w (w.setCell a v) es:=by
 have ht:=Rq.set (L:=L) w a v o ho hm;refine⟨ht,?_,fun e he=>⟨(Eu e he).1,fun x hx YM=>((Eu e he).2 x hx YM).turn tm to ht⟩⟩;simp only[World.setCell,Array.getElem?_modify,if_neg hc]
theorem Does.alloc{o:Obj}{es:Array Event}(tm:oy L mine)(to:oy L other)(hc:L.c<w.heap.size)(Eu:∀e∈es,WA L mine other w e):Does L mine other w (w.alloc o) es:=by
 have ht:=Rq.alloc (L:=L) (mine:=mine) w o;refine⟨ht,?_,fun e he=>⟨(Eu e he).1,fun x hx YM=>((Eu e he).2 x hx YM).turn tm to ht⟩⟩;show (w.heap.push o)[L.c]?=_;simp[Array.getElem?_push,Nat.ne_of_lt hc]
end
abbrev Bt.R0(L:Bt):=Rq L L.send
abbrev Bt.R1(L:Bt):=Rq L L.main
abbrev Bt.D0(L:Bt):=Does L L.main L.send
abbrev Bt.D1(L:Bt):=Does L L.send L.main
abbrev Bt.SL(L:Bt):=uA L L.send L.main
abbrev Bt.ML(L:Bt):=uA L L.main L.send
theorem Bt.Qq(L:Bt):Terms L.R0 L.D0:=⟨fun _ _ _=>Rq.trans,fun w=>.idle w⟩
theorem Bt.Nn(L:Bt):Terms L.R1 L.D1:=⟨fun _ _ _=>Rq.trans,fun w=>.idle w⟩
theorem Bt.Qe0(L:Bt):LetsDraw L.D0:=fun w=>⟨.draw w _,rfl,P0⟩
theorem Bt.wu(L:Bt):LetsDraw L.D1:=fun w=>⟨.draw w _,rfl,P0⟩
theorem Bt.rules(L:Bt)(FS:En->Prop)(hf:∀w w',L.R1 w w'->FS w->FS w'):Uw L.c L.R0 L.R1 L.D0 L.D1 L.SL L.ML FS where
 t0:=L.Qq.trans
 t1:=L.Nn.trans
 kH:=fun w d=>.at w d
 gR:=fun w d=>.at w d
 ch0:=fun w cl s r tm=>.chan w cl s r tm
 ch1:=fun w cl s r tm=>.chan w cl s r tm
 d01:=fun _ _ _ h=>h.turn
 d10:=fun _ _ _ h=>h.turn
 c0:=fun _ _ _ h=>h.chan
 c1:=fun _ _ _ h=>h.chan
 e0:=fun _ _ _ h=>h.evs
 e1:=fun _ _ _ h=>h.evs
 s0:=fun _ _ _ r a=>a.turn L.Dp L.Ap r
 s1:=fun _ _ _ r a=>a.turn L.Dp L.Ap r
 m0:=fun _ _ _ r a=>a.turn L.Ap L.Dp r
 m1:=fun _ _ _ r a=>a.turn L.Ap L.Dp r
 ap:=fun w a b ha hb e=>by
  unfold Bt.SL uA at ha;unfold Bt.ML uA at hb;cases hx:a.loc with
  |cell x=>
   rw[hx]at ha e;rw[<-e]at hb;obtain⟨o,h1,h2,h3⟩:=ha;obtain⟨o',k1,k2,k3⟩:=hb;obtain rfl:o=o':=by rw[h1]at k1;exact Option.some.inj k1
   exact⟨by cases hw:a.write<;>simp_all,by cases hw:b.write<;>simp_all⟩
  |obj r=>
   rw[hx]at ha e;rw[<-e]at hb;exact⟨ha.2,hb.2⟩
  |output=>rw[hx]at ha e;rw[<-e]at hb;exact⟨ha,hb⟩
  |goroutines=>rw[hx]at ha e;rw[<-e]at hb;exact⟨ha,hb⟩
  |mark m=>rw[hx]at ha e;rw[<-e]at hb;exact⟨ha,hb⟩
 sc:=fun w=>⟨rfl,rfl⟩
 f1:=hf
section
variable {P:Ym}{main:Bool}{R:En->En->Prop}{D:En->En->Array Event->Prop}{Bo:zn->En->Prop}
variable {b:Xm}{a:Act}{k:List Item}{cs:List Xm}{w:En}
theorem Pn.ctl(T:Terms R D){g g':zn}(hs:g.status=.running)(h:∀w,stepG P main g w=.go g' w)(hg:Pn P main R D Bo g' w):Pn P main R D Bo g w:=
 .one hs fun w₁ hr=>⟨g',w₁,#[],h w₁,T.idle _,hg.rely T.trans hr⟩
theorem Pn.skip(T:Terms R D)(h:Pn P main R D Bo (G (b.at a k) cs) w):Pn P main R D Bo (G (b.at a (.code .skip::k)) cs) w:=.ctl T rfl (fun _=>stepG_skip) h
theorem Pn.inBlock(T:Terms R D){id:Nat}(h:Pn P main R D Bo (G (b.at a k) cs) w):Pn P main R D Bo (G (b.at a (.inBlock id::k)) cs) w:=.ctl T rfl (fun _=>stepG_inBlock) h
theorem Pn.seq(T:Terms R D){x y:Code}(h:Pn P main R D Bo (G (b.at a (.code x::.code y::k)) cs) w):Pn P main R D Bo (G (b.at a (.code (.seq x y)::k)) cs) w:=.ctl T rfl (fun _=>stepG_seq) h
theorem Pn.cond(T:Terms R D){c:Operand}{x y:Code}{t:Bool}(e:a.eval c=.bool t)(h:Pn P main R D Bo (G (b.at a (.code (if t then x else y)::k)) cs) w):Pn P main R D Bo (G (b.at a (.code (.cond c x y)::k)) cs) w:=.ctl T rfl (fun _=>stepG_cond e) h
theorem Pn.block(T:Terms R D){id:Nat}{c:Code}(h:Pn P main R D Bo (G (b.at a (.code c::.inBlock id::k)) cs) w):Pn P main R D Bo (G (b.at a (.code (.block id c)::k)) cs) w:=.ctl T rfl (fun _=>stepG_block) h
theorem Pn.loop(T:Terms R D){c:Code}(h:Pn P main R D Bo (G (b.at a (.code c::.inLoop c::k)) cs) w):Pn P main R D Bo (G (b.at a (.code (.loop c)::k)) cs) w:=.ctl T rfl (fun _=>stepG_loop) h
theorem Pn.inLoop(T:Terms R D){c:Code}(h:Pn P main R D Bo (G (b.at a (.code c::.inLoop c::k)) cs) w):Pn P main R D Bo (G (b.at a (.inLoop c::k)) cs) w:=.ctl T rfl (fun _=>stepG_inLoop) h
theorem Pn.exit(T:Terms R D){id:Nat}{k':List Item}(e:exitTo id k=Gn k')(h:Pn P main R D Bo (G (b.at a k') cs) w):Pn P main R D Bo (G (b.at a (.code (.exit id)::k)) cs) w:=.ctl T rfl (fun _=>stepG_exit e) h
theorem Pn.region(T:Terms R D){id:Nat}{ops:Array Oper}(h:Pn P main R D Bo (G (b.at a (.inRegion ops (Hm ops.size)::k)) cs) w):Pn P main R D Bo (G (b.at a (.code (.region id ops Tm)::k)) cs) w:=.ctl T rfl (fun _=>stepG_region) h
theorem Pn.regionEnd(T:Terms R D){ops:Array Oper}(h:Pn P main R D Bo (G (b.at a k) cs) w):Pn P main R D Bo (G (b.at a (.inRegion ops []::k)) cs) w:=.ctl T rfl (fun _=>stepG_region_end) h
theorem Pn.ret(T:Terms R D)(h:∀todo,Pn P main R D Bo (G {b.at a todo with mode:=.returning} cs) w):Pn P main R D Bo (G (b.at a (.code .ret::k)) cs) w:=.ctl T rfl (fun _=>stepG_ret') (h _)
theorem Pn.fin(T:Terms R D)(h:Pn P main R D Bo (G {b.at a []with mode:=.returning} cs) w):Pn P main R D Bo (G (b.at a []) cs) w:=.ctl T rfl (fun _=>stepG_end) h
theorem Pn.unwanted(T:Terms R D){ops:Array Oper}{i:Nat}{rest:List Nat}{o:Oper}(ho:ops[i]?=Gn o)(hw:Region.wanted o (yielded ops a.tmps)=Tm)
  (h:Pn P main R D Bo (G (b.at (a.put o.dst Bn) (.inRegion ops rest::k)) cs) w):Pn P main R D Bo (G (b.at a (.inRegion ops (i::rest)::k)) cs) w:=.ctl T rfl (fun _=>stepG_unwanted ho hw) h
theorem Pn.op{ops:Array Oper}{i:Nat}{rest:List Nat}{o:Oper}(ho:ops[i]?=Gn o)(hw:Region.wanted o (yielded ops a.tmps)=Um)(hk:b.kind≠.early)
  (h:∀w₁,R w w₁->∀K:Act->En->Prop,(∀a' w',D w₁ w' (listed P b.fn a o w₁)/\Pn P main R D Bo (G (b.at a' (.inRegion ops rest::k)) cs) w'->K a' w')->uponK o a K ((execOp a.eval o).run P w₁)):
  Pn P main R D Bo (G (b.at a (.inRegion ops (i::rest)::k)) cs) w:=by
 refine .one rfl fun w₁ hr=>?_;have:=h w₁ hr _ fun _ _ x=>x;generalize hx:(execOp a.eval o).run P w₁=r at this
 match r,this with
 |.ok (.value v) w',h=>exact⟨_,_,_,stepG_value ho hw hk hx,h.1,h.2⟩
 |.ok .skip w',h=>exact⟨_,_,_,stepG_none ho hw hk hx,h.1,h.2⟩
theorem Pn.enter(T:Terms R D){ops:Array Oper}{i:Nat}{rest:List Nat}{o:Oper}{f:FuncId}{fn:Func}{c:Code}{args:Array Operand}{EL:Array TypeId}
  (ho:ops[i]?=Gn o)(hw:Region.wanted o (yielded ops a.tmps)=Um)(hk:b.kind≠.early)(ep:o.op=.call {callee:=.value (.func f),args,argTypes:=EL})
  (hf : P.funcs[f]? = Gn fn) (VC : (fn.name == "runtime.NumGoroutine") = Tm) (hb : fn.body = Gn c)
  (h:Pn P main R D Bo (G ((base f).at {tmps:=args.map a.eval++Array.replicate (fn.ntmps-(args.map a.eval).size) Bn,defers:=[]} [.code c]) (b.at a (.inRegion ops (i::rest)::k)::cs)) w):
  Pn P main R D Bo (G (b.at a (.inRegion ops (i::rest)::k)) cs) w:=
 .one rfl fun w₁ hr=>by
  have:=goes_call (P:=P) (main:=main) (b:=b) (a:=a) (k:=k) (cs:=cs) (w:=w₁) (K:=fun g' w' es=>g'=G ((base f).at {tmps:=args.map a.eval++Array.replicate (fn.ntmps-(args.map a.eval).size) Bn,defers:=[]} [.code c]) (b.at a (.inRegion ops (i::rest)::k)::cs)/\w'=w₁/\es=#[]) ho hw hk ep hf VC hb ⟨rfl,rfl,rfl⟩;revert this;cases Ht:stepG P main (G (b.at a (.inRegion ops (i::rest)::k)) cs) w₁<;>simp only[GStep.goes]<;>try exact False.elim
  rintro⟨rfl,rfl,rfl⟩;exact⟨_,_,_,rfl,T.idle _,h.rely T.trans hr⟩
end
open Go.ConcN (sumTo upd sumTo_upd upd_ne upd_same)
def Ko(P:Ym)(Post:zn->En->Prop)(a:zn)(w:En):Prop:=
 ∀(gs:Array zn)(sl:Option (Nat×Nat))(t:Trace)(q:Nat->Nat)(d:Nat),gs[0]?=Gn a->Leavers P t gs q->Xv t->
  ∃N dr a' w' sl' t' q',runNT P N (crowd gs (w.at d) sl) t=(.next (crowd dr w' sl'),t')/\gs.size<=dr.size/\dr[0]?=Gn a'/\Post a' w'/\Leavers P t' dr q'/\Xv t'
section
variable {P:Ym}{Post Q:zn->En->Prop}{a:zn}{w:En}
theorem ND{m m' m'':Machine}{t t' t'':Trace}{N K:Nat}(h:runNT P N m t=(.next m',t'))(hk:runNT P K m' t'=(.next m'',t'')):runNT P (N+K) m t=(.next m'',t''):=by
 induction N generalizing m t with
 |zero=>
  simp only[runNT]at h;cases h;rw[Nat.zero_add];exact hk
 |succ N ih=>
  rw[show N+1+K=(N+K)+1 by omega];simp only[runNT]at h ⊢;split at h
  ·exact ih h
  ·rename_i hx _
   simp only[Prod.mk.injEq]at h;exact absurd h.1 (hx _)
theorem Ko.done(h:∀d,Post a (w.at d)):Ko P Post a w:=fun gs sl t q d h0 hL hP=>⟨0,gs,a,w.at d,sl,t,q,rfl,Om _,h0,h d,hL,hP⟩
theorem Ko.at(h:Ko P Post a w)(d:Nat):Ko P Post a (w.at d):=fun gs sl t q d' h0 hL hP=>h gs sl t q d' h0 hL hP
theorem Ko.bind(h:Ko P Q a w)(hm:∀a' w',Q a' w'->Ko P Post a' w'):Ko P Post a w:=fun gs sl t q d h0 hL hP=>by
 obtain⟨N,dr,a',w',sl',t',q',h1,h2,h3,h4,h5,h6⟩:=h gs sl t q d h0 hL hP;obtain⟨M,gs2,a2,w2,XZ,t2,q2,k1,k2,k3⟩:=hm _ _ h4 dr sl' t' q' w'.drawn h3 h5 h6;exact⟨N+M,gs2,a2,w2,XZ,t2,q2,ND h1 k1,Qm h2 k2,k3⟩
theorem AG{gs:Array zn}{t:Trace}{q:Nat->Nat}(hL:Leavers P t gs q)(ha:gs[0]?=Gn a)(hr:a.status=.running):∀g∈gs,awake g:=by
 intro g hg;obtain⟨i,hi,rfl⟩:=Array.mem_iff_getElem.1 hg;rcases Nat.eq_zero_or_pos i with rfl|mJ
 ·have:gs[0]=a:=by simpa[Bm hi]using ha
  rw[this];exact awake_of (.inl hr)
 ·exact awake_of ((hL.old i _ mJ (Bm hi)).status.elim .inl fun x=>.inr (.inr x))
theorem pI{gs:Array zn}{t:Trace}{q:Nat->Nat}{g:zn}{i:Nat}{sl:Option (Nat×Nat)}(hL:Leavers P t gs q)(hP:Xv t)(ha:gs[0]?=Gn a)(hr:a.status=.running)(hi:gs[i]?=Gn g)(hg:g.status=.running)(mJ:0<i):
  ∃dr ops q',runT P (crowd gs w sl) i=(.next (crowd dr w sl),ops)/\dr.size=gs.size/\dr[0]?=Gn a/\Leavers P (t++ops) dr q'/\Xv (t++ops)/\sumTo dr.size q'<sumTo gs.size q:=by
 have hq:=hL.old i g mJ hi;have AE:i≠0:=E0;refine dm fun yo=>?_;have l80:(i==0)=false:=by simp;omega
 cases KY:q i with
 |zero=>rw[KY]at hq;rw[hq.1]at hg;cases hg
 |succ m=>
  rw[KY]at hq;rcases hq with⟨hf,_⟩|⟨_,g',es,hm,PY,tX⟩
  ·rw[hf]at hg;cases hg
  refine Gk fun Pv ju=>?_;have Pb0:sumTo gs.size (upd q i m)+(m+1)=sumTo gs.size q+m:=by
   have:=sumTo_upd q m id yo;simpa[KY]using this
  refine⟨_,_,upd q i m,Pv,ju,?_,⟨fun j x hj hx=>?_,fun j hj=>?_⟩,hP.mute AE hm,by rw[ju];omega⟩
  ·exact Ji
  ·by_cases gy:i=j
   ·exact zb
   ·rw[Cm gy,Array.getElem?_map]at hx;obtain⟨y,hy,rfl⟩:=Option.map_eq_some_iff.1 hx;have pK:=hL.old j y hj hy;exact Ye
  ·rw[Deaf_other t (g':=i) D3 _ Vp];exact hL.above j E2
theorem Ko.picked(hr:a.status=.running) (H:∀(gs:Array zn)(sl:Option (Nat×Nat))(t:Trace)(q:Nat->Nat)(d:Nat),gs[0]?=Gn a->Leavers P t gs q->Xv t->
   ∃gs1 w1 sl1 ops q1 N dr a' w' sl' t' q',runT P (crowd gs (w.at d) sl) 0=(.next (crowd gs1 w1 sl1),ops)/\q1=q/\runNT P N (crowd gs1 w1 sl1) (t++ops)=(.next (crowd dr w' sl'),t')/\gs.size<=dr.size/\dr[0]?=Gn a'/\Post a' w'/\Leavers P t' dr q'/\Xv t'):Ko P Post a w:=by
 intro gs sl t q;generalize hM:sumTo gs.size q=M;induction M using Nat.strongRecOn generalizing gs sl t q with
 |_ M ihM=>
  intro d h0 hL hP;obtain⟨i,g,d',sl',hi,hg,Ht⟩:=crowd_pick (P:=P) (w:=w.at d) (sl:=sl) (AG hL h0 hr) ⟨0,_,h0,hr⟩;by_cases AE:i=0
  ·subst AE;obtain⟨gs1,w1,sl1,ops,q1,N,dr,a',w',XZ,t',q',e1,_,e2,e3⟩:=H gs sl' t q d' h0 hL hP;exact⟨N+1,dr,a',w',XZ,t',q',by simp only[runNT,Ht];rw[show ((w.at d).at d')=w.at d' from rfl,e1];exact e2,e3⟩
  ·obtain⟨dr,ops,q',e1,e2,e3,e4,e5,e6⟩:=pI (w:=(w.at d).at d') (sl:=sl') hL hP h0 hr hi hg E0;obtain⟨N,gs2,a2,w2,XZ,t2,q2,k1,k2,k3⟩:=ihM _ E0 dr sl' (t++ops) q' rfl d' e3 e4 e5;exact⟨N+1,gs2,a2,w2,XZ,t2,q2,by simp only[runNT,Ht,e1];exact k1,E0,k3⟩
theorem Ko.step(hr:a.status=.running)(h:∀d,∃a' w' es,stepG P Um a (w.at d)=.go a' w' es/\(∀e∈es,yv e)/\Ko P Post a' w'):Ko P Post a w:=by
 refine .picked hr fun gs sl t q d h0 hL hP=>?_;obtain⟨a',w',es,XH,Eu,hR⟩:=h d;have yo:0<gs.size:=(Array.getElem?_eq_some_iff.1 h0).1;have Pv:=runT_crowd_go (P:=P) (sl:=sl) (i:=0) h0 (show stepG P (0==0) a (w.at d)=_ from XH);obtain⟨N,gs2,a2,w2,XZ,t2,q2,k1,k2,k3⟩:=hR ((gs.map (woken P a a' w')).setIfInBounds 0 a') sl (t++MemOp.ofEvents 0 a.frame.fn a.frame.place es) q w'.drawn (by simp[yo])
  ⟨fun j x hj hx=>by
   rw[Cm E0,Array.getElem?_map]at hx;obtain⟨y,hy,rfl⟩:=Option.map_eq_some_iff.1 hx;have pK:=hL.old j y hj hy;rw[woken_quitsD pK,Deaf_other t E0 _ Vp];exact pK,fun j hj=>by
   rw[Deaf_other t (g':=0) D3 _ Vp];exact hL.above j E2⟩ (hP.own Eu)
 exact⟨_,_,_,_,q,N,gs2,a2,w2,XZ,t2,q2,Pv,rfl,k1,by simpa using k2,k3⟩
theorem Ko.O20{f:FuncId}{args:Array Dn}{R:Ending->En->Prop}(cs:List Xm)(h:j60 P f args w R)
  (hp:∀fr e w' d',fr.fn=f->(∀τ d,fr.leaving P (xq w' τ d) e)->R e w'->Ko P Post (G fr cs) (xq w' w.tape d')):Ko P Post (G (Frame.enter P f args .normal) cs) w:=by
 intro gs sl t q d h0 hL hP;obtain⟨N,dr,Lx,w',d',sl',t',q',e,h1,h2,h3,h4,h5,h6,h7,h8⟩:=h gs sl t q cs w.tape d h0 hL hP;obtain⟨M,gs2,a2,w2,XZ,t2,q2,k1,k2,k3⟩:=hp Lx e w' d' h4 h5 h6 dr sl' t' q' d' h3 h7 h8;exact⟨N+M,gs2,a2,w2,XZ,t2,q2,ND (show runNT P N (crowd gs (w.at d) sl) t=_ from h1) k1,Qm h2 k2,k3⟩
end
section
variable {P:Ym}{c:Nat}{z:Dn}{R0 R1:En->En->Prop}{D0 D1:En->En->Array Event->Prop}{SL ML:En->Touch->Prop}{FS:En->Prop}{Fin Post:zn->En->Prop}
theorem Ko.fork(U:Uw c R0 R1 D0 D1 SL ML FS){vs:List Dn}{a:zn}{w:En}(hr:a.status=.running)
  (h:∀d,∃a' b w' es,stepG P Um a (w.at d)=.spawn a' b w' es/\(∀e∈es,yv e)/\(∃s r tm,w'.heap[c]?=Gn (.chan 0 #[] Tm s r tm))/\Pn P Um R0 D0 (StopA P c z R0 D0 ML Fin vs) a' w'/\Pn P Tm R1 D1 (StopB P c R1 D1 SL FS vs) b w')
  (hp:∀a' w',Fin a' w'->FS w'->Ko P Post a' w'):Ko P Post a w:=by
 refine Ko.bind (Q:=fun a' w'=>Fin a' w'/\FS w') (.picked hr fun gs sl t q d h0 hL hP=>?_) fun a' w' ⟨x,y⟩=>hp a' w' x y;obtain⟨a',b,w',es,hsp,Eu,hc,hA,hB⟩:=h d;have yo:0<gs.size:=(Array.getElem?_eq_some_iff.1 h0).1;have Pv:=runT_crowd_spawn (P:=P) (sl:=sl) (i:=0) h0 (show stepG P (0==0) a (w.at d)=_ from hsp);have TC:gs.size≠0:=E0;have e2:∀x y,(((MemOp.ofEvents 0 a.frame.fn a.frame.place es).push x).push y:Trace)=MemOp.ofEvents 0 a.frame.fn a.frame.place es++#[x,y]:=fun x y=>Array.ext' P0;rw[e2]at Pv;have hq:∀(j:Nat)(op:MemOp),op∈(#[{g:=0,fn:=a.frame.fn,pos:=a.frame.place,act:=.go gs.size},{g:=gs.size,fn:=b.frame.fn,pos:=a.frame.place,act:=.start}]:Trace)->∀d,deafStep j d op=d:=fun j op ep=>by
  simp only[List.mem_toArray,List.mem_cons,List.not_mem_nil,or_false]at ep;rcases ep with rfl|rfl<;>exact fun _=>rfl
 have hd:∀j,j≠0->Deaf (t++(MemOp.ofEvents 0 a.frame.fn a.frame.place es++#[{g:=0,fn:=a.frame.fn,pos:=a.frame.place,act:=.go gs.size},{g:=gs.size,fn:=b.frame.fn,pos:=a.frame.place,act:=.start}])) j=Deaf t j:=fun j hj=>JE Vp (Ne.symm hj) (hq j);have hC:vy P c gs.size SL ML ((gs.setIfInBounds 0 a').push b) w' (t++(MemOp.ofEvents 0 a.frame.fn a.frame.place es++#[{g:=0,fn:=a.frame.fn,pos:=a.frame.place,act:=.go gs.size},{g:=gs.size,fn:=b.frame.fn,pos:=a.frame.place,act:=.start}])) q:=by
  refine⟨TC,hc,fun i g AE xy hi=>?_,fun j hj=>?_,?_⟩
  ·have jO:gs[i]?=Gn g:=by
    rw[Array.getElem?_push]at hi;simp only[Array.size_setIfInBounds,xy,if_false]at hi;rw[Cm (Ne.symm AE)]at hi;exact hi
   rw[hd i AE];exact hL.old i g E0 jO
  ·have kz:gs.size+1<=j:=by simpa using hj
   rw[hd j E0];exact hL.above j E0
  ·rw[<-Array.append_assoc];exact Ey.fork (hP.own Eu) (by rw[Deaf_other t (Ne.symm TC) _ Vp];exact hL.above _ N8) _ _ _
 obtain⟨N,gs2,a2,w2,XZ,t2,q2,k1,k2,k3,k4,k5,k6,k7⟩:=phase U vs a' b w' _ sl _ q hA hB (by rw[Array.getElem?_push,if_neg A1,Array.getElem?_setIfInBounds_self_of_lt yo]) (by rw[Array.getElem?_push,if_pos P0]) hC;exact⟨_,_,_,_,q,N,gs2,a2,w2,XZ,t2,q2,Pv,rfl,k1,by rw[k2];simp,k3,⟨k4,k5⟩,k6,k7⟩
end
def ou:Code->Bool
 |.region _ ops _=>ops.all fun o=>!NB o
 |.seq a b|.cond _ a b=>ou a&&ou b
 |.block _ c|.loop c|.scope c=>ou c
 |_=>Um
def Dw:Item->Prop
 |.code c|.inLoop c|.inScope c=>ou c=Um
 |.inRegion ops _=>(ops.all fun o=>!NB o)=Um
 |_=>True
def ny(s:List Item)(fr:Xm):Frame:={fr with todo:=fr.todo++s}
section
variable {P:Ym}{A:xA}{fr:Xm}{w:En}
def ab0(P:Ym)(fr:Xm)(s:List Item)(x y:List Xm->GStep):Prop:=
 (∃Lx w' es,((∀it∈fr.todo,Dw it)->∀it∈Lx.todo,Dw it)/\Lx.defers=fr.defers/\Lx.kind=fr.kind/\∀cs,x cs=.go (G Lx cs) w' es/\y cs=.go (G (ny s Lx) cs) w' es)\/
 (∃f args w' es ops i rest k,fr.todo=.inRegion ops (i::rest)::k/\∀cs,x cs=.go (G (Frame.enter P f args .normal) (fr::cs)) w' es/\y cs=.go (G (Frame.enter P f args .normal) (ny s fr::cs)) w' es)\/
 (∀cs,∃o w' es,x cs=.ended o w' es)
theorem T00{sm:Sem Next}{ops:Array Oper}{i:Nat}{rest:List Nat}{k:List Item}{o:Oper}(h:jw P A fr)(oK:fr.kind=.normal)(ht:fr.todo=.inRegion ops (i::rest)::k)(hnd:NB o=Tm)(hs:Ok P (KE P A fr.fn o) sm)(ew:∀g,P.stepOf g=Hn)(s:List Item)(w:En):
  ab0 P fr s (fun cs=>stepG.apply P Um fr cs Hn sm w) (fun cs=>stepG.apply P Um (ny s fr) cs Hn sm w):=by
 obtain⟨s1,_⟩:=ly P sm w #[] hs P0;have mK:(fr.kind==.early)=false:=by rw[oK];rfl
 have rX:((ny s fr).kind==.early)=false:=mK;have IL:(ny s fr).todo=.inRegion ops (i::rest)::(k++s):=by show fr.todo++s=_;rw[ht];rfl
 have UG:(ny s fr).fn=fr.fn:=rfl;have Z_:fr.roundOf=none:=h.round;have NY:(ny s fr).roundOf=none:=h.round;have bz:∀v,(ny s fr).finish v=ny s (fr.finish v):=fun v=>by
  exact ik
 have rA:∀v,(∀it∈fr.todo,Dw it)->∀it∈(fr.finish v).todo,Dw it:=fun v hc it zB=>by
  unfold Frame.finish at zB;rw[ht]at hc zB;simp only[List.mem_cons]at zB;rcases zB with rfl|zB
  ·exact hc (.inRegion ops (i::rest)) List.mem_cons_self
  ·exact hc it (List.mem_cons_of_mem _ zB)
 have nf0:∀v,(fr.finish v).defers=fr.defers:=fun v=>by unfold Frame.finish;split<;>rfl
 have hra:∀c,(ny s fr).raise c=ny s (fr.raise c):=fun c=>by
  unfold Frame.raise ny;cases fr.mode<;>rfl
 have hrt:∀c,(fr.raise c).todo=fr.todo/\(fr.raise c).defers=fr.defers:=fun c=>by
  unfold Frame.raise;cases fr.mode<;>exact⟨rfl,rfl⟩
 have A80:∀cs,tryRecover fr cs=none:=fun cs=>by unfold tryRecover;simp[oK]
 have sk0:∀cs,tryRecover (ny s fr) cs=none:=fun cs=>by
  have:(ny s fr).kind=.normal:=oK;unfold tryRecover;simp[this]
 cases hr:sm.runT P w #[]with
 |mk r es=>
  rw[hr]at s1;cases r with
  |ok a w'=>
   cases a with
   |value v=>
    refine .inl ⟨fr.finish v,w',seen P fr.fn es,rA v,nf0 v,Dt fr v,fun cs=>⟨?_,?_⟩⟩
    ·refine ng ?_;simp[G]
    ·exact fl
   |skip=>
    refine .inl ⟨fr.finish Bn,w',seen P fr.fn es,rA Bn,nf0 Bn,Dt fr _,fun cs=>⟨?_,?_⟩⟩
    ·refine ng ?_;simp[G]
    ·exact fl
   |enter f args=>
    refine .inr (.inl ⟨f,args,w',seen P fr.fn es,ops,i,rest,k,ht,fun cs=>⟨?_,?_⟩⟩)
    ·simp only[stepG.apply,if_true,hr,mK,GStep.after,ht];simp[G]
    ·simp only[stepG.apply,if_true,hr,rX,GStep.after,IL,UG];simp[G]
   |defer df=>
    rw[s1.2]at hnd;cases hnd
   |recover=>
    refine .inl ⟨fr.finish .nilIface,w',seen P fr.fn es,rA _,nf0 _,Dt fr _,fun cs=>⟨?_,?_⟩⟩
    ·simp only[stepG.apply,if_true,hr,mK,GStep.after,Z_,A80];simp[G]
    ·simp only[stepG.apply,if_true,hr,rX,GStep.after,NY,sk0,bz,UG];simp[G]
   |_=>exact s1.elim
  |halt hh w'=>
   cases hh with
   |panic v=>
    refine .inl ⟨fr.raise [{v,recovered:=Tm}],w',seen P fr.fn es,fun hc=>by rw[(hrt _).1];exact hc,(hrt _).2,pB fr _,fun cs=>⟨?_,?_⟩⟩
    ·refine ng ?_;simp[G]
    ·simp only[stepG.apply,if_true,hr,rX,GStep.after,hra,UG];simp[G]
   |stuck m=>
    refine .inr (.inr fun cs=>?_);refine ng ?_;exact⟨_,_,_,rfl⟩
   |unsupported u=>
    cases u with
    |initOrder g=>
     cases hfo:P.follows .staticDataAhead with
     |true=>
      refine .inr (.inr fun cs=>?_);simp only[stepG.apply,if_true,hr,mK,GStep.after,early,hfo,ew];exact⟨_,_,_,rfl⟩
     |false=>
      cases hg:w'.heap[g]? with
      |none=>
       refine .inr (.inr fun cs=>?_);refine Xi ?_;exact⟨_,_,_,rfl⟩
      |some ob=>
       cases ob with
       |pending c e=>
        refine .inl ⟨fr,{w' with heap:=w'.heap.setIfInBounds g (.cells c e)},seen P fr.fn #[],id,rfl,rfl,fun cs=>⟨?_,?_⟩⟩
        ·refine Xi ?_;simp[G]
        ·simp only[stepG.apply,if_true,hr,rX,GStep.after,early,hfo,hg,UG];simp[G]
       |_=>
        refine .inr (.inr fun cs=>?_);refine Xi ?_;exact⟨_,_,_,rfl⟩
    |_=>
     refine .inr (.inr fun cs=>?_);refine ng ?_;exact⟨_,_,_,rfl⟩
   |_=>exact s1.elim
theorem RG{id:Nat}(s:List Item):∀{k l:List Item},exitTo id k=Gn l->exitTo id (k++s)=Gn (l++s)
 | [],_,e=>by simp[exitTo]at e
 |x::k,l,e=>by
  cases x with
  |inBlock id'=>
   rw[List.cons_append];unfold exitTo at e ⊢;split at e
   ·rename_i hh
    cases e;rw[if_pos hh]
   ·rename_i hh
    rw[if_neg hh];exact RG s e
  |_=>rw[List.cons_append];exact RG s (by simpa[exitTo]using e) |> fun z=>by simpa[exitTo]using z
theorem XE{id:Nat}:∀{k l:List Item},exitTo id k=Gn l->(∀it∈k,Dw it)->∀it∈l,Dw it
 | [],_,e,_=>by simp[exitTo]at e
 |x::k,l,e,hk=>by
  have jK:∀it∈k,Dw it:=fun it zB=>hk it (List.mem_cons_of_mem _ zB);cases x with
  |inBlock id'=>
   unfold exitTo at e;split at e
   ·cases e;exact jK
   ·exact XE e jK
  |_=>exact XE (by simpa[exitTo]using e) jK
theorem Kw{s l:List Item}{x y:List Xm->GStep}(hc:(∀it∈fr.todo,Dw it)->∀it∈l,Dw it)(hx:∀cs,x cs=.go (G {fr with todo:=l} cs) w #[])(hy:∀cs,y cs=.go (G {fr with todo:=l++s} cs) w #[]):ab0 P fr s x y:=
 .inl ⟨{fr with todo:=l},w,#[],hc,rfl,rfl,fun cs=>⟨hx cs,hy cs⟩⟩
theorem d70(H:yr P A)(ew:∀g,P.stepOf g=Hn)(h:jw P A fr)(oK:fr.kind=.normal)(hm:fr.mode=.run)(Yp:fr.todo≠[])(rA:∀it∈fr.todo,Dw it)(main:Bool)(s:List Item)(w:En):
  ab0 P fr s (fun cs=>stepG P main (G fr cs) w) (fun cs=>stepG P main (G (ny s fr) cs) w):=by
 have Vv:∀cs,stepG P main (G fr cs) w=stepG.exec P main Um fr cs Hn w:=fun cs=>aG hm _ _ _;have Eu:∀cs,stepG P main (G (ny s fr) cs) w=stepG.exec P main Um (ny s fr) cs Hn w:=fun cs=>aG (fr:=ny s fr) hm _ _ _;have Z_:fr.roundOf=none:=h.round;have NY:(ny s fr).roundOf=none:=h.round;have hto:=h.todo;cases ht:fr.todo with
 |nil=>exact absurd ht Yp
 |cons it k=>
  have IL:(ny s fr).todo=it::(k++s):=by show fr.todo++s=_;rw[ht];rfl
  rw[ht]at hto rA;have zB:=hto it List.mem_cons_self;have cit:=rA it List.mem_cons_self;have ck:∀x∈k,Dw x:=fun x hx=>rA x (List.mem_cons_of_mem _ hx);have one:∀{a:Item},Dw a->∀x∈a::k,Dw x:=fun ha x hx=>by
   rcases List.mem_cons.1 hx with rfl|hx
   ·exact ha
   ·exact ck x hx
  have two:∀{a b:Item},Dw a->Dw b->∀x∈a::b::k,Dw x:=fun ha hb x hx=>by
   rcases List.mem_cons.1 hx with rfl|hx
   ·exact ha
   ·rcases List.mem_cons.1 hx with rfl|hx
    ·exact hb
    ·exact ck x hx
  cases it with
  |inBlock id=>exact Kw (w:=w) (fun _=>ck) (fun cs=>Y3) (fun cs=>Z3)
  |inScope c=>exact Kw (w:=w) (fun _=>ck) (fun cs=>Y3) (fun cs=>Z3)
  |inLoop c=>exact Kw (w:=w) (fun _=>two (a:=.code c) (b:=.inLoop c) cit cit) (fun cs=>Y3) (fun cs=>Z3)
  |inRegion ops l=>
   cases l with
   |nil=>exact Kw (w:=w) (fun _=>ck) (fun cs=>Y3) (fun cs=>Z3)
   |cons i rest=>
    cases WC:((ops[i]?).map (Region.wanted · (yielded ops fr.tmps))).getD Tm with
    |true=>
     obtain⟨o,ho⟩:∃o,ops[i]?=Gn o:=by
      cases hx:ops[i]? with
      |none=>rw[hx]at WC;cases WC
      |some o=>exact⟨o,rfl⟩
     have hpl:Ro P A fr.fn o=true:=by
      have:ops.all (Ro P A fr.fn)=true:=zB;exact Si
     have hnd:NB o=false:=by
      have:(ops.all fun o=>!NB o)=true:=cit;rw[Array.all_eq_true_iff_forall_mem]at this;simpa using this o (Array.mem_of_getElem? ho)
     have D80:(Option.map (fun x=>Region.wanted x (yielded ops fr.tmps)) (Gn o)).getD Tm=true:=by rw[ho]at WC;exact WC
     have e1:∀cs,stepG P main (G fr cs) w=stepG.apply P Um fr cs Hn (execOp fr.eval o) w:=fun cs=>by
      rw[Vv];simp only[stepG.exec,ht,stepG.oper,Frame.oper?,ho,Z_];rw[if_pos D80]
     have e2:∀cs,stepG P main (G (ny s fr) cs) w=stepG.apply P Um (ny s fr) cs Hn (execOp fr.eval o) w:=fun cs=>by
      rw[Eu];simp only[stepG.exec,IL,stepG.oper,Frame.oper?,ho,NY];exact if_pos D80
     have:=T00 h oK ht hnd (eJ (ρ:=fr.eval) H h.slots (fun _=>rfl) hpl) ew s w;rw[show (fun cs=>stepG P main (G fr cs) w)=fun cs=>stepG.apply P Um fr cs Hn (execOp fr.eval o) w from funext e1,show (fun cs=>stepG P main (G (ny s fr) cs) w)=fun cs=>stepG.apply P Um (ny s fr) cs Hn (execOp fr.eval o) w from funext e2];exact this
    |false=>
     have QY:((ops[i]?).map (Region.wanted · (yielded ops (ny s fr).tmps))).getD Tm=false:=WC;have fS:∀it∈(fr.finish Bn).todo,Dw it:=fun x hx=>by
      unfold Frame.finish at hx;rw[ht]at hx;exact one (a:=.inRegion ops rest) cit x hx
     have bz:(ny s fr).finish Bn=ny s (fr.finish Bn):=by
      exact ik
     refine .inl ⟨fr.finish Bn,w,#[],fun _=>fS,by unfold Frame.finish;split<;>rfl,Dt _ _,fun cs=>⟨?_,?_⟩⟩
     ·refine(Vv cs).trans ?_;exact Ek
     ·refine(Eu cs).trans ?_;simp only[stepG.exec,IL,QY,bz];simp[G]
  |code c=>
   cases c with
   |skip=>exact Kw (w:=w) (fun _=>ck) (fun cs=>Y3) (fun cs=>Z3)
   |label l=>exact Kw (w:=w) (fun _=>ck) (fun cs=>Y3) (fun cs=>Z3)
   |seq a b=>
    have hp:ou a=Um/\ou b=true:=by
     have:ou (.seq a b)=true:=cit;simpa[ou]using this
    exact Kw (w:=w) (fun _=>two (a:=.code a) (b:=.code b) hp.1 hp.2) (fun cs=>Y3) (fun cs=>Z3)
   |cond x a b=>
    have hp:ou a=Um/\ou b=true:=by
     have:ou (.cond x a b)=true:=cit;simpa[ou]using this
    cases hx:fr.eval x with
    |bool bb=>
     have hxs:(ny s fr).eval x=.bool bb:=hx;cases bb with
     |true=>exact Kw (w:=w) (fun _=>one (a:=.code a) hp.1) (fun cs=>V6) (fun cs=>U7)
     |false=>exact Kw (w:=w) (fun _=>one (a:=.code b) hp.2) (fun cs=>V6) (fun cs=>U7)
    |_=>exact .inr (.inr fun cs=>by show ∃o w' es,stepG P main (G fr cs) w=_;rw[Vv];simp only[stepG.exec,ht,hx];exact⟨_,_,_,rfl⟩)
   |block id c=>
    have hp:ou c=true:=cit;exact Kw (w:=w) (fun _=>two (a:=.code c) (b:=.inBlock id) hp trivial) (fun cs=>Y3) (fun cs=>Z3)
   |loop c=>
    have hp:ou c=true:=cit;exact Kw (w:=w) (fun _=>two (a:=.code c) (b:=.inLoop c) hp hp) (fun cs=>Y3) (fun cs=>Z3)
   |scope c=>
    have hp:ou c=true:=cit;exact Kw (w:=w) (fun _=>two (a:=.code c) (b:=.inScope c) hp hp) (fun cs=>Y3) (fun cs=>Z3)
   |ret=>
    refine .inl ⟨{fr with mode:=.returning},w,#[],fun hc=>hc,rfl,rfl,fun cs=>⟨?_,?_⟩⟩
    ·refine(Vv cs).trans ?_;simp only[stepG.exec,ht,Z_];simp[G]
    ·refine(Eu cs).trans ?_;simp only[stepG.exec,IL,NY];simp[G,ny,ht,Z_]
   |exit id=>
    cases hx:exitTo id k with
    |some l=>exact Kw (w:=w) (fun _=>XE hx ck) (fun cs=>V6) (fun cs=>by rw[Eu];simp only[stepG.exec,IL,RG s hx];simp[G,ny])
    |none=>exact .inr (.inr fun cs=>by show ∃o w' es,stepG P main (G fr cs) w=_;rw[Vv];simp only[stepG.exec,ht,hx,Z_];exact⟨_,_,_,rfl⟩)
   |region id ops draw=>
    have hp:(ops.all fun o=>!NB o)=true:=cit;cases draw with
    |false=>exact Kw (w:=w) (fun _=>one (a:=.inRegion ops (Hm ops.size)) hp) (fun cs=>Y3) (fun cs=>Z3)
    |true=>
     obtain⟨n,t,w',_,_,q3⟩:=vK P (.order fr.fn id) w;have q4:=q3 w.tape w.drawn (fun _ _=>rfl);refine .inl ⟨{fr with todo:=.inRegion ops (Region.schedule (P.follows .mixedOrders) ops t)::k},xq w' w.tape (w.drawn+n),#[],fun _=>one (a:=.inRegion ops _) hp,rfl,rfl,fun cs=>⟨?_,?_⟩⟩
     ·refine(Vv cs).trans ?_;simp only[stepG.exec,ht,show (choose (.order fr.fn id)).run P w=_ from q4];simp[G]
     ·refine(Eu cs).trans ?_;simp only[stepG.exec,IL,show (choose (.order (ny s fr).fn id)).run P w=_ from q4];simp[G,ny]
   |_=>
    exfalso;simp[ay,zq]at zB
  |_=>exact(zB:False).elim
end
section
variable {P:Ym}{A:xA}{fr:Xm}{w:En}{Q Q':Xm->En->Prop}
structure Bot(P:Ym)(A:xA)(fr:Xm):Prop where
 ok:jw P A fr
 kind:fr.kind=.normal
 mode:fr.mode=.run
 defers:fr.defers=[]
 calm:∀it∈fr.todo,Dw it
theorem Ky{f f':Xm}{l l':List Xm}{w w':En}{es es':Array Event}(h:GStep.go (G f l) w es=GStep.go (G f' l') w' es'):f=f'/\l=l'/\w=w'/\es=es':=by
 simp only[GStep.go.injEq,G,Goroutine.mk.injEq]at h;exact⟨h.1.1,h.1.2.1,h.2.1,h.2.2⟩
theorem NV(hQ:∀fr w,Q fr w->fr.mode=.run)(h:Safe P Q fr [] w)(ho:jw P A fr)(hk:fr.kind=.normal)(hm:fr.mode≠.run)(hd:fr.defers=[]):False:=by
 cases h with
 |stop hq=>exact hm (hQ _ _ hq)
 |step nx ev n h1 h2 h3=>
  have e:=h2 (fun _ _=>0) 0 Um [Zs];rw[show ([]:List Xm)++[Zs]=[Zs]from rfl,zt hm]at e;obtain⟨fn,hf⟩:=ho.fn;cases UC:fr.mode with
  |run=>exact hm UC
  |panicking chain=>
   unfold unwind at e;simp only[hd,UC,Jz ho]at e;have:=(Ky (show GStep.go (G (Zs.raise chain) []) _ #[]=_ from e)).2.1;simp at this
  |returning=>
   unfold unwind at e;simp only[hd,UC,hf]at e;cases hr:(results fn fr.tmps).runT P (xq w (fun _ _=>0) 0) #[]with
   |mk r es=>
    rw[hr]at e;cases r with
    |ok v w'=>
     simp only[doReturn,hk,GStep.after]at e;have:=(Ky (show GStep.go (G (Zs.finish v) []) w' _=_ from e)).2.1;simp at this
    |halt hh w'=>
     simp only[GStep.after]at e;cases hh<;>simp at e
def At(P:Ym)(A:xA)(s:List Item)(fr:Xm)(top:List Xm)(EM:Xm)(fH:List Xm):Prop:=
 (top=[]/\Bot P A fr/\ny s fr=EM/\[]=fH)\/
 (∃t1 JC,top=t1++[JC]/\jw P A fr/\sw P A fr.kind t1/\Bot P A JC/\(∃ops i rest k,JC.todo=.inRegion ops (i::rest)::k)/\(∀v,jw P A (JC.finish v))/\fr=EM/\t1++[ny s JC]=fH)
theorem IC(w:En)(τ:Nat->Question->Nat)(d n:Nat):qH (xq w τ d) τ d n:=fun _ _=>rfl
section
variable {JC:Xm}{ops:Array Oper}{i:Nat}{rest:List Nat}{k:List Item}
include JC ops i rest k
theorem aY(hb:Bot P A JC)(ht:JC.todo=.inRegion ops (i::rest)::k)(v:Dn)(ho:jw P A (JC.finish v)):Bot P A (JC.finish v):=by
 refine⟨ho,(Dt JC v).trans hb.kind,?_,?_,fun it zB=>?_⟩
 ·have:(JC.finish v).mode=JC.mode:=by unfold Frame.finish;split<;>rfl
  exact this.trans hb.mode
 ·have:(JC.finish v).defers=JC.defers:=by unfold Frame.finish;split<;>rfl
  exact this.trans hb.defers
 ·have hc:=hb.calm;unfold Frame.finish at zB;rw[ht]at hc zB;simp only[List.mem_cons]at zB;rcases zB with rfl|zB
  ·exact hc (.inRegion ops (i::rest)) List.mem_cons_self
  ·exact hc it (List.mem_cons_of_mem _ zB)
theorem VZ(s:List Item)(ht:JC.todo=.inRegion ops (i::rest)::k)(v:Dn):(ny s JC).finish v=ny s (JC.finish v):=by
 have IL:(ny s JC).todo=.inRegion ops (i::rest)::(k++s):=by show JC.todo++s=_;rw[ht];rfl
 exact ik
end
theorem H90(H:yr P A)(ew:∀g,P.stepOf g=Hn)(s:List Item)(hQ:∀fr w,Q fr w->fr.mode=.run/\fr.todo=[])(hQ':∀fr w,Q fr w->Q' (ny s fr) w){top:List Xm}(h:Safe P Q fr top w):
  ∀EM fH,At P A s fr top EM fH->Safe P Q' EM fH w:=by
 induction h with
 | @stop fr w hq=>
  rintro EM fH (⟨_,_,rfl,rfl⟩|⟨t1,JC,e,_⟩)
  ·exact .stop (hQ' _ _ hq)
  ·simp at e
 | @step fr top w nx ev n h1 h2 h3 ih=>
  rintro EM fH (⟨rfl,hb,rfl,rfl⟩|⟨t1,JC,rfl,hf,Ht,hb,⟨ops,i,rest,k,ht⟩,bz,rfl,rfl⟩)
  ·
   refine Safe.step' fun τ d=>?_;have hn:∀Lx,nx τ d=⟨Lx,[],(nx τ d).w⟩->jw P A Lx->Lx.kind=.normal->Lx.mode≠.run->Lx.defers=[]->False:=fun Lx e ho hk hm hd=>by
    have yY:=h3 τ d;rw[e]at yY;exact NV (fun fr w hq=>(hQ fr w hq).1) yY ho hk hm hd
   by_cases Yp:fr.todo=[]
   ·exfalso;have e:=h2 τ d Um [];rw[show ([]:List Xm)++[]=[]from rfl,aG hb.mode]at e;simp only[stepG.exec,Yp,hb.ok.round]at e;obtain⟨e1,e2,_,_⟩:=Ky (show GStep.go (G {fr with mode:=.returning} []) _ #[]=_ from by simpa[G,Yp,hb.ok.round]using e);refine hn {fr with mode:=.returning} ?_ (hb.ok.mode _) hb.kind P0 hb.defers;have e3:(nx τ d).top=[]:=by simpa using e2.symm
    rw[<-e3,e1]
   ·have hw:∀main,ab0 P fr s (fun cs=>stepG P main (G fr cs) (xq w τ d)) (fun cs=>stepG P main (G (ny s fr) cs) (xq w τ d)):=fun main=>d70 H ew hb.ok hb.kind hb.mode Yp hb.calm main s _;obtain⟨n',jP⟩:=SJ H ew hb.ok (top:=[]) (show sw P A fr.kind []from hb.kind) (.inl hb.mode) (xq w τ d);rcases jP with⟨fr1,fa0,w1,es1,kO,vX,_,_,_,e80⟩|kV
    rotate_left
    ·obtain⟨o,w',es,he⟩:=kV τ d (IC w τ d n') Um [];have:=h2 τ d Um [];rw[show xq (xq w τ d) τ d=xq w τ d from rfl]at he;rw[he]at this;cases this
    have e1:=e80 τ d (IC w τ d n') Um [];rw[show xq (xq w τ d) τ d=xq w τ d from rfl,h2 τ d Um []]at e1;obtain⟨f1,f2,_,_⟩:=Ky e1;have f2':fa0=(nx τ d).top:=by simpa using f2.symm
    subst f1 f2';rcases hw Um with⟨Lx,w',es,hc,hdf,DY,hxy⟩|⟨f,args,w',es,ops,i,rest,k,ht,hxy⟩|hx
    ·
     obtain⟨g1,g2,g3,g4⟩:=Ky ((h2 τ d Um []).symm.trans (hxy []).1);have zS:(nx τ d).top=[]:=M5;subst g1;have JA:(nx τ d).fr.mode=.run:=by
      apply Classical.byContradiction;intro hm;exact hn (nx τ d).fr (by rw[<-zS]) kO (DY.trans hb.kind) hm (hdf.trans hb.defers)
     refine⟨ny s (nx τ d).fr,[],(nx τ d).w,ev τ d,n τ d,h1 τ d,fun main cs=>?_,ih τ d _ _ (.inl ⟨zS,⟨kO,DY.trans hb.kind,JA,hdf.trans hb.defers,hc hb.calm⟩,rfl,rfl⟩)⟩;rcases hw main with⟨Lx,w',es,_,_,_,hxy⟩|⟨f,args,w',es,_,_,_,_,_,hxy⟩|hx
     ·refine Uj fun g1 g2 g3 g4=>?_;have:=(hxy cs).2;rw[<-g1,<-g3,<-g4]at this;exact Vh
     ·refine Uj fun g1 g2 g3 g4=>?_;rw[zS]at g2;have:=congrArg List.length g2;simp at this
     ·obtain⟨o,w',es,he⟩:=hx cs;have:=(h2 τ d main cs).symm.trans he;cases this
    ·
     obtain⟨g1,g2,g3,g4⟩:=Ky ((h2 τ d Um []).symm.trans (hxy []).1);have zS:(nx τ d).top=[fr]:=M5;rw[zS]at vX;refine⟨(nx τ d).fr,[ny s fr],(nx τ d).w,ev τ d,n τ d,h1 τ d,fun main cs=>?_,ih τ d _ _ (.inr ⟨[],fr,by rw[zS];rfl,kO,by rw[g1];rfl,hb,⟨ops,i,rest,k,ht⟩,vX.2.1 (by rw[g1];rfl),rfl,rfl⟩)⟩;rcases hw main with⟨Lx,w',es,_,_,_,hxy⟩|⟨f,args,w',es,_,_,_,_,_,hxy⟩|hx
     ·refine Uj fun g1 g2 g3 g4=>?_;rw[zS]at g2;have:=congrArg List.length g2;simp at this
     ·refine Uj fun g1 g2 g3 g4=>?_;have:=(hxy cs).2;rw[<-g1,<-g3,<-g4]at this;exact Vh
     ·obtain⟨o,w',es,he⟩:=hx cs;have:=(h2 τ d main cs).symm.trans he;cases this
    ·obtain⟨o,w',es,he⟩:=hx [];have:=(h2 τ d Um []).symm.trans he;cases this
  ·
   refine Safe.step' fun τ d=>?_;have app:∀(t:List Xm)(x:Xm)(cs:List Xm),(t++[x])++cs=t++(x::cs):=fun t x cs=>by simp
   by_cases hl:fr.mode=.run\/fr.defers≠[]\/t1≠[]
   ·obtain⟨n',jP⟩:=SJ H ew hf Ht hl (xq w τ d);rcases jP with⟨fr1,fa0,w1,es1,kO,vX,_,_,_,e80⟩|kV
    rotate_left
    ·obtain⟨o,w',es,he⟩:=kV τ d (IC w τ d n') Um (JC::[]);have:=h2 τ d Um [];rw[app,show xq w τ d=xq (xq w τ d) τ d from rfl,he]at this;cases this
    have key:(nx τ d).fr=fr1/\(nx τ d).top=fa0++[JC]:=by
     have e1:=e80 τ d (IC w τ d n') Um (JC::[]);have e2:=h2 τ d Um [];rw[app]at e2;obtain⟨g1,g2,_,_⟩:=Ky (e2.symm.trans e1);exact⟨g1,M5⟩
    obtain⟨k1,k2⟩:=key;subst k1;refine⟨(nx τ d).fr,fa0++[ny s JC],(nx τ d).w,ev τ d,n τ d,h1 τ d,fun main cs=>?_,ih τ d _ _ (.inr ⟨fa0,JC,k2,kO,vX,hb,⟨ops,i,rest,k,ht⟩,bz,rfl,rfl⟩)⟩;have e1:=e80 τ d (IC w τ d n') main (JC::cs);have e2:=h2 τ d main cs;rw[app]at e2;obtain⟨_,_,g3,g4⟩:=Ky (e2.symm.trans e1);have e3:=e80 τ d (IC w τ d n') main (ny s JC::cs);rw[app,app];refine(show stepG P main (G fr (t1++ny s JC::cs)) (xq w τ d)=_ from e3).trans ?_;rw[g3,g4]
   ·have hm:fr.mode≠.run:=fun e=>hl (.inl e);have hd:fr.defers=[]:=by
     apply Classical.byContradiction;intro e;exact hl (.inr (.inl e))
    have ht1:t1=[]:=by
     apply Classical.byContradiction;intro e;exact hl (.inr (.inr e))
    subst ht1;have oK:fr.kind=.normal:=Ht;obtain⟨fn,UG⟩:=hf.fn;cases UC:fr.mode with
    |run=>exact absurd UC hm
    |panicking chain=>
     exfalso;have e:=h2 τ d Um [];rw[show ([]++[JC]:List Xm)++[]=[JC]from rfl,zt hm]at e;unfold unwind at e;simp only[hd,UC,Jz hf]at e;obtain⟨g1,g2,_,_⟩:=Ky (show GStep.go (G (JC.raise chain) []) _ #[]=_ from e);have yY:=h3 τ d;rw[<-g1,show (nx τ d).top=[]by simpa using g2.symm]at yY;refine NV (fun fr w hq=>(hQ fr w hq).1) yY (hb.ok.raise _) ((pB _ _).trans hb.kind) ?_ ?_
     ·unfold Frame.raise;split<;>simp
     ·have:(JC.raise chain).defers=JC.defers:=by unfold Frame.raise;split<;>rfl
      exact this.trans hb.defers
    |returning=>
     have hu:∀main (x:Xm) cs,stepG P main (G fr (x::cs)) (xq w τ d)=unwind P main fr (x::cs) Hn (xq w τ d):=fun main x cs=>zt hm _ _ _;cases hr:(results fn fr.tmps).runT P (xq w τ d) #[]with
     |mk r es=>
      cases r with
      |ok v w'=>
       have XH:∀main (x:Xm) cs,stepG P main (G fr (x::cs)) (xq w τ d)=.go (G (x.finish v) cs) w' (seen P fr.fn es):=fun main x cs=>by
        rw[hu];unfold unwind;simp only[hd,UC,UG,hr,doReturn,oK,GStep.after];simp[G]
       have e:=h2 τ d Um [];obtain⟨g1,g2,g3,g4⟩:=Ky (e.symm.trans (XH Um JC []));have zS:(nx τ d).top=[]:=M5;refine⟨ny s (JC.finish v),[],(nx τ d).w,ev τ d,n τ d,h1 τ d,fun main cs=>?_,?_⟩
       ·show stepG P main (G fr (ny s JC::cs)) _=_;rw[XH,VZ s ht,g3,g4];rfl
       ·refine ih τ d _ _ (.inl ⟨zS,?_,by rw[g1],rfl⟩);rw[g1];exact aY hb ht v (bz v)
      |halt hh w'=>
       exfalso;have e:=h2 τ d Um [];rw[show ([]++[JC]:List Xm)++[]=[JC]from rfl,hu]at e;unfold unwind at e;simp only[hd,UC,UG,hr,GStep.after]at e;cases hh<;>simp at e
theorem Ko.fc0{Post:zn->En->Prop}{cs:List Xm}(h:Safe P Q fr [] w)(hp:∀Lx w' d',Q Lx w'->Ko P Post (G Lx cs) (xq w' w.tape d')):Ko P Post (G fr cs) w:=by
 intro gs sl t q d h0 hL hP;obtain⟨N,dr,Lx,w',d',sl',t',q',h1,h2,h3,h4,h5,h6⟩:=AK h gs sl t q cs w.tape d h0 hL hP;obtain⟨M,gs2,a2,w2,XZ,t2,q2,k1,k2,k3⟩:=hp Lx w' d' h4 dr sl' t' q' d' h3 h5 h6;exact⟨N+M,gs2,a2,w2,XZ,t2,q2,ND (show runNT P N (crowd gs (w.at d) sl) t=_ from h1) k1,E0,k3⟩
theorem Ko.piece(H:yr P A)(ew:∀g,P.stepOf g=Hn){c:Code}{Qn:Act->En->Prop}{a:Act}{b:Xm}{k:List Item}{cs:List Xm}{Post:zn->En->Prop}
  (hp:zq P A b.fn c=Um)(hc:ou c=Um)(UG:∃fn,P.funcs[b.fn]?=Gn fn)(p80:b.kind=.normal)(Mf0:qw A b.fn (fun t=>a.tmps.getD t Bn))(hd:a.defers=[])
  (hwp:∀τ,c.wp P (fun e a' w'=>e=.normal/\Qn a' w') a (xq w τ 0))
  (hpost:∀a' w' τ' d' d,Qn a' (xq w' τ' d')->Ko P Post (G (b.at a' k) cs) (xq w' w.tape d)):Ko P Post (G (b.at a (.code c::k)) cs) w:=by
 have Yr:jw P A (b.at a [.code c]):=⟨UG,rfl,.inl p80,fun it zB=>by
  have:it=.code c:=by simpa[Frame.at]using zB
  subst this;exact hp,Mf0,fun d hdd=>by
  have:d∈a.defers:=hdd;rw[hd]at this;cases this⟩
 have hS:Safe P (fun fr w=>∃τ d a',fr=b.at a' []/\Qn a' (xq w τ d)) (b.at a [.code c]) [] w:=by
  refine DI (x:=⟨b.at a [.code c],[],w⟩) H ew ⟨Yr,p80⟩ (fun _ fr w=>∃a',fr=b.at a' []/\Qn a' w) (fun τ fr w d ⟨a',e,h⟩=>⟨τ,d,a',e,h⟩) fun τ=>?_;obtain⟨e,a',w',⟨rfl,hq⟩,N,hN⟩:=hwp τ b [] [Zs];exact⟨N,b.at a' [],w',hN,a',rfl,hq⟩
 have hS':=H90 (Q':=fun fr w=>∃τ d a',fr=b.at a' k/\Qn a' (xq w τ d)) H ew k (fun fr w ⟨τ,d,a',e,_⟩=>by rw[e];exact⟨rfl,rfl⟩) (fun fr w ⟨τ,d,a',e,h⟩=>⟨τ,d,a',V2,h⟩) hS _ _
  (.inl ⟨rfl,⟨Yr,p80,rfl,hd,fun it zB=>by
   have:it=.code c:=by simpa[Frame.at]using zB
   subst this;exact hc⟩,rfl,rfl⟩)
 exact Ko.fc0 (fr:=ny k (b.at a [.code c])) hS' fun Lx w' d' ⟨τ,dd,a',e,h⟩=>by
  rw[e];exact hpost a' w' τ dd d' h
end
section
variable {P:Ym}{A:xA}{Post:zn->En->Prop}{b:Xm}{a:Act}{k:List Item}{cs:List Xm}{w:En}
theorem Ko.ctl{g g':zn}(hr:g.status=.running)(h:∀w,stepG P Um g w=.go g' w)(hp:Ko P Post g' w):Ko P Post g w:=
 .step hr fun d=>⟨g',w.at d,#[],h _,P0,hp.at d⟩
theorem Ko.seq{x y:Code}(h:Ko P Post (G (b.at a (.code x::.code y::k)) cs) w):Ko P Post (G (b.at a (.code (.seq x y)::k)) cs) w:=.ctl rfl (fun _=>stepG_seq) h
theorem Ko.region{id:Nat}{ops:Array Oper}(h:Ko P Post (G (b.at a (.inRegion ops (Hm ops.size)::k)) cs) w):Ko P Post (G (b.at a (.code (.region id ops Tm)::k)) cs) w:=.ctl rfl (fun _=>stepG_region) h
theorem Ko.regionEnd{ops:Array Oper}(h:Ko P Post (G (b.at a k) cs) w):Ko P Post (G (b.at a (.inRegion ops []::k)) cs) w:=.ctl rfl (fun _=>stepG_region_end) h
theorem Ko.ret(h:∀todo,Ko P Post (G {b.at a todo with mode:=.returning} cs) w):Ko P Post (G (b.at a (.code .ret::k)) cs) w:=.ctl rfl (fun _=>stepG_ret') (h _)
theorem SU{α:Type}(s:Sem α)(w:En):s.events P w #[]=(s.runT P w #[]).2:=by rw[Sem.runT_eq]
theorem jq(H:yr P A){o:Oper}(hs:qw A b.fn (fun t=>a.tmps.getD t Bn))(hp:Ro P A b.fn o=Um)(w:En):∀e∈listed P b.fn a o w,yv e:=by
 have ho:=eJ (ρ:=a.eval) H hs (fun _=>rfl) hp;obtain⟨_,s2⟩:=ly P _ w #[] ho P0;unfold listed;rw[SU];exact Ut s2
theorem Ko.value{ops:Array Oper}{i:Nat}{rest:List Nat}{o:Oper}{v:Dn}{w':En}(ho:ops[i]?=Gn o)(hw:Region.wanted o (yielded ops a.tmps)=Um)(hk:b.kind≠.early)(hr:∀d,∃d',(execOp a.eval o).run P (w.at d)=.ok (.value v) (w'.at d'))
  (he:∀d,∀e∈listed P b.fn a o (w.at d),yv e)(h:Ko P Post (G (b.at (a.put o.dst v) (.inRegion ops rest::k)) cs) w'):Ko P Post (G (b.at a (.inRegion ops (i::rest)::k)) cs) w:=
 .step rfl fun d=>by
  obtain⟨d',e⟩:=hr d;exact⟨_,_,_,stepG_value ho hw hk e,he d,h.at d'⟩
def Ip(P:Ym)(f:FuncId)(args:Array Dn)(w:En)(R:Dn->En->Prop):Prop:=
 ∀(cs:List Xm)(Post:zn->En->Prop),(∀fr v w',fr.fn=f->(∀d,fr.leaving P (w'.at d) (.returned v))->R v w'->Ko P Post (G fr cs) w')->Ko P Post (G (Frame.enter P f args .normal) cs) w
theorem Ip.mono{f:FuncId}{args:Array Dn}{R R':Dn->En->Prop}(h:Ip P f args w R)(hm:∀v w',R v w'->R' v w'):Ip P f args w R':=fun cs Post hp=>h cs Post fun fr v w' a b c=>hp fr v w' a b (hm v w' c)
theorem Ip.d90(H:yr P A)(ew:∀g,P.stepOf g=Hn){f:FuncId}{args:Array Dn}(hen:vv P A f args)(R:Dn->En->Prop)
  (hc:∀τ,Zm P f args (xq w τ 0) (fun e w'=>∃v,e=.returned v/\R v w')):Ip P f args w (fun v w'=>∃w₁ τ d d',R v (xq w₁ τ d)/\w'=xq w₁ w.tape d'):=fun cs Post hp=>by
 refine Ko.O20 cs (YK H ew hen (fun _ e w'=>∃v,e=.returned v/\R v w') hc (fun _ _ ⟨v,e,_⟩=>I3)) fun fr e w' d' hf hl ⟨τ,d,v,e1,hR⟩=>?_;subst e1;exact hp fr v (xq w' w.tape d') hf (fun d=>hl w.tape d) ⟨w',τ,d,d',hR,rfl⟩
theorem Ko.leave{fr c:Xm}{v:Dn}(hl:∀d,fr.leaving P (w.at d) (.returned v))(h:Ko P Post (G (c.finish v) cs) w):Ko P Post (G fr (c::cs)) w:=by
 refine .step rfl fun d=>?_;obtain⟨hm,hd,hk,fn,hf,hr⟩:=hl d;have ho:=LD (P:=P) fn fr.tmps;obtain⟨_,s2⟩:=ly P _ (w.at d) #[] ho P0;refine⟨G (c.finish v) cs,w.at d,seen P fr.fn ((results fn fr.tmps).runT P (w.at d) #[]).2,?_,Ut s2,h.at d⟩;rw[zt (by rw[hm];simp)];have LY:((results fn fr.tmps).runT P (w.at d) #[]).1=.ok v (w.at d):=by rw[Sem.runT_fst];exact hr
 unfold unwind;cases hx:(results fn fr.tmps).runT P (w.at d) #[]with
 |mk r es=>
  rw[hx]at LY;simp only at LY;subst LY;simp only[hd,hm,hf,hx,doReturn,hk,GStep.after];simp[G]
theorem Ko.call{ops:Array Oper}{i:Nat}{rest:List Nat}{o:Oper}{f:FuncId}{args:Array Dn}{R:Dn->En->Prop}(ho:ops[i]?=Gn o)(hw:Region.wanted o (yielded ops a.tmps)=Um)(hk:b.kind≠.early)
  (hr:∀d,(execOp a.eval o).run P (w.at d)=.ok (.enter f args) (w.at d))(he:∀d,∀e∈listed P b.fn a o (w.at d),yv e)(hc:Ip P f args w R)
  (h:∀v w',R v w'->Ko P Post (G (b.at (a.put o.dst v) (.inRegion ops rest::k)) cs) w'):Ko P Post (G (b.at a (.inRegion ops (i::rest)::k)) cs) w:=by
 refine .step rfl fun d=>⟨_,_,_,stepG_enter ho hw hk (hr d),he d,Ko.at (hc _ _ fun fr v w' _ hl hR=>?_) d⟩;refine Ko.leave hl ?_;have bz:(b.at a (.inRegion ops (i::rest)::k)).finish v=b.at (a.put o.dst v) (.inRegion ops rest::k):=by rw[Frame.finish_at,ho];rfl
 rw[bz];exact h v w' hR
theorem Ip.intro{f:FuncId}{args:Array Dn}{R:Dn->En->Prop}{fn:Func}{c:Code}(hf:P.funcs[f]?=Gn fn)(hb:fn.body=Gn c)
  (h:∀(cs:List Xm)(Post:zn->En->Prop),(∀(a:Act)(todo:List Item)(v:Dn)(w':En),a.defers=[]->(∀d,(results fn a.tmps).run P (w'.at d)=.ok v (w'.at d))->R v w'->Ko P Post (G {(base f).at a todo with mode:=.returning} cs) w')->
   Ko P Post (G ((base f).at {tmps:=args++Array.replicate (fn.ntmps-args.size) Bn,defers:=[]} [.code c]) cs) w):Ip P f args w R:=fun cs Post hp=>by
 rw[enter_at args hf hb];exact h cs Post fun a todo v w' hd hr hR=>hp _ v w' rfl (fun d=>⟨rfl,hd,rfl,fn,hf,hr d⟩) hR
end
section
variable {P:Ym}{A:xA}{fr:Xm}{w:En}{Q Q':Xm->En->Prop}{tg0 oG:Array Oper}{LP:List Nat}{s:List Item}
def Alike(tg0 oG:Array Oper):Prop:=∀(i:Nat)(o:Oper),tg0[i]?=Gn o->oG[i]?=Gn o/\∀tmps,Region.wanted o (yielded oG tmps)=Region.wanted o (yielded tg0 tmps)
end
section
variable {m:Region.Mode}{ops:Array Oper}
def YC(m:Region.Mode)(ops:Array Oper)(L:Array Bool)(i:Nat):Bool:=
 !L.getD i Um&&((ops[i]?).map (·.after.all fun e=>!Region.binds m e || L.getD e.on Tm)).getD Tm
def rdy(m:Region.Mode)(ops:Array Oper)(L:Array Bool):List Nat:=(Hm ops.size).filter (YC m ops L)
theorem go_succ(fuel t:Nat)(L:Array Bool)(acc:List Nat):Region.linearise.go m ops (fuel+1) t L acc=match (rdy m ops L)[t%(rdy m ops L).length]? with
  |some i=>Region.linearise.go m ops fuel (t/(rdy m ops L).length) (L.setIfInBounds i Um) (i::acc)
  |none=>acc.reverse:=rfl
def hangs(m:Region.Mode)(ops:Array Oper)(n:Nat):Bool:=
 ((Hm n).all fun i=>((ops.getD i default).after.all fun e=>decide (e.on<i))&&(Hm (n+1)).any fun j=>decide (i<j)&&(ops.getD j default).after.toList.any fun e=>Region.binds m e&&e.on==i) &&
 (Hm ops.size).all fun i=>decide (i<n) || (((ops.getD i default).after.all fun e=>decide (e.on<i))&&(decide (i=n) || (ops.getD i default).after.toList.any fun e=>Region.binds m e&&e.on+1==i))
theorem BM{p:Nat->Bool}{x:Nat}:∀{N:Nat},x<N->p x=Um->(∀i,i<N->i≠x->p i=Tm)->(Hm N).filter p=[x]
 |0,h,_,_=>absurd h E0
 |N+1,h,hp,ho=>by
  rw[List.range_succ,List.filter_append];by_cases e:x=N
  ·subst e;have:(Hm x).filter p=[]:=List.filter_eq_nil_iff.2 fun i hi=>by
    have:=List.mem_range.1 hi;rw[ho i E0 E0];simp
   rw[this];simp[hp]
  ·rw[BM E0 hp fun i hi Yp=>ho i E0 Yp];simp[ho N E0 E0]
theorem vz{L:Array Bool}{i:Nat}:YC m ops L i=Um↔L.getD i Um=Tm/\∃o,ops[i]?=Gn o/\∀e∈o.after,Region.binds m e=Um->L.getD e.on Tm=true:=by
 unfold YC;cases h:ops[i]? with
 |none=>simp
 |some o=>
  simp only[Option.map_some,Option.getD_some,Bool.and_eq_true,Bool.not_eq_true',Option.some.injEq];constructor
  ·rintro⟨h1,h2⟩;refine⟨h1,o,rfl,fun e he hb=>?_⟩;rw[Array.all_eq_true_iff_forall_mem]at h2;have:=h2 e he;simpa[hb]using this
  ·rintro⟨h1,o',rfl,h2⟩;refine⟨h1,?_⟩;rw[Array.all_eq_true_iff_forall_mem];intro e he;cases hb:Region.binds m e with
   |false=>rfl
   |true=>simp[h2 e he hb]
theorem Jy{L:Array Bool}{i:Nat}(hi:i<L.size)(j:Nat)(d:Bool):(L.setIfInBounds i Um).getD j d=if i=j then Um else L.getD j d:=by
 rw[Array.getD_eq_getD_getElem?,Array.getD_eq_getD_getElem?];by_cases e:i=j
 ·subst e;simp[hi]
 ·rw[Cm e,if_neg e]
theorem QC{L:Array Bool}{i:Nat}(hi:i<L.size):L.getD i Um=L.getD i false:=by
 simp[Array.getD,hi]
theorem Db0{n:Nat}(h3:∀i,n<=i->i<ops.size->∀e∈(ops.getD i default).after,e.on<i)(h4:∀i,n<i->i<ops.size->∃e∈(ops.getD i default).after,Region.binds m e=Um/\e.on+1=i):
  ∀(r k t:Nat)(L:Array Bool),n+k+r=ops.size->L.size=ops.size->(∀i,i<n+k->L.getD i Tm=Um)->(∀i,n+k<=i->L.getD i Tm=Tm)->Region.linearise.go m ops r t L []=(Hm r).map (n+k+·):=by
 intro r;induction r with
 |zero=>intro k t L _ _ _ _;simp[Region.linearise.go]
 |succ r ih=>
  intro k t L hs hL ht hf;have hx:n+k<ops.size:=E0;have at?:∀i,i<ops.size->ops[i]?=Gn (ops.getD i default):=fun i hi=>by simp[Array.getD,hi]
  have hr:rdy m ops L=[n+k]:=by
   refine BM hx (vz.2 ⟨by rw[QC E0];exact hf _ N8,_,at? _ hx,fun e he _=>ht _ (h3 _ E0 hx e he)⟩) fun i hi Yp=>?_;cases hb:YC m ops L i with
   |false=>rfl
   |true=>
    exfalso;obtain⟨b1,o,b2,b3⟩:=vz.1 hb;rw[at? i hi]at b2;cases b2;rw[QC E0]at b1;by_cases yo:i<n+k
    ·rw[ht i yo]at b1;cases b1
    ·obtain⟨e,he,hb,hon⟩:=h4 i E0 hi;have:=b3 e he hb;rw[hf e.on E0]at this;cases this
  rw [go_succ,hr];simp only [List.length_singleton,Nat.mod_one,Nat.div_one,List.getElem?_cons_zero];rw [linearise_go_acc,ih (k+1) t (L.setIfInBounds (n+k) Um) E0 (by simpa using hL) (fun i hi=>by
    rw[Jy E0];split
    ·rfl
    ·exact ht i E0) (fun i hi=>by
    rw[Jy E0,if_neg E0];exact hf i E0)]
  rw[List.range_succ_eq_map];simp only[List.reverse_singleton,List.singleton_append,List.map_cons,List.map_map,Nat.add_zero,List.cons.injEq,true_and];apply List.map_congr_left;intro a _;simp only[Function.comp];omega
def E_:Nat->Array Bool->Nat
 |0,_=>0
 |n+1,L=>E_ n L+(if L.getD n Tm then 0 else 1)
theorem H_{L:Array Bool}:∀{n:Nat},(∀i,i<n->L.getD i Tm=Um)->E_ n L=0
 |0,_=>rfl
 |n+1,h=>by
  unfold E_;rw[H_ fun i hi=>h i E0,h n E0];rfl
theorem GU{L:Array Bool}:∀{n:Nat},E_ n L=0->∀i,i<n->L.getD i Tm=Um
 |0,_,i,hi=>absurd hi E0
 |n+1,h,i,hi=>by
  unfold E_ at h;cases hb:L.getD n Tm with
  |false=>simp[hb]at h
  |true=>
   rw[hb]at h;by_cases e:i=n
   ·rw[e];exact hb
   ·exact GU X2 i E0
theorem FU{L:Array Bool}:∀{n:Nat},(∀i,i<n->L.getD i Tm=Tm)->E_ n L=n
 |0,_=>rfl
 |n+1,h=>by
  unfold E_;rw[FU fun i hi=>h i E0,h n E0];rfl
theorem dQ{L:Array Bool}{i:Nat}(hL:i<L.size):∀{n:Nat},n<=i->E_ n (L.setIfInBounds i Um)=E_ n L
 |0,_=>rfl
 |n+1,h=>by
  unfold E_;have e:(L.setIfInBounds i Um).getD n Tm=L.getD n false:=by rw[Jy hL,if_neg E0]
  rw[dQ hL E0,e]
theorem I_{L:Array Bool}{i:Nat}(hL:i<L.size)(hf:L.getD i Tm=Tm):∀{n:Nat},i<n->E_ n (L.setIfInBounds i Um)+1=E_ n L
 |0,h=>absurd h E0
 |n+1,h=>by
  unfold E_;by_cases e:i=n
  ·subst e;have e1:(L.setIfInBounds i Um).getD i Tm=true:=by rw[Jy hL,if_pos rfl]
   rw[dQ hL (Om _),e1,hf];rfl
  ·have e1:(L.setIfInBounds i Um).getD n Tm=L.getD n false:=by rw[Jy hL,if_neg e]
   rw[e1,<-I_ hL hf (n:=n) E0];omega
theorem U70{n:Nat}(hn:n<ops.size)(h1:∀i,i<n->∀e∈(ops.getD i default).after,e.on<i)(h2:∀i,i<n->∃j,i<j/\j<=n/\∃e∈(ops.getD j default).after,Region.binds m e=Um/\e.on=i)
  (h3:∀i,n<=i->i<ops.size->∀e∈(ops.getD i default).after,e.on<i)(h4:∀i,n<i->i<ops.size->∃e∈(ops.getD i default).after,Region.binds m e=Um/\e.on+1=i):
  ∀(fuel t:Nat)(LA LB:Array Bool),LA.size=n->LB.size=ops.size->(∀i,i<n->LB.getD i Tm=LA.getD i Tm)->(∀i,n<=i->LB.getD i Tm=Tm)->
   (∀i,i<n->LA.getD i Tm=Um->∀e∈(ops.getD i default).after,Region.binds m e=Um->LA.getD e.on Tm=Um)->E_ n LA=fuel->
   Region.linearise.go m ops (fuel+(ops.size-n)) t LB []=Region.linearise.go m (ops.extract 0 n) fuel t LA []++(Hm (ops.size-n)).map (n+·):=by
 have at?:∀i,i<ops.size->ops[i]?=Gn (ops.getD i default):=fun i hi=>by simp[Array.getD,hi]
 have atA:∀i,i<n->(ops.extract 0 n)[i]?=Gn (ops.getD i default):=fun i hi=>by
  rw[<-at? i E0];simp[Array.getElem?_extract];omega
 have O90:(ops.extract 0 n).size=n:=by simp;omega
 intro fuel;induction fuel with
 |zero=>
  intro t LA LB hA hB YR hhi fL hc;have dy:=GU hc;have:=Db0 (m:=m) h3 h4 (ops.size-n) 0 t LB E0 hB (fun i hi=>by rw[YR i E0];exact dy i E0) (fun i hi=>hhi i E0);rw[Nat.zero_add,this];simp[Region.linearise.go]
 |succ fuel ih=>
  intro t LA LB hA hB YR hhi fL hc;obtain⟨x,hx,hxf,SY⟩:∃x,x<n/\LA.getD x Tm=Tm/\∀i,i<x->LA.getD i Tm=true:=by
   rcases iJ (fun i=>LA.getD i Tm=Um) n with h|⟨j,hj,hjf,hjl⟩
   ·rw[H_ h]at hc;omega
   ·exact⟨j,hj,by simpa using hjf,hjl⟩
  have af0:∀i,i<n->YC m ops LB i=YC m (ops.extract 0 n) LA i:=fun i hi=>by
   have e:YC m ops LB i=Um↔YC m (ops.extract 0 n) LA i=true:=by
    rw[vz,vz,at? i E0,atA i hi,QC E0,QC E0,YR i hi];constructor
    ·rintro⟨a,o,ho,b⟩;cases ho;exact⟨a,_,rfl,fun e he hb=>by rw[<-YR _ (by have:=h1 i hi e he;omega)];exact b e he hb⟩
    ·rintro⟨a,o,ho,b⟩;cases ho;exact⟨a,_,rfl,fun e he hb=>by rw[YR _ (by have:=h1 i hi e he;omega)];exact b e he hb⟩
   cases p:YC m ops LB i<;>cases q:YC m (ops.extract 0 n) LA i<;>simp_all
  have Uj0:∀i,n<=i->i<ops.size->YC m ops LB i=false:=fun i hi his=>by
   cases hb:YC m ops LB i with
   |false=>rfl
   |true=>
    exfalso;obtain⟨b1,o,b2,b3⟩:=vz.1 hb;rw[at? i his]at b2;cases b2;by_cases e:i=n
    ·subst e;have dy:∀d y,y<i->i-y<=d->LA.getD y Tm=true:=by
      intro d;induction d with
      |zero=>intro y hy hd;omega
      |succ d ihd=>
       intro y hy hd;obtain⟨j,hj1,hj2,e,he,hbe,hon⟩:=h2 y hy;by_cases ej:j=i
       ·subst ej;have:=b3 e he hbe;rw[hon,YR y hy]at this;exact Vh
       ·have:=fL j E0 (ihd j E0 E0) e he hbe;rw[hon]at this;exact Vh
     rw[dy (i-x) x hx (Om _)]at hxf;cases hxf
    ·obtain⟨e,he,hbe,hon⟩:=h4 i E0 his;have:=b3 e he hbe;rw[hhi e.on E0]at this;cases this
  have hr:rdy m ops LB=rdy m (ops.extract 0 n) LA:=by
   unfold rdy;rw[O90,show ops.size=n+(ops.size-n)by omega,List.range_add,List.filter_append];have e2:((Hm (ops.size-n)).map (n+·)).filter (YC m ops LB)=[]:=List.filter_eq_nil_iff.2 fun i hi=>by
    obtain⟨y,hy,rfl⟩:=List.mem_map.1 hi;have:=List.mem_range.1 hy;rw[Uj0 (n+y) E0 E0];simp
   rw[e2,List.append_nil];exact List.filter_congr fun i hi=>af0 i (List.mem_range.1 hi)
  have hxr:x∈rdy m (ops.extract 0 n) LA:=List.mem_filter.2 ⟨List.mem_range.2 E0,vz.2 ⟨by rw[QC E0];exact hxf,_,atA x hx,fun e he _=>SY _ (h1 x hx e he)⟩⟩;have mJ:0<(rdy m (ops.extract 0 n) LA).length:=List.length_pos_of_mem hxr;obtain⟨i,hi⟩:∃i,(rdy m (ops.extract 0 n) LA)[t%(rdy m (ops.extract 0 n) LA).length]?=Gn i:=⟨_,List.getElem?_eq_getElem (Nat.mod_lt _ mJ)⟩;have him:=List.mem_filter.1 (List.mem_of_getElem? hi);have iu:i<n:=by have:=List.mem_range.1 him.1;omega
  obtain⟨i1,o,i2,i3⟩:=vz.1 him.2;rw[atA i iu]at i2;cases i2;rw[QC E0]at i1;rw[show fuel+1+(ops.size-n)=(fuel+(ops.size-n))+1 by omega,go_succ,go_succ,hr,hi];simp only[];rw[linearise_go_acc,linearise_go_acc m (ops.extract 0 n),ih _ (LA.setIfInBounds i Um) (LB.setIfInBounds i Um) (by simpa using hA) (by simpa using hB)
   (fun j hj=>by rw[Jy E0,Jy E0,YR j hj]) (fun j hj=>by rw[Jy E0,if_neg E0];exact hhi j hj)
   (fun j hj hjt e he hb=>by
    rw[Jy E0]at hjt ⊢;split
    ·rfl
    ·by_cases ej:i=j
     ·subst ej;exact i3 e he hb
     ·rw[if_neg ej]at hjt;exact fL j hj hjt e he hb)
   (by have:=I_ (L:=LA) (i:=i) E0 i1 (n:=n) iu;omega)]
  simp
theorem RN{n:Nat}(hn:n<ops.size)(hh:hangs .any ops n=Um)(t:Nat):Region.schedule Um ops t=Region.schedule Um (ops.extract 0 n) t++(Hm (ops.size-n)).map (n+·):=by
 have O90:(ops.extract 0 n).size=n:=by simp;omega
 unfold hangs at hh;simp only [Bool.and_eq_true,List.all_eq_true,List.any_eq_true,List.mem_range,Bool.or_eq_true,decide_eq_true_eq,Array.all_eq_true_iff_forall_mem,Array.mem_toList_iff,beq_iff_eq] at hh;obtain ⟨ha,hb⟩:=hh;have key:=U70 (m:=.any) hn (fun i hi e he=>(ha i hi).1 e he) (fun i hi=>by
   obtain⟨j,hj,hij,e,he,hb,hon⟩:=(ha i hi).2;exact⟨j,hij,E0,e,he,hb,hon⟩)
  (fun i hi his e he=>by
   rcases hb i his with h|h
   ·omega
   ·exact h.1 e he)
  (fun i hi his=>by
   rcases hb i his with h|h
   ·omega
   ·rcases h.2 with h|⟨e,he,hb,hon⟩
    ·omega
    ·exact⟨e,he,hb,hon⟩)
  n t (Array.replicate n Tm) (Array.replicate ops.size Tm) P0 P0 (fun i hi=>by simp[Array.getD]) (fun i hi=>by simp[Array.getD]) (fun i hi h=>by simp[Array.getD]at h) (FU fun i hi=>by simp[Array.getD])
 unfold Region.schedule;simp only[Bool.true_or,if_true];unfold Region.linearise;rw[O90,<-key,show n+(ops.size-n)=ops.size by omega]
def guarded(ops:Array Oper)(n:Nat):Bool:=(Hm n).all fun i=>match (ops.getD i default).guard with
 |none=>Um
 |some (g,_)=>decide (g<n)
theorem vO{n:Nat}(hn:n<ops.size)(hg:guarded ops n=Um):Alike (ops.extract 0 n) ops:=fun i o ho=>by
 have hi:i<n:=by
  have:=(Array.getElem?_eq_some_iff.1 ho).1;simp at this;omega
 have jr:∀j,j<n->(ops.extract 0 n)[j]?=ops[j]?:=fun j hj=>by simp[Array.getElem?_extract];omega
 rw[jr i hi]at ho;refine⟨ho,fun tmps=>?_⟩;unfold guarded at hg;have hgi:=(List.all_eq_true.1 hg) i (List.mem_range.2 hi);have:ops.getD i default=o:=by
  rw[Array.getD_eq_getD_getElem?,ho];rfl
 rw[this]at hgi;unfold Region.wanted;cases lS:o.guard with
 |none=>rfl
 |some x=>
  obtain⟨g,b⟩:=x;rw[lS]at hgi;have yo:g<n:=by simpa using hgi
  unfold yielded;simp only[jr g yo]
end
section
variable {P:Ym}
theorem x20{fr:Xm}{v:Dn}{w:En}(hl:fr.leaving P w (.returned v))(hi:P.inits.idxOf? fr.fn=Hn):∃es,stepG P Um (G fr []) w=.ended (.done v) w es/\∀e∈es,yv e:=by
 obtain⟨hm,hd,hk,fn,hf,hr⟩:=hl;have ho:=LD (P:=P) fn fr.tmps;obtain⟨_,s2⟩:=ly P _ w #[] ho P0;refine⟨seen P fr.fn ((results fn fr.tmps).runT P w #[]).2,?_,Ut s2⟩;rw[zt (by rw[hm];simp)];have LY:((results fn fr.tmps).runT P w #[]).1=.ok v w:=by rw[Sem.runT_fst];exact hr
 unfold unwind;cases hx:(results fn fr.tmps).runT P w #[]with
 |mk r es=>
  rw[hx]at LY;simp only at LY;subst LY;simp only[hd,hm,hf,hx,doReturn,hk,hi,GStep.after];simp
theorem BG:∀{N:Nat}{m:Machine}{t t':Trace}{m':Machine},runNT P N m t=(.next m',t')->runN P N m=.next m'
 |0,m,t,t',m',h=>by
  simp only[runNT]at h;cases h;rfl
 |N+1,m,t,t',m',h=>by
  simp only[runNT]at h;simp only[runN];split at h
  ·rename_i mm ops hs
   have:step P m=.next mm:=by unfold step;rw[hs]
   rw[this];exact BG h
  ·rename_i hx _
   simp only[Prod.mk.injEq]at h;exact absurd h.1 (hx _)
theorem PZ{N:Nat}{m mm:Machine}{t ops:Trace}(h:stepT P m=(.next mm,ops)):runNT P (N+1) m t=runNT P N mm (t++ops):=by simp only[runNT,h]
theorem QZ{N:Nat}{m m':Machine}{t t' ops:Trace}{o:Outcome}{w':En}(h:runNT P N m t=(.next m',t'))(hs:stepT P m'=(.ended o w',ops)):runNT P (N+1) m t=(.ended o w',t'++ops):=by
 induction N generalizing m t with
 |zero=>
  simp only[runNT]at h;cases h;simp only[runNT,hs]
 |succ N ih=>
  cases hm:stepT P m with
  |mk s Yk0=>
   cases s with
   |next mm=>
    rw[PZ hm]at h ⊢;exact ih h
   |ended o w=>
    simp only[runNT,hm]at h;cases h
theorem k10{Post:Dn->En->Prop}{fr:Xm}{v:Dn}{w:En}(hl:∀d,fr.leaving P (w.at d) (.returned v))(hi:P.inits.idxOf? fr.fn=Hn)(hp:∀d,Post v (w.at d)):
  ∀(gs:Array zn)(sl:Option (Nat×Nat))(t:Trace)(q:Nat->Nat)(d:Nat),gs[0]?=Gn (G fr [])->Leavers P t gs q->Xv t->
   ∃N qJ t₁ o w' ops,runNT P N (crowd gs (w.at d) sl) t=(.next qJ,t₁)/\stepT P qJ=(.ended o w',ops)/\Go.Conc.Good P Post qJ o w' (t₁++ops):=by
 intro gs sl t q;generalize hM:Go.ConcN.sumTo gs.size q=M;induction M using Nat.strongRecOn generalizing gs sl t q with
 |_ M ihM=>
  intro d h0 hL hP;obtain⟨i,g,d',sl',jO,hg,Ht⟩:=crowd_pick (P:=P) (w:=w.at d) (sl:=sl) (AG hL h0 rfl) ⟨0,_,h0,rfl⟩;by_cases AE:i=0
  ·subst AE;obtain rfl:g=G fr []:=by rw[h0]at jO;exact(Option.some.inj jO).symm
   obtain⟨es,kV,Eu⟩:=x20 (hl d') hi;have Pv:=runT_many_ended (P:=P) (sl:=sl') (i:=0) h0 (show stepG P (0==0) (G fr []) ((w.at d).at d')=_ from kV);have hP':=hP.own (fn:=(G fr []).frame.fn) (pos:=(G fr []).frame.place) Eu;refine⟨0,_,t,_,_,_,rfl,Ht.trans Pv,v,rfl,hp d',hP'.clean,hP'.over,⟨fun x hx=>?_,rfl⟩,fun j x hx hj=>?_⟩
   ·obtain⟨j,hj⟩:=List.mem_iff_getElem?.1 hx;rw[List.getElem?_drop]at hj;exact⟨_,(hL.old (1+j) x E0 (by simpa[crowd]using hj)).leaves⟩
   ·have hq:=hL.old j x E0 hx;refine⟨q j,?_⟩;have e:(t++MemOp.ofEvents 0 (G fr []).frame.fn (G fr []).frame.place es).deaf j (t++MemOp.ofEvents 0 (G fr []).frame.fn (G fr []).frame.place es).size=Deaf t j:=
     Deaf_other t (g:=j) (g':=0) E0 _ Vp
    rw[e];exact hq.hears _
  ·obtain⟨dr,ops,q',e1,e2,e3,e4,e5,e6⟩:=pI (w:=(w.at d).at d') (sl:=sl') hL hP h0 rfl jO hg E0;obtain⟨N,qJ,t₁,o,w',Yk0,k1,k2,k3⟩:=ihM _ E0 dr sl' (t++ops) q' rfl d' e3 e4 e5;exact⟨N+1,qJ,t₁,o,w',Yk0,by simp only[runNT,Ht,e1];exact k1,k2,k3⟩
theorem Ip.good{f:FuncId}{args:Array Dn}{W:En}{R:Dn->En->Prop}{Post:Dn->En->Prop}(h:Ip P f args W R)(hi:P.inits.idxOf? f=Hn)(hp:∀v w' d,R v w'->Post v (w'.at d)):
  ∃M qJ o w' t',runNT P (M+1) (solo (G (Frame.enter P f args .normal) []) W) #[]=(.ended o w',t')/\runN P M (solo (G (Frame.enter P f args .normal) []) W)=.next qJ/\step P qJ=.ended o w'/\Go.Conc.Good P Post qJ o w' t':=by
 have JA:=h [] (fun g w'=>∃fr v w₀ d,w'=World.at w₀ d/\g=G fr []/\fr.fn=f/\(∀d,fr.leaving P (w₀.at d) (.returned v))/\R v w₀) fun fr v w' hf hl hR=>.done fun d=>⟨fr,v,w',d,rfl,rfl,hf,hl,hR⟩;obtain⟨N,dr,a',w',sl',t',q',h1,_,h3,⟨fr,v,w₀,d,rfl,rfl,hf,hl,hR⟩,h5,h6⟩:=JA #[G (Frame.enter P f args .normal) []] Option.none #[] (fun _=>0) W.drawn rfl (leavers_one _ _) Z20;obtain⟨M,qJ,t₁,o,w',ops,k1,k2,k3⟩:=k10 (Post:=Post) hl (by rw[hf];exact hi) (fun d=>hp v w₀ d hR) dr sl' t' q' d h3 h5 h6;have dy:=ND h1 k1;refine⟨N+M,qJ,o,w',t₁++ops,QZ dy k2,BG dy,by unfold step;rw[k2],k3⟩
end
end Go.Proofs.YtdoghgnifkgfdaaGreat.Mute
