import Derived.Test.YtdoghgnifkgfdaaGreatA00
set_option maxRecDepth 100000
set_option maxHeartbeats 16000000
open Option renaming none->Hn,some->Gn
open Go renaming World->En,Value->Dn,undef->Bn,Program->Ym,Frame->Xm,Addr->Vm
open Bool renaming true->Um,false->Tm
open List renaming range->Hm
open Array renaming getElem?_eq_getElem->Bm
namespace Go.Proofs.YtdoghgnifkgfdaaGreat
open Tryz
def xq(w:En)(τ:Nat->Question->Nat)(d:Nat):World:={w with tape:=τ,drawn:=d}
def reR{α:Type}(τ:Nat->Question->Nat)(d:Nat):Result α->Result α
 |.ok a w=>.ok a (xq w τ d)
 |.halt h w=>.halt h (xq w τ d)
def E00{α:Type}:Result α->En
 |.ok _ w=>w
 |.halt _ w=>w
namespace Mute
def aR:Halt->Prop
 |.panic _|.unsupported _|.stuck _=>True
 |_=>False
def Ok(P:Ym){α:Type}(L:α->Prop):Sem α->Prop
 |.pure a=>L a
 |.load _ _ k=>∀v,Ok P L (k v)
 |.store _ _ _ k=>Ok P L k
 |.new _ k=>∀r,Ok P L (k r)
 |.shape _ k=>∀s,Ok P L (k s)
 |.freeze _ _ k=>Ok P L k
 |.frozen _ k=>∀b,Ok P L (k b)
 |.getObj _ k=>∀o,Ok P L (k o)
 |.setObj _ _ k=>Ok P L k
 |.choose _ k=>∀n,Ok P L (k n)
 |.sys _ _=>False
 |.program k=>Ok P L (k P)
 |.mark m k=>(m≠.disable/\m≠.enable)/\Ok P L k
 |.halt h=>aR h
def T{α:Type}(_:α):Prop:=True
section
variable {P:Ym}{α β:Type}
theorem Ok.bind{L:α->Prop}{M:β->Prop}{f:α->Sem β}(hf:∀a,L a->Ok P M (f a)):∀{s:Sem α},Ok P L s->Ok P M (s.bind f)
 |.pure a,h=>hf a h
 |.load _ _ _,h=>fun v=>Ok.bind hf (h v)
 |.store _ _ _ k,h=>Ok.bind hf (s:=k) h
 |.new _ _,h=>fun r=>Ok.bind hf (h r)
 |.shape _ _,h=>fun r=>Ok.bind hf (h r)
 |.freeze _ _ k,h=>Ok.bind hf (s:=k) h
 |.frozen _ _,h=>fun r=>Ok.bind hf (h r)
 |.getObj _ _,h=>fun r=>Ok.bind hf (h r)
 |.setObj _ _ k,h=>Ok.bind hf (s:=k) h
 |.choose _ _,h=>fun r=>Ok.bind hf (h r)
 |.sys _ _,h=>h.elim
 |.program k,h=>Ok.bind hf (s:=k P) h
 |.mark _ k,h=>⟨h.1,Ok.bind hf (s:=k) h.2⟩
 |.halt _,h=>h
theorem Ok.nu{M:β->Prop}{s:Sem α}{f:α->Sem β}(h:Ok P T s)(hf:∀a,Ok P M (f a)):Ok P M (s >>= f):=Ok.bind (L:=T) (fun a _=>hf a) h
theorem Ok.YJ{L:α->Prop}{M:β->Prop}{s:Sem α}{f:α->Sem β}(h:Ok P L s)(hf:∀a,L a->Ok P M (f a)):Ok P M (s >>= f):=Ok.bind hf h
theorem Ok.bl0(a:α):Ok P T (pure a:Sem α):=trivial
theorem Ok.map{s:Sem α}(f:α->β)(h:Ok P T s):Ok P T (f <$> s):=Ok.nu (P:=P) (M:=T) (f:=fun a=>pure (f a)) h fun _=>trivial
end
section
variable {P:Ym}
theorem f00(a:Vm)(m:Mode):Ok P T (load a m):=fun _=>trivial
theorem da0(a:Vm)(v:Dn)(m:Mode):Ok P T (store a v m):=trivial
theorem H20(o:Obj):Ok P T (newObj o):=fun _=>trivial
theorem M90(r:Nat):Ok P T (shape r):=fun _=>trivial
theorem E10(a:Vm)(n:Nat):Ok P T (freeze a n):=trivial
theorem G10(a:Vm):Ok P T (frozen a):=fun _=>trivial
theorem iQ(r:Nat):Ok P T (getObj r):=fun _=>trivial
theorem L30(r:Nat)(o:Obj):Ok P T (setObj r o):=trivial
theorem b10(q:Question):Ok P T (choose q):=fun _=>trivial
theorem ZG:Ok P T program:=trivial
theorem Uy{α:Type}(s:String):Ok P T (stuck s:Sem α):=trivial
theorem GF{α:Type}(u:Unsupported):Ok P T (unsupported u:Sem α):=trivial
theorem FM{α:Type}(v:Dn):Ok P T (goPanic v:Sem α):=trivial
theorem WX(n:Nat):Ok P T (askRoom n):=by
 unfold askRoom;split
 ·exact⟨⟨P0,P0⟩,trivial⟩
 ·exact trivial
end
def XD{α:Type}(p:Ym)(s:Sem α)(w:En)(es:Array Event):Prop:=
 ∃n,(E00 (s.runT p w es).1).tape=w.tape/\(E00 (s.runT p w es).1).drawn=w.drawn+n/\
  ∀τ d,(∀k,k<n->τ (d+k)=w.tape (w.drawn+k))->s.runT p (xq w τ d) es=(reR τ (d+n) (s.runT p w es).1,(s.runT p w es).2)
theorem n00(w:En)(τ:Nat->Question->Nat)(d:Nat)(a:Vm):(xq w τ d).cell? a=w.cell? a:=rfl
theorem j30(w:En)(τ:Nat->Question->Nat)(d:Nat)(a:Vm):(xq w τ d).frozen? a=w.frozen? a:=rfl
theorem CZ(p:Ym)(w:En)(τ:Nat->Question->Nat)(d:Nat)(a:Vm)(b:Bool):(xq w τ d).farLoad p a b=w.farLoad p a b:=rfl
theorem DZ(w:En)(τ:Nat->Question->Nat)(d:Nat)(a:Vm)(v:Dn):(xq w τ d).setCell a v=xq (w.setCell a v) τ d:=rfl
theorem h30(w:En)(τ:Nat->Question->Nat)(d:Nat)(a:Vm)(n:Nat):(xq w τ d).freeze a n=xq (w.freeze a n) τ d:=by
 unfold World.freeze;split<;>rfl
theorem zT(p:Ym)(w:En)(τ:Nat->Question->Nat)(d:Nat)(a b:Vm)(t:TypeId)(v:Dn)(at_:Bool):(xq w τ d).viewStore p a t b v at_=(w.viewStore p a t b v at_).map (fun x=>(xq x.1 τ d,x.2)):=by
 have hs:(xq w τ d).seen p a t b at_=w.seen p a t b at_:=rfl;unfold World.viewStore;rw[hs];cases tight p p.depth t with
 |false=>rfl
 |true=>
  cases w.seen p a t b at_ with
  |error e=>rfl
  |ok r=>
   obtain⟨c,e,fz,first,like,cells⟩:=r;cases hb:v.bytes? with
   |none=>rfl
   |some bytes=>
    simp only[bind,Except.bind,pure,Except.pure,Bool.not_true,Bool.false_eq_true,if_false];split
    ·rfl
    ·split<;>rfl
theorem yK(p:Ym)(w:En)(τ:Nat->Question->Nat)(d:Nat)(a:Vm)(v:Dn)(b:Bool):(xq w τ d).farStore p a v b=(w.farStore p a v b).map (fun x=>(xq x.1 τ d,x.2)):=by
 have hh:(xq w τ d).heap=w.heap:=rfl;unfold World.farStore;rw[hh];split
 ·rw[zT];cases w.viewStore p _ _ a v b<;>rfl
 ·rfl
theorem QO{p:Ym}{w w':En}{a:Vm}{v:Dn}{b:Bool}{l:List Vm}(h:w.farStore p a v b=.ok (w',l)):w'.tape=w.tape/\w'.drawn=w.drawn:=by
 have e:=yK p w w.tape w.drawn a v b;have e0:xq w w.tape w.drawn=w:=rfl;rw[e0,h]at e;have e1:w'=xq w' w.tape w.drawn:=congrArg Prod.fst (Except.ok.inj e);have t1:w'.tape=(xq w' w.tape w.drawn).tape:=congrArg World.tape e1;have t2:w'.drawn=(xq w' w.tape w.drawn).drawn:=congrArg World.drawn e1;exact⟨t1,t2⟩
theorem kZ{α:Type}(p:Ym)(a:α)(w:En)(es:Array Event):XD p (.pure a) w es:=⟨0,rfl,rfl,fun _ _ _=>rfl⟩
theorem jZ{α:Type}(p:Ym)(h:Halt)(w:En)(es:Array Event):XD (α:=α) p (.halt h) w es:=⟨0,rfl,rfl,fun _ _ _=>rfl⟩
theorem OD{α:Type}(p:Ym){L:α->Prop}:∀(s:Sem α)(w:En)(es:Array Event),Ok p L s->XD p s w es:=by
 intro s;induction s with
 |pure a=>exact fun w es _=>kZ p a w es
 |load m a k ih=>
  intro w es h;unfold XD;simp only[Sem.runT,n00,CZ];cases hc:w.cell? a with
  |some v=>exact ih v w _ (h v)
  |none=>
   cases hf:w.farLoad p a (m==.atomic)with
   |ok r=>exact ih r.1 w _ (h r.1)
   |error e=>exact⟨0,rfl,rfl,fun _ _ _=>rfl⟩
 |store m a v k ih=>
  intro w es h;have go:∀(hv:∀c,v≠.agg c)(ht:∀c,v≠.tuple c),XD p (.store m a v k) w es:=fun hv ht=>by
   have e:∀(w:En),Sem.runT p (.store m a v k) w es=(match w.cell? a with
    | some _ => if w.frozen? a then (.halt (.unsupported (.unsafePointer "a write to bytes that a string shares")) w, es) else k.runT p (w.setCell a v) (es.push ⟨.cell a, Um, m == .atomic⟩)
    |none=>match w.farStore p a v (m==.atomic)with
     |.ok (w,touched)=>k.runT p w (es++touched.toArray.map (⟨.cell ·,Um,m==.atomic⟩))
     |.error h=>(.halt h w,es)):=fun w=>by
    cases v<;>first|rfl|exact absurd rfl (hv _)|exact absurd rfl (ht _)
   unfold XD;simp only[e,n00,j30,yK,DZ];cases hc:w.cell? a with
   |some x=>
    simp only[];by_cases hz:w.frozen? a=Um
    ·simp only[hz,if_true];exact⟨0,rfl,rfl,fun _ _ _=>rfl⟩
    ·simp only[hz];exact ih (w.setCell a v) _ h
   |none=>
    simp only[];cases hf:w.farStore p a v (m==.atomic)with
    |ok r=>
     obtain⟨w',l⟩:=r;have hk:=QO hf;have hx:=ih w' (es++l.toArray.map (⟨.cell ·,Um,m==.atomic⟩)) h;unfold XD at hx;rw[hk.1,hk.2]at hx;exact hx
    |error e=>exact⟨0,rfl,rfl,fun _ _ _=>rfl⟩
  cases v with
  |agg c=>exact⟨0,rfl,rfl,fun _ _ _=>rfl⟩
  |tuple c=>exact⟨0,rfl,rfl,fun _ _ _=>rfl⟩
  |_=>exact go P0 P0
 |new o k ih=>intro w es h;exact ih _ {w with heap:=w.heap.push o} es (h _)
 |shape r k ih=>intro w es h;exact ih _ w es (h _)
 |freeze a n k ih=>
  intro w es h;unfold XD;simp only[Sem.runT,h30];have:=ih (w.freeze a n) es h;unfold XD at this;have e1:(w.freeze a n).tape=w.tape:=by unfold World.freeze;split<;>rfl
  have e2:(w.freeze a n).drawn=w.drawn:=by unfold World.freeze;split<;>rfl
  rw[e1,e2]at this;exact this
 |frozen a k ih=>intro w es h;exact ih _ w es (h _)
 |getObj r k ih=>
  intro w es h;unfold XD;simp only[Sem.runT];have hh:∀τ d,(xq w τ d).heap=w.heap:=fun _ _=>rfl;simp only[hh];cases ho:w.heap[r]? with
  |none=>exact⟨0,rfl,rfl,fun _ _ _=>rfl⟩
  |some o=>
   cases o with
   |cells c e f=>exact⟨0,rfl,rfl,fun _ _ _=>rfl⟩
   |_=>exact ih _ w _ (h _)
 |setObj r o k ih=>
  intro w es h;unfold XD;simp only[Sem.runT];have hh:∀τ d,(xq w τ d).heap=w.heap:=fun _ _=>rfl;simp only[hh];cases ho:w.heap[r]? with
  |none=>exact⟨0,rfl,rfl,fun _ _ _=>rfl⟩
  |some x=>
   cases x with
   |cells c e f=>exact⟨0,rfl,rfl,fun _ _ _=>rfl⟩
   |_=>exact ih {w with heap:=w.heap.setIfInBounds r o} _ h
 |choose q k ih=>
  intro w es h;unfold XD;simp only[Sem.runT];by_cases hq:q.forced=Um
  ·simp only[hq,if_true];exact ih 0 w es (h 0)
  ·simp only[hq];obtain⟨n,h1,h2,h3⟩:=ih (q.cut (w.tape w.drawn q)) {w with drawn:=w.drawn+1} es (h _);refine⟨n+1,h1,?_,fun τ d ha=>?_⟩
   ·show _=w.drawn+(n+1);have h2':_=w.drawn+1+n:=h2;exact h2'.trans E0
   ·have e0:(xq w τ d).tape (xq w τ d).drawn q=w.tape w.drawn q:=by
     have:=ha 0 E0;simp only[Nat.add_zero]at this;exact congrFun this q
    show Sem.runT p (k (q.cut ((xq w τ d).tape (xq w τ d).drawn q))) {xq w τ d with drawn:=d+1} es=_;rw[e0];have:=h3 τ (d+1) (fun j hj=>by
     have hx:=ha (j+1) E0;show τ (d+1+j)=w.tape (w.drawn+1+j);rw[show d+1+j=d+(j+1)by omega,show w.drawn+1+j=w.drawn+(j+1)by omega];exact hx)
    rw[show d+(n+1)=d+1+n by omega];exact Vh
 |sys c k ih=>intro w es h;exact h.elim
 |program k ih=>intro w es h;exact ih p w es h
 |mark m k ih=>intro w es h;exact ih w _ h.2
 |halt h=>exact fun w es _=>jZ p h w es
def yv(e:Event):Prop:=e.loc≠.mark .disable/\e.loc≠.mark .enable
def cd0{α:Type}(L:α->Prop):Result α->Prop
 |.ok a _=>L a
 |.halt h _=>aR h
theorem LR{p:Ym}{w:En}{a:Vm}{b:Bool}{h:Halt}(e:w.farLoad p a b=.error h):aR h:=by
 unfold World.farLoad at e;split at e
 ·split at e
  ·cases e
  ·cases e;trivial
 ·cases e;unfold World.noCell;split<;>trivial
theorem PO{p:Ym}{w:En}{a:Vm}{v:Dn}{b:Bool}{h:Halt}(e:w.farStore p a v b=.error h):aR h:=by
 unfold World.farStore at e;split at e
 ·split at e
  ·cases e
  ·cases e;trivial
 ·cases e;unfold World.noCell;split<;>trivial
theorem Gq(a:Vm)(wr sy:Bool):yv ⟨.cell a,wr,sy⟩:=⟨P0,P0⟩
theorem uM(r:Nat)(wr sy:Bool):yv ⟨.obj r,wr,sy⟩:=⟨P0,P0⟩
theorem SA{es:Array Event}{e:Event}(h:∀x∈es,yv x)(he:yv e):∀x∈es.push e,yv x:=fun x hx=>by
 rcases Array.mem_push.1 hx with hx|rfl
 ·exact h x hx
 ·exact he
theorem tM{es:Array Event}(l:List Vm)(wr sy:Bool)(h:∀x∈es,yv x):∀x∈es++l.toArray.map (⟨.cell ·,wr,sy⟩),yv x:=fun x hx=>by
 rcases Array.mem_append.1 hx with hx|hx
 ·exact h x hx
 ·obtain⟨a,_,rfl⟩:=Array.mem_map.1 hx;exact Gq a wr sy
theorem ly{α:Type}(p:Ym){L:α->Prop}:∀(s:Sem α)(w:En)(es:Array Event),Ok p L s->(∀e∈es,yv e)->cd0 L (s.runT p w es).1/\∀e∈(s.runT p w es).2,yv e:=by
 intro s;induction s with
 |pure a=>exact fun w es h he=>⟨h,he⟩
 |load m a k ih=>
  intro w es h he;simp only[Sem.runT];cases hc:w.cell? a with
  |some v=>exact ih v w _ (h v) (SA he (Gq _ _ _))
  |none=>
   cases hf:w.farLoad p a (m==.atomic)with
   |ok r=>exact ih r.1 w _ (h r.1) (tM _ _ _ he)
   |error e=>exact⟨LR hf,he⟩
 |store m a v k ih=>
  intro w es h he;have go:∀(hv:∀c,v≠.agg c)(ht:∀c,v≠.tuple c),cd0 L (Sem.runT p (.store m a v k) w es).1/\∀e∈(Sem.runT p (.store m a v k) w es).2,yv e:=fun hv ht=>by
   have e:∀(w:En),Sem.runT p (.store m a v k) w es=(match w.cell? a with
    | some _ => if w.frozen? a then (.halt (.unsupported (.unsafePointer "a write to bytes that a string shares")) w, es) else k.runT p (w.setCell a v) (es.push ⟨.cell a, Um, m == .atomic⟩)
    |none=>match w.farStore p a v (m==.atomic)with
     |.ok (w,touched)=>k.runT p w (es++touched.toArray.map (⟨.cell ·,Um,m==.atomic⟩))
     |.error h=>(.halt h w,es)):=fun w=>by
    cases v<;>first|rfl|exact absurd rfl (hv _)|exact absurd rfl (ht _)
   rw[e];cases hc:w.cell? a with
   |some x=>
    by_cases hz:w.frozen? a=Um
    ·simp only[hz,if_true];exact⟨trivial,he⟩
    ·simp only[hz];exact ih (w.setCell a v) _ h (SA he (Gq _ _ _))
   |none=>
    simp only[];cases hf:w.farStore p a v (m==.atomic)with
    |ok r=>exact ih r.1 _ h (tM _ _ _ he)
    |error e=>exact⟨PO hf,he⟩
  cases v with
  |agg c=>exact⟨trivial,he⟩
  |tuple c=>exact⟨trivial,he⟩
  |_=>exact go P0 P0
 |new o k ih=>intro w es h he;exact ih _ _ es (h _) he
 |shape r k ih=>intro w es h he;exact ih _ w es (h _) he
 |freeze a n k ih=>intro w es h he;exact ih _ es h he
 |frozen a k ih=>intro w es h he;exact ih _ w es (h _) he
 |getObj r k ih=>
  intro w es h he;simp only[Sem.runT];cases ho:w.heap[r]? with
  |none=>exact⟨trivial,he⟩
  |some o=>
   cases o with
   |cells c e f=>exact⟨trivial,he⟩
   |_=>exact ih _ w _ (h _) (SA he (uM _ _ _))
 |setObj r o k ih=>
  intro w es h he;simp only[Sem.runT];cases ho:w.heap[r]? with
  |none=>exact⟨trivial,he⟩
  |some x=>
   cases x with
   |cells c e f=>exact⟨trivial,he⟩
   |_=>exact ih _ _ h (SA he (uM _ _ _))
 |choose q k ih=>
  intro w es h he;simp only[Sem.runT];split
  ·exact ih 0 w es (h 0) he
  ·exact ih _ _ es (h _) he
 |sys c k ih=>intro w es h he;exact h.elim
 |program k ih=>intro w es h he;exact ih p w es h he
 |mark m k ih=>intro w es h he;exact ih w _ h.2 (SA he ⟨by simpa using h.1.1,by simpa using h.1.2⟩)
 |halt h=>exact fun w es hh he=>⟨hh,he⟩
theorem Ut{p:Ym}{f:FuncId}{es:Array Event}(h:∀e∈es,yv e):∀e∈seen p f es,yv e:=by
 unfold seen;obtain ⟨l⟩:=es;simp only [List.size_toArray,List.foldl_toArray'];have:∀(l:List Event) (q:Bool) (kept:Array Event),(∀e∈l,yv e)->(∀e∈kept,yv e)->
   ∀e∈(l.foldl (fun(x:Bool×Array Event) e=>match e.loc with
    |.mark (.extern f)=>((p.funcs[f]?).any (·.norace),x.2)
    |_=>(x.1,if x.1 && !e.sync then x.2 else x.2.push e)) (q,kept)).2,yv e:=by
  intro l;induction l with
  |nil=>exact fun q kept _ hk=>hk
  |cons a l ih=>
   intro q kept hl hk;simp only[List.foldl_cons];split
   ·exact ih _ _ (fun e he=>hl e (List.mem_cons_of_mem _ he)) hk
   ·refine ih _ _ (fun e he=>hl e (List.mem_cons_of_mem _ he)) ?_;show ∀e∈(if q && !a.sync then kept else kept.push a),yv e;split
    ·exact hk
    ·exact SA hk (hl a (List.mem_cons_self))
 exact this l _ _ (fun e he=>h e (by simpa using he)) P0
end Mute
end Go.Proofs.YtdoghgnifkgfdaaGreat
namespace Go.Proofs.YtdoghgnifkgfdaaGreat.Mute
open Tryz Go
section
variable {P:Ym}
theorem sF:Ok P T (mark .noRoom):=⟨⟨P0,P0⟩,trivial⟩
theorem cg0{α:Type}{L:α->Prop}{c:Prop}[Decidable c]{a b:Sem α}(h1:Ok P L a)(h2:Ok P L b):Ok P L (if c then a else b):=by split<;>assumption
theorem uD{α β:Type}(f:α->β->Sem (ForInStep β))(h:∀a b,Ok P T (f a b)):∀(xs:List α)(init:β),Ok P T (forIn xs init f)
 | [],_=>trivial
 |x::xs,b=>by
  rw[List.forIn_cons];refine Ok.nu (h x b) fun s=>?_;cases s with
  |done b=>exact trivial
  |yield b=>exact uD f h xs b
theorem ZO{α β:Type}(f:α->β->Sem (ForInStep β))(h:∀a b,Ok P T (f a b))(xs:Array α)(init:β):Ok P T (forIn xs init f):=by
 rw[<-Array.forIn_toList];exact uD f h _ _
theorem aP{β:Type}(f:Nat->β->Sem (ForInStep β))(h:∀a b,Ok P T (f a b))(r:Std.Legacy.Range)(init:β):Ok P T (forIn r init f):=by
 rw[Std.Legacy.Range.forIn_eq_forIn_range'];exact uD f h _ _
theorem rK{α β:Type}(f:α->Sem β)(h:∀a,Ok P T (f a)):∀(xs:List α),Ok P T (xs.mapM f)
 | []=>trivial
 |x::xs=>by
  rw[List.mapM_cons];exact Ok.nu (h x) fun _=>Ok.nu (rK f h xs) fun _=>trivial
theorem uI{α β:Type}(f:α->Sem β)(h:∀a,Ok P T (f a))(xs:Array α):Ok P T (xs.mapM f):=by
 rw[Array.mapM_eq_mapM_toList];exact Ok.map _ (rK f h _)
theorem mo{G:Prop}(h:G:=by repeat' first|(with_reducible first|exact Ok.bl0 _|exact ih _ _ _|exact ih _ _|exact Uy _|exact DG _|exact GF _|exact N30 _|exact M90 _|exact qE _|exact iQ _|exact VW _|exact b10 _|exact ZG|exact mc0 _ _ _|exact S90 _ _ _ _ _|exact mb0 _ _|exact iU _|exact dM _|exact L30 _ _|exact H20 _|exact J20 _ _|exact W00 _|exact X00 _ _ _ _|exact rb0 _ _|exact pb0 _ _|exact VJ _ _ _|exact UW _|exact O50 _|exact PS _ _|exact VX _|exact XK _|exact p_ _|exact DU _ _ _ _|exact qY _ _ _|exact G10 _|exact zW _ _|exact CG _ _ _|exact vJ _ _|exact bL _ _ _|exact qb0 _ _|exact mM _ _ _ _|exact rV _ _ _|exact OV _|exact L20 _|exact K80 _|exact dU _ _|exact uV _ _ _ _|exact bZ _ _ _ _|exact XO _ _ _ _|exact WU _ _ _ _|exact ob0 _ _ _ _|exact QN _ _|exact sJ _|exact AU _ _|exact eU _ _ _|exact PW _ _ _|exact SN _ _ _ _ _ _|exact WX _|exact nL _ _|exact R80 _|exact WO _ _ _|exact UU _ _ _|exact CM _ _ _|exact E10 _ _|exact aU _|exact EV _ _|exact f00 _ _|exact FM _|exact dJ _|exact W20 _ _ _|exact aQ _|exact vR _ _ _ _ _|exact g70 _ _ _|exact AZ _ _ _ _|exact XV _ _ _ _|exact cY _|exact WN _ _ _|exact F30 _|exact ER _ _ _ _|exact MX _ _ _|exact KX _ _ _|exact LX _ _ _|exact j20 _ _ _|exact k20 _ _ _ _|exact N90 _ _ _ _ _|exact QW _ _ _|exact rR _ _ _ _ _ _|exact OU _ _ _|exact sN _ _ _|exact pL _ _ _|exact XI _|exact dG _ _ _ _|exact YO _ _ _|exact mP _ _|exact vV _ _|exact jN _|exact MJ _|exact OJ _ _|exact QJ _ _|exact pN _ _|exact VO _ _|exact EP _ _ _|exact ZP _|exact pM _ _ _|exact S60 _|exact wG _ _ _ _|exact fP _ _|exact vM _ _|exact ZV _ _|exact FV _ _ _ _ _|exact sF|refine Ok.nu ?_ fun _=>?_|refine ZO _ (fun _ _=>?_) _ _|refine aP _ (fun _ _=>?_) _ _|refine uI _ (fun _=>?_) _|exact Ok.map _ (by assumption)|refine cg0 ?_ ?_|exact sF)|split|intro _|dsimp only|exact trivial):G:=h
theorem O50(r:Nat):Ok P T (viewAt r):=by
 unfold viewAt;exact mo
theorem OV(r:Nat):Ok P T (numberAt r):=by
 unfold numberAt;exact mo
theorem cY(r:Nat):Ok P T (cellsIn r):=by
 unfold cellsIn;exact mo
theorem AU(a:Vm)(b:Bool):Ok P T (asNumber a b):=by
 unfold asNumber;exact mo
theorem XK(a:Vm):Ok P T (behindNumber a):=by
 unfold behindNumber;exact mo
theorem L20(a:Vm):Ok P T (noView a):=by
 unfold noView;exact mo
theorem sJ(a:Vm):Ok P T (markStringish a):=by
 unfold markStringish;exact mo
theorem aU(a:Vm):Ok P T (stringish a):=by
 unfold stringish;exact mo
theorem EV(a b:Vm):Ok P T (mayBeOne a b):=by
 unfold mayBeOne;exact mo
theorem zW(a b:Vm):Ok P T (sameAddr a b):=by
 unfold sameAddr;exact mo
theorem QN(a b:Option Vm):Ok P T (samePointer a b):=by
 unfold samePointer;exact mo
section
variable (t:TypeId)
include t
theorem VW:Ok P T (typeInfo t):=by
 unfold typeInfo;exact mo
theorem DG:Ok P T (underlying t):=by
 unfold underlying;exact mo
theorem p_:Ok P T (typeStr t):=by
 unfold typeStr;exact mo
theorem iU:Ok P T (zeroValue t):=by
 unfold zeroValue;exact mo
theorem N30:Ok P T (Go.sizeOf t):=by
 unfold Go.sizeOf;exact mo
theorem K80:Ok P T (isAgg t):=by
 unfold isAgg;exact mo
end
theorem ZC(a:Vm):∀(n i:Nat)(acc:Array Dn),Ok P T (loadCellsFrom a i n acc)
 |0,_,_=>trivial
 |n+1,i,_=>Ok.nu (f00 _ _) fun _=>ZC a n (i+1) _
theorem PS(a:Vm)(n:Nat):Ok P T (loadCells a n):=ZC a n 0 _
theorem CG(a:Vm):∀(vs:List Dn)(i:Nat),Ok P T (storeCells a vs i)
 | [],_=>trivial
 |_::r,i=>Ok.nu (da0 _ _ _) fun _=>CG a r (i+1)
section
variable (t:TypeId)
include t
theorem pN(a:Vm):Ok P T (loadVar t a):=by
 unfold loadVar;exact mo
theorem PW(a:Vm)(v:Dn):Ok P T (storeVar t a v):=by
 unfold storeVar;exact mo
theorem J20(c:Array Dn):Ok P T (newRow t c):=by
 unfold newRow;exact mo
theorem vJ(v:Dn):Ok P T (newVar t v):=by
 unfold newVar;exact mo
theorem dJ:Ok P T (elemOf t):=by
 unfold elemOf;exact mo
theorem mc0(c:Array Dn)(o:Nat):Ok P T (part t c o):=by
 unfold part;exact mo
end
theorem qE{α:Type}(e:RuntimeError):Ok P T ((runtimePanic e:Sem α)):=by
 unfold runtimePanic;exact mo
theorem mM{α:Type}(k:IntKind)(x y:Int)(c:BoundsCode):Ok P T ((boundsPanic k x y c:Sem α)):=by
 unfold boundsPanic;exact mo
theorem VX(v:Dn):Ok P T (asIntOf v):=by
 unfold asIntOf;exact mo
theorem dM(v:Dn):Ok P T (asInt v):=by
 unfold asInt;exact mo
theorem aQ(v:Dn):Ok P T (asBool v):=by
 unfold asBool;exact mo
theorem S60(v:Dn):Ok P T (asAgg v):=by
 unfold asAgg;exact mo
theorem ZP(v:Dn):Ok P T (asAddr v):=by
 unfold asAddr;exact mo
theorem W00(a:Vm):Ok P T (byteOf a):=by
 unfold byteOf;exact mo
theorem W20(a:Vm)(c b:Nat):Ok P T (partAt a c b):=by
 unfold partAt;exact mo
theorem VO(a:Vm)(f:Field):Ok P T (fieldPlace a f):=by
 unfold fieldPlace;exact mo
theorem WN(a:Vm)(u:TypeId)(n:Nat):Ok P T (variablesAt a u n):=by
 unfold variablesAt;exact mo
theorem dU(a b:Vm):Ok P T (Op.twoPlaces a b ):=by
 unfold Op.twoPlaces;exact mo
theorem MX(k:IntKind)(a b:Vm):Ok P T (Op.addrSub k  a b ):=by
 unfold Op.addrSub;exact mo
theorem KX(op:BinOp)(a b:Vm):Ok P T (Op.addrCmp op  a b ):=by
 unfold Op.addrCmp;exact mo
theorem LX(k:IntKind)(a:Vm)(n:Int):Ok P T (Op.addrMod k  a  n ):=by
 unfold Op.addrMod;exact mo
section
variable (op:BinOp)
include op
theorem XO(k:FloatKind)(x y:Nat):Ok P T (Op.floatArith op k x y):=by
 unfold Op.floatArith;exact mo
theorem WU(k:FloatKind)(x y:Nat):Ok P T (Op.floatCmp op k x y):=by
 unfold Op.floatCmp;exact mo
theorem uV(k:IntKind)(x y:Int):Ok P T (Op.intArith op k x y):=by
 unfold Op.intArith;exact mo
theorem bZ(k:IntKind)(x y:Int):Ok P T (Op.intBits op k x y):=by
 unfold Op.intBits;exact mo
theorem j20(x y:Int):Ok P T (Op.intCmp op x y):=by
 unfold Op.intCmp;exact mo
theorem k20(k:IntKind)(x y:Int):Ok P T (Op.intDiv op k x y):=by
 unfold Op.intDiv;exact mo
theorem N90(k:IntKind)(x:Int)(j:IntKind)(y:Int):Ok P T (Op.shift op k x j y):=by
 unfold Op.shift;exact mo
theorem QW(x y:ByteArray):Ok P T (Op.stringOp op x y):=by
 unfold Op.stringOp;exact mo
end
theorem ha0(op:UnOp)(x:Dn):Ok P T (Op.unary op x):=by
 unfold Op.unary;exact mo
theorem bL(s:FloatKind)(b:Nat)(t:FloatKind):Ok P T (Conv.floatToFloat s b t):=by
 unfold Conv.floatToFloat;exact mo
theorem X00(op:BinOp)(k:FloatKind)(x y:Nat):Ok P T (Op.Complex.arith op k x y):=by
 unfold Op.Complex.arith;exact mo
theorem ob0(op:BinOp)(k:FloatKind)(x y:Nat):Ok P T (Op.Complex.cmp op k x y):=by
 unfold Op.Complex.cmp;exact mo
theorem g70(s:FloatKind)(x:Nat)(t:FloatKind):Ok P T (Op.Complex.conv s x t):=by
 unfold Op.Complex.conv;exact mo
theorem mb0(x y:Nat):Ok P T (Op.Complex.add x y):=by
 unfold Op.Complex.add;exact mo
theorem rb0(x y:Nat):Ok P T (Op.Complex.sub x y):=by
 unfold Op.Complex.sub;exact mo
theorem pb0(x y:Nat):Ok P T (Op.Complex.mul x y):=by
 unfold Op.Complex.mul;exact mo
theorem qb0(x y:Nat):Ok P T (Op.Complex.quo x y):=by
 unfold Op.Complex.quo;exact mo
theorem AZ(a b c e:Nat):Ok P T (Op.Complex.product a b c e):=by
 unfold Op.Complex.product;exact mo
theorem vR(s a b c e:Nat):Ok P T (Op.Complex.corrected s a b c e):=by
 unfold Op.Complex.corrected;exact mo
theorem XV(a b c e:Nat):Ok P T (Op.Complex.quotient a b c e):=by
 unfold Op.Complex.quotient;exact mo
theorem rR(op:BinOp)(k:FloatKind)(a b c e:Nat):Ok P T (Op.complexOp op k a b c e):=by
 unfold Op.complexOp;exact mo
theorem nY:∀(n:Nat)(t:TypeId)(x y:Dn),Ok P T (Op.equalIn n t x y):=by
 intro n;induction n with
 |zero=>intros;unfold Op.equalIn;exact mo
 |succ n ih=>intros;unfold Op.equalIn;exact mo
theorem OU(t:TypeId)(x y:Dn):Ok P T (Op.equal t x y):=nY _ t x y
theorem ER:∀(n:Nat)(t:TypeId)(x y:Dn),Ok P T (Op.eqGuardIn n t x y):=by
 intro n;induction n with
 |zero=>intros;unfold Op.eqGuardIn;exact mo
 |succ n ih=>intros;unfold Op.eqGuardIn;exact mo
theorem XI(x:Dn):Ok P T (Conv.bytesToString x):=by
 unfold Conv.bytesToString;exact mo
theorem dG(s:FloatKind)(a b:Nat)(t:FloatKind):Ok P T (Conv.complexToComplex s a b t):=by
 unfold Conv.complexToComplex;exact mo
theorem YO(s:FloatKind)(b:Nat)(t:IntKind):Ok P T (Conv.floatToInt s b t):=by
 unfold Conv.floatToInt;exact mo
theorem mP(s:FloatKind)(n:Int):Ok P T (Conv.intToFloat s n):=by
 unfold Conv.intToFloat;exact mo
theorem vV(s:IntKind)(n:Int):Ok P T (Conv.intToInt s n):=by
 unfold Conv.intToInt;exact mo
theorem jN(n:Int):Ok P T (Conv.intToString n):=by
 unfold Conv.intToString;exact mo
theorem MJ(x:Dn):Ok P T (Conv.runesToString x):=by
 unfold Conv.runesToString;exact mo
theorem OJ(e:TypeId)(s:ByteArray):Ok P T (Conv.stringToBytes e s):=by
 unfold Conv.stringToBytes;exact mo
theorem QJ(e:TypeId)(s:ByteArray):Ok P T (Conv.stringToRunes e s):=by
 unfold Conv.stringToRunes;exact mo
theorem F30(a:Vm):Ok P T (Conv.seenAt a):=by
 unfold Conv.seenAt;exact mo
theorem VJ(s t:TypeId)(x:Dn):Ok P T (Conv.unsafePointer s t x):=by
 unfold Conv.unsafePointer;exact mo
theorem eU(ts:Array TypeId)(t:TypeId)(xs:Array Dn):Ok P T (Builtin.unsafeAdd_ ts t xs):=by
 unfold Builtin.unsafeAdd_;obtain⟨l⟩:=xs;rcases l with _|⟨v,_|⟨u,_|⟨z,l⟩⟩⟩
 ·exact Uy _
 ·cases v<;>exact Uy _
 ·cases v with
  |pointer c=>
   cases c with
   |none=>
    refine Ok.nu (s:=asInt u) (dM _) (fun _=>?_);exact mo
   |some a=>
    refine Ok.nu (s:=asInt u) (dM _) (fun _=>?_);exact mo
  |_=>exact Uy _
 ·cases v<;>exact Uy _
theorem sN(t:TypeId)(x y:Dn):Ok P T (movedNumber t x y):=by
 unfold movedNumber;exact mo
theorem pL(t:TypeId)(x y:Dn):Ok P T (movedPointer t x y):=by
 unfold movedPointer;exact mo
theorem mY(op:BinOp)(t:TypeId)(x y:Operand)(a b:Dn):Ok P T (eqGuard op t x y a b):=by
 unfold eqGuard;exact mo
theorem Z60(op:BinOp)(t:TypeId)(x y:Dn):Ok P T (binOp op t x y):=by
 unfold binOp;exact mo
theorem pM(s t:TypeId)(x:Dn):Ok P T (convert s t x):=by
 unfold convert;exact mo
theorem UW(v:Dn):Ok P T (Instr.sureAddr v):=by
 unfold Instr.sureAddr;exact mo
theorem B20(t:TypeId)(v:Dn):Ok P T (Instr.loadAt t v):=by
 unfold Instr.loadAt;exact mo
theorem n_(t:TypeId)(v x:Dn):Ok P T (Instr.storeAt t v x):=by
 unfold Instr.storeAt;exact mo
theorem pY(t:TypeId)(v:Dn)(n:Nat):Ok P T (Instr.fieldAt t v n):=by
 unfold Instr.fieldAt;exact mo
theorem TY(t:TypeId)(v x:Dn):Ok P T (Instr.indexAt t v x):=by
 unfold Instr.indexAt;exact mo
theorem EP(x:Dn)(y:Nat)(c:BoundsCode):Ok P T (Instr.sliceBound x y c):=by
 unfold Instr.sliceBound;exact mo
theorem SN(b:Bool)(l c:Nat)(x y z:Option Dn):Ok P T (Instr.sliceBounds b l c x y z):=by
 unfold Instr.sliceBounds;exact mo
section
variable (t:TypeId)
include t
theorem S90(v:Dn)(x y z:Option Dn):Ok P T (Instr.slice t v x y z):=by
 unfold Instr.slice;exact mo
theorem YZ(v:Dn)(x y z:Option Dn):Ok P T (Instr.sliceAt t v x y z):=by
 unfold Instr.sliceAt;exact mo
theorem UX(v:Dn):Ok P T (Instr.arrayAt t v):=by
 unfold Instr.arrayAt;exact mo
theorem O60(b:Bool)(v:Dn):Ok P T (Instr.alloc t b v):=by
 unfold Instr.alloc;exact mo
theorem He0(v:Dn):Ok P T (Instr.box t v):=by
 unfold Instr.box;exact mo
theorem e70(xs:Array (Nat×Dn)):Ok P T (Instr.build t xs):=by
 unfold Instr.build;exact mo
theorem AO(n:Nat)(xs:Array (Nat×Dn)):Ok P T (Instr.buildSlice t n xs):=by
 unfold Instr.buildSlice;exact mo
end
theorem vM(v:Dn)(n:Nat):Ok P T (Instr.extract v n):=by
 unfold Instr.extract;exact mo
theorem UU(t:TypeId)(v:Dn)(n:Nat):Ok P T (Instr.field t v n):=by
 unfold Instr.field;exact mo
theorem rV(t:TypeId)(v x:Dn):Ok P T (Instr.index t v x):=by
 unfold Instr.index;exact mo
theorem DU(b:Bool):∀(n:Nat)(t:TypeId)(x:Dn),Ok P T (Instr.checkKey b n t x):=by
 intro n;induction n with
 |zero=>intros;unfold Instr.checkKey;exact mo
 |succ n ih=>intros;unfold Instr.checkKey;exact mo
theorem wG(t:TypeId)(k:Dn):∀(l:List MapEntry)(i:Nat),Ok P T (Instr.findAsking t k l i)
 | [],_=>trivial
 |e::es,i=>Ok.nu (OU _ _ _) fun b=>by
  cases b
  ·exact wG t k es (i+1)
  ·exact trivial
theorem qY(t:TypeId)(k:Dn)(l:List MapEntry):Ok P T (Instr.findKey t k l):=by
 unfold Instr.findKey;exact mo
theorem C20(t:TypeId)(x y:Dn)(b:Bool):Ok P T (Instr.lookup t x y b):=by
 unfold Instr.lookup;exact mo
theorem CV(t:TypeId)(x:Dn):Ok P T (Instr.makeChan t x):=by
 unfold Instr.makeChan;exact mo
theorem mZ(t:TypeId)(x:Option Dn):Ok P T (Instr.makeMap t x):=by
 unfold Instr.makeMap;exact mo
theorem SS(t:TypeId)(x y:Dn):Ok P T (Instr.makeSlice t x y):=by
 unfold Instr.makeSlice;exact mo
theorem nL(x y:Dn):Ok P T (Instr.keyThatStays x y):=by
 unfold Instr.keyThatStays;exact mo
theorem vI(t:TypeId)(x y z:Dn):Ok P T (Instr.mapUpdate t x y z):=by
 unfold Instr.mapUpdate;exact mo
theorem DV(t:TypeId)(x y:Dn):Ok P T (Instr.mapEntry t x y):=by
 unfold Instr.mapEntry;exact mo
theorem OO(t:TypeId)(x y z:Dn):Ok P T (Instr.entryStore t x y z):=by
 unfold Instr.entryStore;exact mo
theorem ZV(t:TypeId)(x:Dn):Ok P T (Instr.range t x):=by
 unfold Instr.range;exact mo
theorem ac0(x:Dn)(b:Bool)(t:TypeId):Ok P T (Instr.next x b t):=by
 unfold Instr.next;exact mo
theorem E70(x:Dn):Ok P T (Instr.entry x):=by
 unfold Instr.entry;exact mo
theorem NP(x:Dn)(s t:TypeId)(b:Bool):Ok P T (Instr.typeAssert x s t b):=by
 unfold Instr.typeAssert;exact mo
theorem fP(a:Vm)(n:Nat):Ok P T (Builtin.holdsCells a n):=by
 unfold Builtin.holdsCells;exact mo
theorem FV(a b c:Nat)(x:Option Vm)(v:Dn):Ok P T (Builtin.mayShare a b c x v):=by
 unfold Builtin.mayShare;exact mo
theorem R80(v:Dn):Ok P T (Builtin.lenOf v):=by
 unfold Builtin.lenOf;exact mo
theorem WO(a b:Nat)(v:Dn):Ok P T (Builtin.firstCells a b v):=by
 unfold Builtin.firstCells;exact mo
section
variable (ts:Array TypeId)(t:TypeId)(xs:Array Dn)
include ts t xs
theorem YX:Ok P T (Builtin.append_ ts t xs):=by
 unfold Builtin.append_;exact mo
theorem eb0:Ok P T (Builtin.cap_ ts t xs):=by
 unfold Builtin.cap_;exact mo
theorem U00:Ok P T (Builtin.close_ ts t xs):=by
 unfold Builtin.close_;obtain⟨l⟩:=xs;rcases l with _|⟨v,_|⟨u,l⟩⟩
 ·exact Uy _
 ·cases v with
  |chan c=>
   cases c with
   |none=>exact qE _
   |some r=>
    refine Ok.nu (s:=getObj r) (iQ _) (fun _=>?_);exact mo
  |_=>exact Uy _
 ·exact Uy _
theorem Y60:Ok P T (Builtin.copy_ ts t xs):=by
 unfold Builtin.copy_;exact mo
theorem ZX:Ok P T (Builtin.delete_ ts t xs):=by
 unfold Builtin.delete_;exact mo
theorem fb0:Ok P T (Builtin.len_ ts t xs):=by
 unfold Builtin.len_;exact mo
end
theorem CM:∀(l:List FieldStep)(t:TypeId)(x:Option Dn),Ok P T (followBlind l t x):=by
 intro n;induction n with
 |nil=>intros;unfold followBlind;exact mo
 |cons a l ih=>intros;unfold followBlind;exact mo
theorem LV:∀(n:Nat)(t:TypeId)(x:Dn)(s:String),Ok P T (nilAhead n t x s):=by
 intro n;induction n with
 |zero=>intros;unfold nilAhead;exact mo
 |succ n ih=>intros;unfold nilAhead;exact mo
end
structure xA where
 fns:Nat->Bool
 fs:Nat->Nat->Bool
 ps:Nat->Nat->Bool
 cf:Nat->Bool
section
variable (P:Ym)(A:xA)
def FA(f:Nat):Bool:=A.fns f&&match P.funcs[f]? with
 | some fn => fn.body.isSome && !(fn.name == "runtime.NumGoroutine")
 |none=>Tm
def XF(f:Nat):Bool:=match P.funcs[f]? with
 |some fn=>(Hm (fn.ntmps+64)).all fun t=>!A.fs f t && !A.ps f t
 |none=>Tm
def TF(h:Nat):Operand->Bool
 |.tmp t=>A.fs h t
 |.func g=>A.cf g
 |_=>Tm
def VA(h:Nat):Operand->Bool
 |.tmp t=>A.ps h t
 |_=>Tm
def eR(h f:Nat)(args:Array Operand):Bool:=
 (Hm (args.size+64)).all fun j=>match args[j]? with
  |some x=>(!A.fs f j || TF A h x)&&(!A.ps f j || VA A h x)
  |none=>Um
def NA:Builtin->Bool
 |.append|.cap|.close|.copy|.delete|.len=>Um
 |_=>Tm
def CJ(h:Nat)(c:Call):Bool:=match c.callee with
 |.builtin .recover=>Um
 |.builtin b=>NA b
 |.value (.func f)=>FA P A f&&eR A h f c.args
 |.value (.tmp t)=>A.fs h t
 |_=>Tm
def YG(h:Nat)(c:Call):Bool:=match c.callee with
 |.builtin b=>NA b
 |.value (.func f)=>FA P A f&&XF P A f
 |.value (.tmp t)=>A.fs h t
 |_=>Tm
def EA(h:Nat)(o:Oper):Bool:=match o.dst with
 |some d=>!A.fs h d && !A.ps h d
 |none=>Um
def Ro(h:Nat)(o:Oper):Bool:=match o.op with
 |.move x|.assign x=>match o.dst with
  |some d=>(!A.fs h d || TF A h x)&&(!A.ps h d || VA A h x)
  |none=>Um
 |.makeFunc (.func f) first _=>match o.dst with
  |some d=>!A.ps h d&&(!A.fs h d || (A.cf f&&first.isEmpty))
  |none=>Um
 |.makeInterface _ _=>match o.dst with
  |some d=>!A.fs h d
  |none=>Um
 |.call c=>EA A h o&&CJ P A h c
 |.defer c=>EA A h o&&YG P A h c
 |.panic x=>EA A h o&&VA A h x
 |.go _|.send ..|.recv ..|.select ..|.ready _|.waits _|.makeFunc ..=>Tm
 |_=>EA A h o
def zq(h:Nat):Code->Bool
 |.region _ ops _=>ops.all (Ro P A h)
 |.seq a b|.cond _ a b=>zq h a&&zq h b
 |.block _ c|.loop c|.scope c=>zq h c
 |.ret|.skip|.exit _|.label _=>Um
 |_=>Tm
structure yr:Prop where
 code:∀(f:Nat)(fn:Func)(c:Code),A.fns f=Um->P.funcs[f]?=Gn fn->fn.body=Gn c->zq P A f c=Um
 cf:∀f,A.cf f=Um->FA P A f=Um/\XF P A f=Um
 far:∀f t fn,P.funcs[f]?=Gn fn->fn.ntmps+64<=t->A.fs f t=Tm/\A.ps f t=Tm
end
def WJ(A:xA)(v:Dn):Prop:=v=Bn\/∃f c,v=.func (.func f) #[] c/\A.cf f=Um
def YD(v:Dn):Prop:=v≠.nilIface
def qw(A:xA)(h:Nat)(ρ:Nat->Dn):Prop:=∀t,(A.fs h t=Um->WJ A (ρ t))/\(A.ps h t=Um->YD (ρ t))
def vv(P:Ym)(A:xA)(f:Nat)(args:Array Dn):Prop:=FA P A f=Um/\qw A f (fun t=>args.getD t Bn)
def UL(P:Ym)(A:xA)(d:Deferred):Prop:=
 (∃b ts t cs,d.target=.builtin b ts t cs/\NA b=Um)\/(∃f c,d.target=.fn (.func f) c/\FA P A f=Um/\XF P A f=Um)
def zx(A:xA)(h:Nat)(o:Oper)(v:Dn):Prop:=∀d,o.dst=Gn d->(A.fs h d=Um->WJ A v)/\(A.ps h d=Um->YD v)
def NB(o:Oper):Bool:=match o.op with
 |.defer _=>Um
 |_=>Tm
def KE(P:Ym)(A:xA)(h:Nat)(o:Oper):Next->Prop
 |.value v=>zx A h o v
 |.skip=>True
 |.enter f args=>vv P A f args/\∀v,zx A h o v
 |.defer d=>UL P A d/\NB o=Um
 |.recover=>∀v,zx A h o v
 |_=>False
section
variable {P:Ym}{A:xA}{h:Nat}{o:Oper}
theorem zx.free(hf:EA A h o=Um)(v:Dn):zx A h o v:=fun d hd=>by
 unfold EA at hf;rw[hd]at hf;simp only[Bool.and_eq_true,Bool.not_eq_true']at hf;exact⟨fun e=>(by rw[hf.1]at e;cases e),fun e=>(by rw[hf.2]at e;cases e)⟩
theorem bF:WJ A undef:=.inl rfl
theorem xF:YD undef:=by unfold YD Bn;simp
theorem zx.undef:zx A h o undef:=fun _ _=>⟨fun _=>bF,fun _=>xF⟩
theorem Ok.mono{α:Type}{L M:α->Prop}(hm:∀a,L a->M a):∀{s:Sem α},Ok P L s->Ok P M s
 |.pure a,h=>hm a h
 |.load _ _ _,h=>fun v=>Ok.mono hm (h v)
 |.store _ _ _ k,h=>Ok.mono hm (s:=k) h
 |.new _ _,h=>fun r=>Ok.mono hm (h r)
 |.shape _ _,h=>fun r=>Ok.mono hm (h r)
 |.freeze _ _ k,h=>Ok.mono hm (s:=k) h
 |.frozen _ _,h=>fun r=>Ok.mono hm (h r)
 |.getObj _ _,h=>fun r=>Ok.mono hm (h r)
 |.setObj _ _ k,h=>Ok.mono hm (s:=k) h
 |.choose _ _,h=>fun r=>Ok.mono hm (h r)
 |.sys _ _,h=>h.elim
 |.program k,h=>Ok.mono hm (s:=k P) h
 |.mark _ k,h=>⟨h.1,Ok.mono hm (s:=k) h.2⟩
 |.halt _,h=>h
theorem LQ{α:Type}{L:α->Prop}(s:String):Ok P L (stuck s:Sem α):=trivial
theorem eF{α:Type}{L:α->Prop}(v:Dn):Ok P L (goPanic v:Sem α):=trivial
theorem wx{α:Type}{L:α->Prop}(e:RuntimeError):Ok P L (runtimePanic e:Sem α):=by
 unfold runtimePanic;refine Ok.nu ZG fun p=>?_;cases e with
 |typeAssertion i c a m=>exact Ok.nu (dJ _) fun _=>Ok.nu (vJ _ _) fun _=>eF _
 |panicNil=>exact Ok.nu (dJ _) fun _=>Ok.nu (vJ _ _) fun _=>eF _
 |_=>exact eF _
theorem Jr{s:Sem Dn}(hs:Ok P T s)(hf:EA A h o=Um):Ok P (KE P A h o) (do pure (.value (<-s)):Sem Next):=Ok.nu hs fun v=>zx.free hf v
theorem NL{s:Sem Unit}(hs:Ok P T s):Ok P (KE P A h o) (do s;pure .skip:Sem Next):=Ok.nu hs fun _=>trivial
theorem zo{f:Nat}{fn:Func}(H:yr P A)(hf:P.funcs[f]?=Gn fn)(hn:XF P A f=Um)(ρ:Nat->Dn):qw A f ρ:=fun t=>by
 unfold XF at hn;rw[hf]at hn;simp only[List.all_eq_true,List.mem_range,Bool.and_eq_true,Bool.not_eq_true']at hn;have:A.fs f t=Tm/\A.ps f t=false:=by
  by_cases ht:t<fn.ntmps+64
  ·exact hn t ht
  ·exact H.far f t fn hf E0
 exact⟨fun e=>(by rw[this.1]at e;cases e),fun e=>(by rw[this.2]at e;cases e)⟩
theorem IA {f : Nat} (hb : FA P A f = Um) : ∃ fn c, P.funcs[f]? = Gn fn /\ fn.body = Gn c /\ (fn.name == "runtime.NumGoroutine") = Tm /\ A.fns f = Um := by
 unfold FA at hb;rw[Bool.and_eq_true]at hb;obtain⟨hA,hb⟩:=hb;split at hb
 ·rename_i fn hf
  simp only[Bool.and_eq_true,Bool.not_eq_true']at hb;obtain⟨c,hc⟩:=Option.isSome_iff_exists.1 hb.1;exact⟨fn,c,hf,hc,hb.2,hA⟩
 ·cases hb
theorem TE{f:Nat}{args:Array Dn}(hb:FA P A f=Um):Ok P (fun n=>n=.enter f args) (callFunc f args):=by
 obtain⟨fn,c,hf,hc,hn,-⟩:=IA hb;unfold callFunc;refine Ok.YJ (L:=fun p=>p=P) rfl (fun p hp=>?_);subst hp;simp only[hf,hn,hc];exact rfl
theorem yN{v:Dn}{args:Array Dn}(H:yr P A)(hv:WJ A v):Ok P (fun d=>UL P A d/\∃f c,d={target:=.fn (.func f) c,args:=args}/\A.cf f=Um) (Deferred.ofValue v args):=by
 rcases hv with rfl|⟨f,c,rfl,hc⟩
 ·exact LQ _
 ·have hb:=H.cf f hc;exact⟨.inr ⟨f,c,rfl,hb⟩,f,c,P0,hc⟩
theorem nM{b:Builtin}(hb:NA b=Um)(ts:Array TypeId)(t:TypeId)(cs:Array Bool)(args:Array Dn):Ok P (fun n=>∃v,n=.value v) (builtin b ts t cs args):=by
 cases b<;>first|(cases hb;done)|skip
 ·exact Ok.nu (YX _ _ _) fun v=>⟨v,rfl⟩
 ·exact Ok.nu (eb0 _ _ _) fun v=>⟨v,rfl⟩
 ·exact Ok.nu (U00 _ _ _) fun v=>⟨v,rfl⟩
 ·exact Ok.nu (Y60 _ _ _) fun v=>⟨v,rfl⟩
 ·exact Ok.nu (ZX _ _ _) fun v=>⟨v,rfl⟩
 ·exact Ok.nu (fb0 _ _ _) fun v=>⟨v,rfl⟩
section
variable {ρ:Operand->Dn}
include ρ
theorem MV{x:Operand}(ep:o.op=.nilCheck x)(hf:EA A h o=Um):Ok P (KE P A h o) (execOp ρ o):=by
 refine ya ?_;split
 ·exact wx _
 ·exact wx _
 ·exact wx _
 ·split
  ·exact wx _
  ·refine Ok.nu ZG fun _=>Ok.nu (LV _ _ _ _) fun _=>?_;split
   ·exact Ok.nu (GF _) fun _=>zx.free hf _
   ·exact zx.free hf _
  ·exact zx.free hf _
 ·exact zx.free hf _
theorem bP{x:Operand}(hρ:qw A h (fun t=>ρ (.tmp t)))(UG:∀g,ρ (.func g)=.func (.func g) #[] #[])(hx:TF A h x=Um):WJ A (ρ x):=by
 cases x with
 |tmp t=>exact(hρ t).1 hx
 |func g=>exact .inr ⟨g,#[],UG g,hx⟩
 |_=>cases hx
theorem vP{x:Operand}(hρ:qw A h (fun t=>ρ (.tmp t)))(hx:VA A h x=Um):YD (ρ x):=by
 cases x with
 |tmp t=>exact(hρ t).2 hx
 |_=>cases hx
theorem cb0{f:Nat}{args:Array Operand}(hρ:qw A h (fun t=>ρ (.tmp t)))(UG:∀g,ρ (.func g)=.func (.func g) #[] #[])(ha:eR A h f args=Um):qw A f (fun t=>(args.map ρ).getD t Bn):=fun t=>by
 show (_->WJ A ((args.map ρ).getD t Bn))/\(_->YD ((args.map ρ).getD t Bn));by_cases ht:t<args.size
 ·unfold eR at ha;simp only[List.all_eq_true,List.mem_range]at ha;have h1:=ha t E0;rw[Bm ht]at h1;simp only[Bool.and_eq_true,Bool.or_eq_true,Bool.not_eq_true']at h1;have e:(args.map ρ).getD t Bn=ρ args[t]:=by simp[Array.getD,ht]
  rw[e];exact⟨fun hx=>bP hρ UG (h1.1.resolve_left (by rw[hx];simp)),fun hx=>vP hρ (h1.2.resolve_left (by rw[hx];simp))⟩
 ·have e:(args.map ρ).getD t Bn=undef:=by simp[Array.getD,ht]
  rw[e];exact⟨fun _=>bF,fun _=>xF⟩
theorem IV{x:Operand}(hρ:qw A h (fun t=>ρ (.tmp t)))(UG:∀g,ρ (.func g)=.func (.func g) #[] #[])
  (hp:(match o.dst with|some d=>(!A.fs h d || TF A h x)&&(!A.ps h d || VA A h x)|none=>Um)=Um):Ok P (KE P A h o) (pure (.value (ρ x)):Sem Next):=fun d hd=>by
 rw[hd]at hp;simp only[Bool.and_eq_true,Bool.or_eq_true,Bool.not_eq_true']at hp;refine⟨fun e=>?_,fun e=>?_⟩
 ·have hx:=hp.1.resolve_left Z2;cases x with
  |tmp t=>exact(hρ t).1 hx
  |func g=>exact .inr ⟨g,#[],UG g,hx⟩
  |_=>cases hx
 ·have hx:=hp.2.resolve_left Z2;cases x with
  |tmp t=>exact(hρ t).2 hx
  |_=>cases hx
end
theorem rI(t:TypeId)(x:Dn):Ok P YD (Instr.makeInterface t x):=by
 unfold Instr.makeInterface;refine Ok.nu (DG _) fun d=>?_;split
 ·exact LQ _
 ·show YD _;unfold YD;simp
theorem GZ{ρ:Operand->Dn}{c:Call}{t:TypeId}(H:yr P A)(hρ:qw A h (fun t=>ρ (.tmp t)))(UG:∀g,ρ (.func g)=.func (.func g) #[] #[])(hc:YG P A h c=Um):Ok P (UL P A) (resolve ρ c t):=by
 unfold resolve;unfold YG at hc;split at hc
 ·rename_i b hb
  simp only[hb];exact .inl ⟨_,_,_,_,rfl,hc⟩
 ·rename_i f hb
  simp only[hb,UG];simp only[Bool.and_eq_true]at hc;exact .inr ⟨f,_,rfl,hc⟩
 ·rename_i u hb
  simp only[hb];exact Ok.mono (fun _ x=>x.1) (yN H ((hρ u).1 hc))
 ·cases hc
theorem nb0{ρ:Operand->Dn}{c:Call}(H:yr P A)(hρ:qw A h (fun t=>ρ (.tmp t)))(UG:∀g,ρ (.func g)=.func (.func g) #[] #[])(hd:EA A h o=Um)(hc:CJ P A h c=Um):
  Ok P (KE P A h o) (do let d <-resolve ρ c o.type;invoke d.target d.args:Sem Next):=by
 unfold CJ at hc;split at hc
 ·rename_i hb
  refine Ok.YJ (L:=fun d=>d={target:=.builtin .recover c.argTypes o.type (c.args.map fun|.const _=>Um|_=>Tm),args:=c.args.map ρ}) ?_ fun d eP=>?_
  ·unfold resolve;simp only[hb];exact rfl
  ·subst eP;exact fun v=>zx.free hd v
 ·rename_i b _ hb
  refine Ok.YJ (L:=fun d=>d={target:=.builtin b c.argTypes o.type (c.args.map fun|.const _=>Um|_=>Tm),args:=c.args.map ρ}) ?_ fun d eP=>?_
  ·unfold resolve;simp only[hb];exact rfl
  ·subst eP;exact Ok.mono (fun n ⟨v,hv⟩=>by subst hv;exact zx.free hd v) (nM hc _ _ _ _)
 ·rename_i f hb
  simp only[Bool.and_eq_true]at hc;refine Ok.YJ (L:=fun d=>d={target:=.fn (.func f) #[],args:=#[]++c.args.map ρ}) ?_ fun d eP=>?_
  ·unfold resolve;simp only[hb,UG];exact rfl
  ·subst eP;refine Ok.mono (fun n hn=>?_) (TE (args:=#[]++c.args.map ρ++#[]) hc.1);subst hn;refine⟨⟨hc.1,?_⟩,fun v=>zx.free hd v⟩;have:=cb0 hρ UG hc.2;exact Vd
 ·rename_i u hb
  refine Ok.YJ (L:=fun d=>∃f cap,d={target:=.fn (.func f) cap,args:=c.args.map ρ}/\A.cf f=Um) ?_ fun d eP=>?_
  ·unfold resolve;simp only[hb];exact Ok.mono (fun _ x=>x.2) (yN H ((hρ u).1 hc))
  ·obtain⟨f,cap,rfl,fS⟩:=eP;have hb:=H.cf f fS;refine Ok.mono (fun n hn=>?_) (TE (args:=c.args.map ρ++cap) hb.1);subst hn;obtain⟨fn,_,hf,_⟩:=IA hb.1;exact⟨⟨hb.1,zo H hf hb.2 _⟩,fun v=>zx.free hd v⟩
 ·cases hc
theorem eJ(H:yr P A){ρ:Operand->Dn}(hρ:qw A h (fun t=>ρ (.tmp t)))(UG:∀g,ρ (.func g)=.func (.func g) #[] #[])(hp:Ro P A h o=Um):Ok P (KE P A h o) (execOp ρ o):=by
 cases ep:o.op with
 |nilCheck x=>exact MV ep O6
 |alloc t=>
  refine ya ?_;simp only[Ro,ep]at hp;exact Jr (O60 _ _ _) hp
 |box t x=>
  refine ya ?_;simp only[Ro,ep]at hp;exact Jr (He0 _ _) hp
 |build t xs=>
  refine ya ?_;simp only[Ro,ep]at hp;exact Jr (e70 _ _) hp
 |buildSlice t n xs=>
  refine ya ?_;simp only[Ro,ep]at hp;exact Jr (AO _ _ _) hp
 |load t x=>
  refine ya ?_;simp only[Ro,ep]at hp;exact Jr (B20 _ _) hp
 |binOp b t x y u=>
  refine ya ?_;simp only[Ro,ep]at hp;exact Jr (Ok.nu (mY _ _ _ _ _ _) fun _=>Z60 _ _ _ _) hp
 |unOp b t x=>
  refine ya ?_;simp only[Ro,ep]at hp;exact Jr (ha0 _ _) hp
 |convert t u x=>
  refine ya ?_;simp only[Ro,ep]at hp;exact Jr (pM _ _ _) hp
 |sliceToArrayPointer t x=>
  refine ya ?_;simp only[Ro,ep]at hp;exact Jr (UX _ _) hp
 |makeMap t r=>
  refine ya ?_;simp only[Ro,ep]at hp;exact Jr (mZ _ _) hp
 |makeChan t x=>
  refine ya ?_;simp only[Ro,ep]at hp;exact Jr (CV _ _) hp
 |makeSlice t x y=>
  refine ya ?_;simp only[Ro,ep]at hp;exact Jr (SS _ _ _) hp
 |slice t x l u m=>
  refine ya ?_;simp only[Ro,ep]at hp;exact Jr (YZ _ _ _ _ _) hp
 |fieldAddr t x n=>
  refine ya ?_;simp only[Ro,ep]at hp;exact Jr (pY _ _ _) hp
 |field t x n=>
  refine ya ?_;simp only[Ro,ep]at hp;exact Jr (UU _ _ _) hp
 |indexAddr t x y=>
  refine ya ?_;simp only[Ro,ep]at hp;exact Jr (TY _ _ _) hp
 |index t x y=>
  refine ya ?_;simp only[Ro,ep]at hp;exact Jr (rV _ _ _) hp
 |lookup t x y b=>
  refine ya ?_;simp only[Ro,ep]at hp;exact Jr (C20 _ _ _ _) hp
 |mapEntry t x y=>
  refine ya ?_;simp only[Ro,ep]at hp;exact Jr (DV _ _ _) hp
 |range t x=>
  refine ya ?_;simp only[Ro,ep]at hp;exact Jr (ZV _ _) hp
 |next x b=>
  refine ya ?_;simp only[Ro,ep]at hp;exact Jr (ac0 _ _ _) hp
 |entry x=>
  refine ya ?_;simp only[Ro,ep]at hp;exact Jr (E70 _) hp
 |typeAssert x t u b=>
  refine ya ?_;simp only[Ro,ep]at hp;exact Jr (NP _ _ _ _) hp
 |extract x n=>
  refine ya ?_;simp only[Ro,ep]at hp;exact Jr (vM _ _) hp
 |store t x y=>
  refine ya ?_;exact NL (n_ _ _ _)
 |mapUpdate t m k x=>
  refine ya ?_;exact NL (vI _ _ _ _)
 |insert t m k x=>
  refine ya ?_;exact NL (vI _ _ _ _)
 |entryStore t m k x=>
  refine ya ?_;exact NL (OO _ _ _ _)
 |move x=>
  refine ya ?_;exact IV hρ UG O6
 |assign x=>
  refine ya ?_;exact IV hρ UG O6
 |pick c x y=>
  refine ya ?_;simp only[Ro,ep]at hp;exact Ok.nu (aQ _) fun _=>zx.free hp _
 |select a b=>
  simp[Ro,ep]at hp
 |ready g=>
  simp[Ro,ep]at hp
 |waits g=>
  simp[Ro,ep]at hp
 |makeInterface t x=>
  refine ya ?_;refine Ok.YJ (rI _ _) fun v hv=>fun d hd=>?_;simp only[Ro,ep,hd]at hp;exact⟨fun e=>(by rw[e]at hp;cases hp),fun _=>hv⟩
 |makeFunc f first cap=>
  refine ya ?_;cases f with
  |func f=>
   refine Ok.YJ (L:=fun v=>v=.func (.func f) (first.map ρ) (cap.map ρ)) (by unfold Instr.makeFunc;exact rfl) fun v hv=>fun d hd=>?_;subst hv;simp only[Ro,ep,hd,Bool.and_eq_true,Bool.not_eq_true',Bool.or_eq_true]at hp;refine⟨fun e=>?_,fun e=>(by rw[hp.1]at e;cases e)⟩;rcases hp.2 with h1|⟨h1,h2⟩
   ·rw[h1]at e;cases e
   ·have:first=#[]:=by simpa using h2
    exact .inr ⟨f,cap.map ρ,by simp[this],h1⟩
  |_=>simp[Ro,ep]at hp
 |panic x=>
  refine ya ?_;simp only[Ro,ep,Bool.and_eq_true]at hp;cases x with
  |tmp t=>
   have hv:YD (ρ (.tmp t)):=(hρ t).2 hp.2;refine Ok.nu ?_ fun v=>zx.free hp.1 v;unfold Instr.panic;cases hx:ρ (.tmp t)with
   |iface a b=>exact FM _
   |nilIface=>exact absurd hx hv
   |_=>exact Uy _
  |_=>simp[VA]at hp
 |send c x=>
  simp[Ro,ep]at hp
 |recv t c b=>
  simp[Ro,ep]at hp
 |go c=>
  simp[Ro,ep]at hp
 |defer c=>
  refine ya ?_;simp only[Ro,ep,Bool.and_eq_true]at hp;exact Ok.YJ (GZ H hρ UG hp.2) fun d hd=>⟨hd,by simp[NB,ep]⟩
 |call c=>
  refine ya ?_;simp only[Ro,ep,Bool.and_eq_true]at hp;exact nb0 H hρ UG hp.1 hp.2
end
open Go.Conc
section
variable (P:Ym)(A:xA)
def ay(h:Nat):Item->Prop
 |.code c|.inLoop c|.inScope c=>zq P A h c=Um
 |.inBlock _=>True
 |.inRegion ops _=>ops.all (Ro P A h)=Um
 |_=>False
structure jw(fr:Xm):Prop where
 fn:∃fn,P.funcs[fr.fn]?=Gn fn
 round:fr.roundOf=Hn
 kind:fr.kind=.normal\/fr.kind=.deferred
 todo:∀it∈fr.todo,ay P A fr.fn it
 slots:qw A fr.fn (fun t=>fr.tmps.getD t Bn)
 defers:∀d∈fr.defers,UL P A d
def sw:CallKind->List Xm->Prop
 |k,[]=>k=.normal
 |k,c::rest=>jw P A c/\(k=.normal->∀v,jw P A (c.finish v))/\sw c.kind rest
end
def qH(w:En)(τ:Nat->Question->Nat)(d n:Nat):Prop:=∀k,k<n->τ (d+k)=w.tape (w.drawn+k)
def Js(P:Ym)(A:xA)(fr:Xm)(top:List Xm)(w:En):Prop:=∃n,
 (∃Lx TJ w' es,jw P A Lx/\sw P A Lx.kind TJ/\(∀e∈es,yv e)/\w'.tape=w.tape/\w'.drawn=w.drawn+n/\
  ∀τ d,qH w τ d n->∀main cs,stepG P main (G fr (top++cs)) (xq w τ d)=.go (G Lx (TJ++cs)) (xq w' τ (d+n)) es)\/
 (∀τ d,qH w τ d n->∀main cs,∃o w' es,stepG P main (G fr (top++cs)) (xq w τ d)=.ended o w' es)
section
variable {P:Ym}{A:xA}{fr:Xm}{top:List Xm}{w:En}
theorem jw.upd(h:jw P A fr){todo:List Item}(ht:∀it∈todo,ay P A fr.fn it):jw P A {fr with todo}:=⟨h.fn,h.round,h.kind,ht,h.slots,h.defers⟩
theorem jw.mode(h:jw P A fr)(m:FrameMode):jw P A {fr with mode:=m}:=⟨h.fn,h.round,h.kind,h.todo,h.slots,h.defers⟩
theorem jw.raise(h:jw P A fr)(c:List PanicEntry):jw P A (fr.raise c):=by
 unfold Frame.raise;split<;>exact h.mode _
theorem pB(fr:Xm)(c:List PanicEntry):(fr.raise c).kind=fr.kind:=by unfold Frame.raise;split<;>rfl
theorem Q30{h d:Nat}{tmps:Array Dn}{v:Dn}(hs:qw A h (fun t=>tmps.getD t Bn))(hd:(A.fs h d=Um->WJ A v)/\(A.ps h d=Um->YD v)):qw A h (fun t=>(tmps.setIfInBounds d v).getD t Bn):=fun t=>by
 have Ht:=hs t;show (_->WJ A ((tmps.setIfInBounds d v).getD t Bn))/\(_->YD ((tmps.setIfInBounds d v).getD t Bn));by_cases ht:t<tmps.size
 ·by_cases e:d=t
  ·subst e;have:(tmps.setIfInBounds d v).getD d Bn=v:=by simp[Array.getD,ht]
   rw[this];exact hd
  ·have:(tmps.setIfInBounds d v).getD t Bn=tmps.getD t undef:=by
    simp[Array.getD,ht,Array.getElem_setIfInBounds_ne,e]
   rw[this];exact Ht
 ·have:(tmps.setIfInBounds d v).getD t Bn=undef:=by simp[Array.getD,ht]
  rw[this];exact⟨fun _=>bF,fun _=>xF⟩
theorem jw.finish{ops:Array Oper}{i:Nat}{rest:List Nat}{k:List Item}{o:Oper}{v:Dn}(h:jw P A fr)(ht:fr.todo=.inRegion ops (i::rest)::k)(ho:ops[i]?=Gn o)(hv:zx A fr.fn o v):jw P A (fr.finish v):=by
 have ht1:∀it∈(Item.inRegion ops rest::k),ay P A fr.fn it:=fun it zB=>by
  have:=h.todo;rw[ht]at this;rcases List.mem_cons.1 zB with rfl|zB
  ·exact this (.inRegion ops (i::rest)) (List.mem_cons_self)
  ·exact this it (List.mem_cons_of_mem _ zB)
 unfold Frame.finish;rw[ht];simp only[ho,Option.bind_some];cases hd:o.dst with
 |none=>exact⟨h.fn,h.round,h.kind,ht1,h.slots,h.defers⟩
 |some d=>exact⟨h.fn,h.round,h.kind,ht1,Q30 h.slots (hv d hd),h.defers⟩
theorem Dt(fr:Xm)(v:Dn):(fr.finish v).kind=fr.kind:=by unfold Frame.finish;split<;>rfl
theorem Js.to{todo:List Item}(h:jw P A fr)(Ht:sw P A fr.kind top)(ht:∀it∈todo,ay P A fr.fn it)(hs:∀(w:En) main cs,stepG P main (G fr (top++cs)) w=.go (G {fr with todo} (top++cs)) w #[]):Js P A fr top w:=
 ⟨0,.inl ⟨{fr with todo},top,w,#[],h.upd ht,Ht,P0,rfl,rfl,fun τ d _ main cs=>hs _ _ _⟩⟩
theorem Js.ended(hs:∀(w:En) main cs,∃o w' es,stepG P main (G fr (top++cs)) w=.ended o w' es):Js P A fr top w:=⟨0,.inr (fun _ _ _ _ _=>hs _ _ _)⟩
theorem BF{k:List Xm}(h:fr.kind=.normal\/fr.kind=.deferred)(Yp:fr.kind=.normal\/k≠[])(cs:List Xm):tryRecover fr (k++cs)=(tryRecover fr k).map fun x=>(x.1,x.2++cs):=by
 rcases h with h|h
 ·unfold tryRecover;simp[h]
 ·cases k with
  |nil=>rcases Yp with e|e
        ·rw[h]at e;cases e
        ·exact absurd rfl e
  |cons c r=>
   unfold tryRecover;simp only[h,List.cons_append];split<;>simp_all
theorem MP{v:Dn}{l:List Xm}(Ht:sw P A fr.kind top)(hk:fr.kind=.normal\/fr.kind=.deferred)(e:tryRecover fr top=Gn (v,l)):sw P A fr.kind l:=by
 rcases hk with h|h
 ·unfold tryRecover at e;simp[h]at e
 ·unfold tryRecover at e;cases top with
  |nil=>simp[h]at e
  |cons c r=>
   simp only[h]at e;split at e
   ·rename_i hh
    cases e;refine⟨Ht.1.mode _,fun e=>?_,Ht.2.2⟩;rw[h]at e;cases e
   ·cases e
theorem vv.frame(H:yr P A){f:Nat}{args:Array Dn}{k:CallKind}(h:vv P A f args)(hk:k=.normal\/k=.deferred):jw P A (Frame.enter P f args k):=by
 obtain⟨hb,hs⟩:=h;obtain⟨fn,c,hf,hc,_,hA⟩:=IA hb;unfold Frame.enter;refine⟨⟨fn,hf⟩,rfl,hk,fun it zB=>?_,fun t=>?_,P0⟩
 ·simp only[hf,Option.bind_some,hc,Option.getD_some,List.mem_singleton]at zB;subst zB;exact H.code f fn c hA hf hc
 ·have:=hs t;simp only[]at this ⊢;have e:(args++Array.replicate (((P.funcs[f]?).map (·.ntmps)).getD 0-args.size) Bn).getD t Bn=args.getD t undef:=by
   rw[Array.getD_eq_getD_getElem?,Array.getD_eq_getD_getElem?];by_cases ht:t<args.size
   ·rw[Array.getElem?_append_left ht]
   ·rw[Array.getElem?_append_right E0,Array.getElem?_eq_none (by omega:args.size<=t),Array.getElem?_replicate];split<;>rfl
  rw[e];exact Vh
theorem TX{s:Sem Next}{ops:Array Oper}{i:Nat}{rest:List Nat}{k:List Item}{o:Oper}(H:yr P A)(h:jw P A fr)(Ht:sw P A fr.kind top)(ht:fr.todo=.inRegion ops (i::rest)::k)(ho:ops[i]?=Gn o)
  (hs:Ok P (KE P A fr.fn o) s)(Vv:∀w main cs,stepG P main (G fr (top++cs)) w=stepG.apply P Um fr (top++cs) Hn s w)(ew:∀g,P.stepOf g=Hn):Js P A fr top w:=by
 obtain⟨n,h1,h2,h3⟩:=OD P s w #[] hs;obtain⟨s1,s2⟩:=ly P s w #[] hs P0;have mK:(fr.kind==.early)=false:=by rcases h.kind with e|e<;>rw[e]<;>rfl
 have Yp:fr.kind=.normal\/top≠[]:=by
  cases top with
  |nil=>exact .inl Ht
  |cons=>exact .inr P0
 cases hr:(s.runT P w #[]).1 with
 |ok a w'=>
  rw[hr]at h1 h2 h3 s1;have key:∀τ d,qH w τ d n->∀main cs,stepG P main (G fr (top++cs)) (xq w τ d)=stepG.apply P Um fr (top++cs) Hn s (xq w τ d):=fun τ d _ main cs=>Vv _ _ _;have e3:∀τ d,qH w τ d n->s.runT P (xq w τ d) #[]=(.ok a (xq w' τ (d+n)),(s.runT P w #[]).2):=fun τ d hA=>h3 τ d hA;cases a with
  |value v=>
   refine⟨n,.inl ⟨fr.finish v,top,w',seen P fr.fn (s.runT P w #[]).2,h.finish ht ho s1,I5,Ut s2,h1,h2,fun τ d hA main cs=>?_⟩⟩;rw[key τ d hA];refine Yd ?_;simp[G]
  |skip=>
   refine⟨n,.inl ⟨fr.finish Bn,top,w',seen P fr.fn (s.runT P w #[]).2,h.finish ht ho zx.undef,I5,Ut s2,h1,h2,fun τ d hA main cs=>?_⟩⟩;rw[key τ d hA];refine Yd ?_;simp[G]
  |enter f args=>
   refine⟨n,.inl ⟨Frame.enter P f args .normal,fr::top,w',seen P fr.fn (s.runT P w #[]).2,s1.1.frame H (.inl rfl),⟨h,fun _ v=>h.finish ht ho (s1.2 v),Ht⟩,Ut s2,h1,h2,fun τ d hA main cs=>?_⟩⟩;rw[key τ d hA];simp only[stepG.apply,if_true,e3 τ d hA,mK,GStep.after,ht];simp[G]
  |defer df=>
   have h':jw P A {fr with defers:=df::fr.defers}:=⟨h.fn,h.round,h.kind,h.todo,h.slots,fun x hx=>by
    rcases List.mem_cons.1 hx with rfl|hx
    ·exact s1.1
    ·exact h.defers x hx⟩
   refine⟨n,.inl ⟨({fr with defers:=df::fr.defers}:Xm).finish Bn,top,w',seen P fr.fn (s.runT P w #[]).2,jw.finish (fr:={fr with defers:=df::fr.defers}) h' ht ho zx.undef,I5,Ut s2,h1,h2,fun τ d hA main cs=>?_⟩⟩;rw[key τ d hA];refine Yd ?_;simp[G]
  |recover=>
   have Z_:fr.roundOf=none:=h.round;cases A80:tryRecover fr top with
   |none=>
    refine⟨n,.inl ⟨fr.finish .nilIface,top,w',seen P fr.fn (s.runT P w #[]).2,h.finish ht ho (s1 _),I5,Ut s2,h1,h2,fun τ d hA main cs=>?_⟩⟩;refine Sj ?_;simp[G]
   |some x=>
    obtain⟨v,l⟩:=x;refine⟨n,.inl ⟨fr.finish v,l,w',seen P fr.fn (s.runT P w #[]).2,h.finish ht ho (s1 _),by rw[Dt];exact MP Ht h.kind A80,Ut s2,h1,h2,fun τ d hA main cs=>?_⟩⟩;refine Sj ?_;simp[G]
  |_=>exact s1.elim
 |halt hh w'=>
  rw[hr]at h1 h2 h3 s1;have e3:∀τ d,qH w τ d n->s.runT P (xq w τ d) #[]=(.halt hh (xq w' τ (d+n)),(s.runT P w #[]).2):=fun τ d hA=>h3 τ d hA;cases hh with
  |panic v=>
   refine⟨n,.inl ⟨fr.raise [{v,recovered:=Tm}],top,w',seen P fr.fn (s.runT P w #[]).2,h.raise _,by rw[pB];exact Ht,Ut s2,h1,h2,fun τ d hA main cs=>?_⟩⟩;rw[Vv];refine Yd ?_;simp[G]
  |stuck m=>
   refine⟨n,.inr (fun τ d hA main cs=>?_)⟩;rw[Vv];refine Yd ?_;exact⟨_,_,_,rfl⟩
  |unsupported u=>
   cases u with
   |initOrder g=>
    cases hfo:P.follows .staticDataAhead with
    |true=>
     refine⟨n,.inr (fun τ d hA main cs=>?_)⟩;rw[Vv];simp only[stepG.apply,if_true,e3 τ d hA,mK,GStep.after,early,hfo,ew];exact⟨_,_,_,rfl⟩
    |false=>
     cases hg:w'.heap[g]? with
     |none=>
      refine⟨n,.inr (fun τ d hA main cs=>?_)⟩;rw[Vv];have jJ:(xq w' τ (d+n)).heap[g]?=none:=hg;refine Gh ?_;exact⟨_,_,_,rfl⟩
     |some ob=>
      cases ob with
      |pending c e=>
       refine⟨n,.inl ⟨fr,top,{w' with heap:=w'.heap.setIfInBounds g (.cells c e)},seen P fr.fn #[],h,Ht,Ut P0,h1,h2,fun τ d hA main cs=>?_⟩⟩;rw[Vv];have jJ:(xq w' τ (d+n)).heap[g]?=Gn (.pending c e):=hg;refine Gh ?_;simp[G,xq]
      |_=>
       refine⟨n,.inr (fun τ d hA main cs=>?_)⟩;rw[Vv];have jJ:(xq w' τ (d+n)).heap[g]?=w'.heap[g]?:=rfl;rw[hg]at jJ;refine Gh ?_;exact⟨_,_,_,rfl⟩
   |_=>
    refine⟨n,.inr (fun τ d hA main cs=>?_)⟩;rw[Vv];refine Yd ?_;exact⟨_,_,_,rfl⟩
  |_=>exact s1.elim
end
section
variable {P:Ym}{A:xA}{fr:Xm}{top:List Xm}{w:En}
theorem aG(hm:fr.mode=.run)(main:Bool)(cs:List Xm)(w:En):stepG P main (G fr cs) w=stepG.exec P main Um fr cs Hn w:=by
 unfold stepG G;simp only[hm]
theorem zt(hm:fr.mode≠.run)(main:Bool)(cs:List Xm)(w:En):stepG P main (G fr cs) w=unwind P main fr cs Hn w:=by
 unfold stepG G;cases hx:fr.mode with
 |run=>exact absurd hx hm
 |returning=>simp only[hx]
 |panicking c=>simp only[hx]
theorem o20{d:Deferred}(H:yr P A)(hd:UL P A d):Ok P (fun n=>(∃v,n=.value v)\/∃f args,n=.enter f args/\vv P A f args) (invoke d.target d.args):=by
 rcases hd with⟨b,ts,t,cs,e,hb⟩|⟨f,c,e,hb,hn⟩
 ·rw[e];exact Ok.mono (fun _ h=>.inl h) (nM hb _ _ _ _)
 ·rw[e];obtain⟨fn,_,hf,_⟩:=IA hb;exact Ok.mono (fun n h=>.inr ⟨f,_,h,hb,zo H hf hn _⟩) (TE (args:=d.args++c) hb)
theorem notNil{d:Deferred}(hd:UL P A d):(match d.target with|.nil=>Um|_=>Tm)=false:=by
 rcases hd with⟨b,ts,t,cs,e,_⟩|⟨f,c,e,_⟩<;>rw[e]
theorem LO{d:Deferred}{ds:List Deferred}(H:yr P A)(h:jw P A fr)(Ht:sw P A fr.kind top)(hm:fr.mode≠.run)(hds:fr.defers=d::ds):Js P A fr top w:=by
 have hd:UL P A d:=h.defers d (by rw[hds];exact List.mem_cons_self);have hi:=o20 H hd;obtain⟨n,h1,h2,h3⟩:=OD P _ w #[] hi;obtain⟨s1,s2⟩:=ly P _ w #[] hi P0;have h':jw P A {fr with defers:=ds}:=⟨h.fn,h.round,h.kind,h.todo,h.slots,fun x hx=>h.defers x (by rw[hds];exact List.mem_cons_of_mem _ hx)⟩;have Vv:∀w main cs,stepG P main (G fr (top++cs)) w=callDeferred P {fr with defers:=ds} (top++cs) Hn d w:=fun w main cs=>by
  rw[zt hm];unfold unwind;rw[hds];rcases hd with⟨b,ts,t,cs,e,_⟩|⟨f,c,e,_⟩
  ·obtain⟨tg,ar⟩:=d;simp only at e;subst e;rfl
  ·obtain⟨tg,ar⟩:=d;simp only at e;subst e;rfl
 have lF:∀(X:Prop),(match d.target with|.nil=>Um|_=>Tm)=Um->X:=fun X hx=>by
  rcases hd with⟨b,ts,t,cs,e,_⟩|⟨f,c,e,_⟩<;>rw[e]at hx<;>cases hx
 cases hr:((invoke d.target d.args).runT P w #[]).1 with
 |ok a w'=>
  rw[hr]at h1 h2 h3 s1;have e3:∀τ dd,qH w τ dd n->(invoke d.target d.args).runT P (xq w τ dd) #[]=(.ok a (xq w' τ (dd+n)),((invoke d.target d.args).runT P w #[]).2):=fun τ dd hA=>h3 τ dd hA;rcases s1 with⟨v,rfl⟩|⟨f,args,rfl,hen⟩
  ·refine⟨n,.inl ⟨{fr with defers:=ds},top,w',seen P fr.fn ((invoke d.target d.args).runT P w #[]).2,h',Ht,Ut s2,h1,h2,fun τ dd hA main cs=>?_⟩⟩;refine Ze ?_;simp[G];exact lF _
  ·refine⟨n,.inl ⟨Frame.enter P f args .deferred,{fr with defers:=ds}::top,w',seen P fr.fn ((invoke d.target d.args).runT P w #[]).2,hen.frame H (.inr rfl),⟨h',fun e=>I3,Ht⟩,Ut s2,h1,h2,fun τ dd hA main cs=>?_⟩⟩;refine Ze ?_;simp[G];exact lF _
 |halt hh w'=>
  rw[hr]at h1 h2 h3 s1;have e3:∀τ dd,qH w τ dd n->(invoke d.target d.args).runT P (xq w τ dd) #[]=(.halt hh (xq w' τ (dd+n)),((invoke d.target d.args).runT P w #[]).2):=fun τ dd hA=>h3 τ dd hA;cases hh with
  |panic v=>
   refine⟨n,.inl ⟨({fr with defers:=ds}:Xm).raise [{v,recovered:=Tm}],top,w',seen P fr.fn ((invoke d.target d.args).runT P w #[]).2,h'.raise _,by rw[pB];exact Ht,Ut s2,h1,h2,fun τ dd hA main cs=>?_⟩⟩;refine Ze ?_;simp[G];exact lF _
  |stuck m=>
   refine⟨n,.inr (fun τ dd hA main cs=>?_)⟩;refine Ze ?_;repeat' split
   all_goals exact⟨_,_,_,rfl⟩
  |unsupported u=>
   refine⟨n,.inr (fun τ dd hA main cs=>?_)⟩;refine Ze ?_;repeat' split
   all_goals exact⟨_,_,_,rfl⟩
  |_=>exact s1.elim
theorem LD(fn:Func)(tmps:Array Dn):Ok P T (results fn tmps):=by
 unfold results;refine Ok.nu (uI _ (fun x=>?_) _) fun _=>trivial;cases x with
 |tmp t=>exact trivial
 |cell a t=>exact Ok.nu (ZP _) fun _=>pN _ _
theorem gW(h:jw P A fr){c:Xm}{rest:List Xm}(Ht:sw P A fr.kind (c::rest))(v:Dn):∃c',jw P A c'/\sw P A c'.kind rest/\
  ∀main cs (w:En),doReturn P main fr (c::(rest++cs)) Hn v w=.go (G c' (rest++cs)) w:=by
 rcases h.kind with hk|hk
 ·refine⟨c.finish v,Ht.2.1 hk v,by rw[Dt];exact Ht.2.2,fun main cs w=>?_⟩;unfold doReturn;simp only[hk];rfl
 ·have hb:∀m,jw P A {c with mode:=m}:=fun m=>Ht.1.mode m;unfold doReturn;simp only[hk];cases hm:c.mode with
  |panicking chain=>
   cases chain with
   |nil=>exact⟨c,Ht.1,Ht.2.2,fun _ _ _=>rfl⟩
   |cons x older=>
    obtain⟨xv,xr,xg⟩:=x;cases xr with
    |false=>exact⟨c,Ht.1,Ht.2.2,fun _ _ _=>rfl⟩
    |true=>
     cases ZM:older.dropWhile (!·.goexit)with
     |nil=>exact⟨{c with mode:=.returning},hb _,Ht.2.2,fun _ _ _=>by simp only[ZM];rfl⟩
     |cons y l=>exact⟨{c with mode:=.panicking (y::l)},hb _,Ht.2.2,fun _ _ _=>by simp only[ZM];rfl⟩
  |_=>exact⟨c,Ht.1,Ht.2.2,fun _ _ _=>rfl⟩
theorem Jz(h:jw P A fr):fr.catches P=false:=by
 obtain⟨fn,hf⟩:=h.fn;unfold Frame.catches;rw[hf]
theorem WW(h:jw P A fr){c:Xm}{rest:List Xm}(Ht:sw P A fr.kind (c::rest))(hm:fr.mode≠.run)(hds:fr.defers=[]):Js P A fr (c::rest) w:=by
 have Vv:∀w main cs,stepG P main (G fr ((c::rest)++cs)) w=unwind P main fr (c::(rest++cs)) Hn w:=fun w main cs=>zt hm _ _ _;cases hx:fr.mode with
 |run=>exact absurd hx hm
 |panicking chain=>
  refine⟨0,.inl ⟨c.raise chain,rest,w,#[],Ht.1.raise _,by rw[pB];exact Ht.2.2,P0,rfl,rfl,fun τ d _ main cs=>?_⟩⟩;rw[Vv];unfold unwind;simp only[hds,hx,Jz h];rfl
 |returning=>
  obtain⟨fn,hf⟩:=h.fn;have ho:=LD (P:=P) fn fr.tmps;obtain⟨n,h1,h2,h3⟩:=OD P _ w #[] ho;obtain⟨s1,s2⟩:=ly P _ w #[] ho P0;cases hr:((results fn fr.tmps).runT P w #[]).1 with
  |ok v w'=>
   rw[hr]at h1 h2 h3;obtain⟨c',QM,mH,hc3⟩:=gW h Ht v;refine⟨n,.inl ⟨c',rest,w',seen P fr.fn ((results fn fr.tmps).runT P w #[]).2,QM,mH,Ut s2,h1,h2,fun τ d hA main cs=>?_⟩⟩;have e3:(results fn fr.tmps).runT P (xq w τ d) #[]=(.ok v (xq w' τ (d+n)),((results fn fr.tmps).runT P w #[]).2):=h3 τ d hA;rw[Vv];unfold unwind;simp only[hds,hx,hf,e3,hc3,GStep.after];simp
  |halt hh w'=>
   rw[hr]at h1 h2 h3;refine⟨n,.inr (fun τ d hA main cs=>?_)⟩;have e3:(results fn fr.tmps).runT P (xq w τ d) #[]=(.halt hh (xq w' τ (d+n)),((results fn fr.tmps).runT P w #[]).2):=h3 τ d hA;rw[Vv];unfold unwind;simp only[hds,hx,hf,e3];cases hh<;>exact⟨_,_,_,rfl⟩
theorem fJ{id:Nat}:∀{k l:List Item}{h:Nat},(∀it∈k,ay P A h it)->exitTo id k=Gn l->∀it∈l,ay P A h it
 | [],l,h,_,e=>by simp[exitTo]at e
 |x::k,l,h,hk,e=>by
  have jK:∀it∈k,ay P A h it:=fun it zB=>hk it (List.mem_cons_of_mem _ zB);cases x with
  |inBlock id'=>
   unfold exitTo at e;split at e
   ·cases e;exact jK
   ·exact fJ jK e
  |_=>exact fJ jK (by simpa[exitTo]using e)
theorem vK(P:Ym)(q:Question)(w:En):∃n t,∃w':En,w'.tape=w.tape/\w'.drawn=w.drawn+n/\∀τ d,qH w τ d n->(choose q).run P (xq w τ d)=.ok t (xq w' τ (d+n)):=by
 unfold choose;by_cases hq:q.forced=Um
 ·exact⟨0,0,w,rfl,rfl,fun τ d _=>by simp[Sem.run,hq]⟩
 ·refine⟨1,q.cut (w.tape w.drawn q),{w with drawn:=w.drawn+1},rfl,rfl,fun τ d hA=>?_⟩;have h0:=hA 0 E0;simp only[Nat.add_zero]at h0;have e:(xq w τ d).tape (xq w τ d).drawn q=w.tape w.drawn q:=congrFun h0 q;simp only[Sem.run,hq];rw[e];rfl
section
variable (H:yr P A)(ew:∀g,P.stepOf g=Hn)(h:jw P A fr)(Ht:sw P A fr.kind top)
include H ew h Ht
theorem y10(hm:fr.mode=.run):Js P A fr top w:=by
 have Vv:∀w main cs,stepG P main (G fr (top++cs)) w=stepG.exec P main Um fr (top++cs) Hn w:=fun w main cs=>aG hm _ _ _;have hto:=h.todo;have Z_:=h.round;cases ht:fr.todo with
 |nil=>
  refine⟨0,.inl ⟨{fr with mode:=.returning},top,w,#[],h.mode _,Ht,P0,rfl,rfl,fun τ d _ main cs=>?_⟩⟩;rw[Vv];simp only[stepG.exec,ht,Z_];simp[G]
 |cons it k=>
  rw[ht]at hto;have hk:∀x∈k,ay P A fr.fn x:=fun x hx=>hto x (List.mem_cons_of_mem _ hx);have zB:=hto it List.mem_cons_self;have two:∀{a b:Item},ay P A fr.fn a->ay P A fr.fn b->∀x∈a::b::k,ay P A fr.fn x:=fun ha hb x hx=>by
   rcases List.mem_cons.1 hx with rfl|hx
   ·exact ha
   ·rcases List.mem_cons.1 hx with rfl|hx
    ·exact hb
    ·exact hk x hx
  have one:∀{a:Item},ay P A fr.fn a->∀x∈a::k,ay P A fr.fn x:=fun ha x hx=>by
   rcases List.mem_cons.1 hx with rfl|hx
   ·exact ha
   ·exact hk x hx
  cases it with
  |inBlock id=>exact Js.to h Ht hk fun w main cs=>by rw[Vv];refine Pg ?_;simp[G]
  |inScope c=>exact Js.to h Ht hk fun w main cs=>by rw[Vv];refine Pg ?_;simp[G]
  |inLoop c=>exact Js.to h Ht (two (a:=.code c) (b:=.inLoop c) zB zB) fun w main cs=>by rw[Vv];refine Pg ?_;simp[G]
  |inRegion ops l=>
   cases l with
   |nil=>exact Js.to h Ht hk fun w main cs=>by rw[Vv];refine Pg ?_;simp[G]
   |cons i rest=>
    cases WC:((ops[i]?).map (Region.wanted · (yielded ops fr.tmps))).getD Tm with
    |true=>
     obtain⟨o,ho⟩:∃o,ops[i]?=Gn o:=by
      cases hx:ops[i]? with
      |none=>rw[hx]at WC;cases WC
      |some o=>exact⟨o,rfl⟩
     have hpl:Ro P A fr.fn o=true:=by
      have:ops.all (Ro P A fr.fn)=true:=zB;exact Si
     refine TX H h Ht ht ho (eJ (ρ:=fr.eval) H h.slots (fun _=>rfl) hpl) (fun w main cs=>?_) ew;rw[Vv];rw[ho]at WC;simp only[stepG.exec,ht,stepG.oper,Frame.oper?,ho,Z_];rw[if_pos WC]
    |false=>
     by_cases hn:∃o,ops[i]?=Gn o
     ·obtain⟨o,ho⟩:=hn;refine⟨0,.inl ⟨fr.finish Bn,top,w,#[],h.finish ht ho zx.undef,I5,P0,rfl,rfl,fun τ d _ main cs=>?_⟩⟩;rw[Vv];exact Ek
     ·have oH:ops[i]?=none:=by
       cases hx:ops[i]? with
       |none=>rfl
       |some o=>exact absurd ⟨o,hx⟩ hn
      have e:fr.finish Bn={fr with todo:=.inRegion ops rest::k}:=by
       unfold Frame.finish;rw[ht];simp[oH]
      refine Js.to h Ht (one (a:=.inRegion ops rest) zB) fun w main cs=>?_;rw[Vv,<-e];exact Ek
  |code c=>
   cases c with
   |skip=>exact Js.to h Ht hk fun w main cs=>by rw[Vv];refine Pg ?_;simp[G]
   |label l=>exact Js.to h Ht hk fun w main cs=>by rw[Vv];refine Pg ?_;simp[G]
   |seq a b=>
    have hp:zq P A fr.fn a=Um/\zq P A fr.fn b=true:=by
     have:zq P A fr.fn (.seq a b)=true:=zB;exact nh
    exact Js.to h Ht (two (a:=.code a) (b:=.code b) hp.1 hp.2) fun w main cs=>by rw[Vv];refine Pg ?_;simp[G]
   |cond x a b=>
    have hp:zq P A fr.fn a=Um/\zq P A fr.fn b=true:=by
     have:zq P A fr.fn (.cond x a b)=true:=zB;exact nh
    cases hx:fr.eval x with
    |bool bb=>
     cases bb with
     |true=>exact Js.to h Ht (one (a:=.code a) hp.1) fun w main cs=>by rw[Vv];simp only[stepG.exec,ht,hx];simp[G]
     |false=>exact Js.to h Ht (one (a:=.code b) hp.2) fun w main cs=>by rw[Vv];simp only[stepG.exec,ht,hx];simp[G]
    |_=>exact Js.ended fun w main cs=>by rw[Vv];simp only[stepG.exec,ht,hx];exact⟨_,_,_,rfl⟩
   |block id c=>
    have hp:zq P A fr.fn c=true:=by
     have:zq P A fr.fn (.block id c)=true:=zB;exact nh
    exact Js.to h Ht (two (a:=.code c) (b:=.inBlock id) hp trivial) fun w main cs=>by rw[Vv];refine Pg ?_;simp[G]
   |loop c=>
    have hp:zq P A fr.fn c=true:=by
     have:zq P A fr.fn (.loop c)=true:=zB;exact nh
    exact Js.to h Ht (two (a:=.code c) (b:=.inLoop c) hp hp) fun w main cs=>by rw[Vv];refine Pg ?_;simp[G]
   |scope c=>
    have hp:zq P A fr.fn c=true:=by
     have:zq P A fr.fn (.scope c)=true:=zB;exact nh
    exact Js.to h Ht (two (a:=.code c) (b:=.inScope c) hp hp) fun w main cs=>by rw[Vv];refine Pg ?_;simp[G]
   |ret=>
    refine⟨0,.inl ⟨{fr with mode:=.returning},top,w,#[],h.mode _,Ht,P0,rfl,rfl,fun τ d _ main cs=>?_⟩⟩;rw[Vv];simp only[stepG.exec,ht,Z_];simp[G]
   |exit id=>
    cases hx:exitTo id k with
    |some l=>exact Js.to h Ht (fJ hk hx) fun w main cs=>by rw[Vv];simp only[stepG.exec,ht,hx];simp[G]
    |none=>exact Js.ended fun w main cs=>by rw[Vv];simp only[stepG.exec,ht,hx,Z_];exact⟨_,_,_,rfl⟩
   |region id ops draw=>
    have hp:ops.all (Ro P A fr.fn)=true:=by
     have:zq P A fr.fn (.region id ops draw)=true:=zB;exact nh
    cases draw with
    |false=>exact Js.to h Ht (one (a:=.inRegion ops (Hm ops.size)) hp) fun w main cs=>by rw[Vv];refine Pg ?_;simp[G]
    |true=>
     obtain⟨n,t,w',q1,q2,q3⟩:=vK P (.order fr.fn id) w;refine⟨n,.inl ⟨{fr with todo:=.inRegion ops (Region.schedule (P.follows .mixedOrders) ops t)::k},top,w',#[],h.upd (one (a:=.inRegion ops _) hp),Ht,P0,q1,q2,fun τ d hA main cs=>?_⟩⟩;rw[Vv];simp only[stepG.exec,ht,q3 τ d hA];simp[G]
   |_=>
    exfalso;simp[ay,zq]at zB
  |_=>exact(zB:False).elim
theorem SJ(hl:fr.mode=.run\/fr.defers≠[]\/top≠[])(w:En):Js P A fr top w:=by
 by_cases hm:fr.mode=.run
 ·exact y10 H ew h Ht hm
 ·cases hd:fr.defers with
  |cons d ds=>exact LO H h Ht hm hd
  |nil=>
   cases top with
   |nil=>rcases hl with e|e|e
         ·exact absurd e hm
         ·exact absurd hd e
         ·exact absurd rfl e
   |cons c rest=>exact WW h Ht hm hd
end
end
end Go.Proofs.YtdoghgnifkgfdaaGreat.Mute
