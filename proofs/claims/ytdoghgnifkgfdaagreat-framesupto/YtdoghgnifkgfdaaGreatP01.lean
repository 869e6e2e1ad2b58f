import Derived.Test.YtdoghgnifkgfdaaGreatP00
set_option maxRecDepth 100000
set_option maxHeartbeats 16000000
open Option renaming none->Ai,some->yi
open Go renaming World->ui,Value->ti,undef->ri
open Bool renaming true->ji,false->gi
namespace Go.Proofs.YtdoghgnifkgfdaaGreat
open Tryz
def Rj(w:ui)(τ:Nat->Question->Nat)(d:Nat):World:={w with tape:=τ,drawn:=d}
def reR{α:Type}(τ:Nat->Question->Nat)(d:Nat):Result α->Result α
 |.ok a w=>.ok a (Rj w τ d)
 |.halt h w=>.halt h (Rj w τ d)
def OU{α:Type}:Result α->ui
 |.ok _ w=>w
 |.halt _ w=>w
namespace Mute
def XM:Halt->Prop
 |.panic _|.unsupported _|.stuck _=>True
 |_=>False
def Ok(P:Program){α:Type}(L:α->Prop):Sem α->Prop
 |.pure a=>L a
 |.load _ _ k=>∀v,Ok P L (k v)
 |.store _ _ _ k=>Ok P L k
 |.new _ k=>∀r,Ok P L (k r)
 |.shape _ k=>∀s,Ok P L (k s)
 |.freeze _ _ k=>Ok P L k
 |.frozen _ k=>∀b,Ok P L (k b)
 |.getObj _ k=>∀o,Ok P L (k o)
 |.setObj _ _ k=>Ok P L k
 |.choose _ k=>∀n,Ok P L (k n)
 |.sys _ _=>False
 |.program k=>Ok P L (k P)
 |.mark m k=>(m≠.disable/\m≠.enable)/\Ok P L k
 |.halt h=>XM h
def T{α:Type}(_:α):Prop:=True
section
variable {P:Program}{α β:Type}
theorem Ok.bind{L:α->Prop}{M:β->Prop}{f:α->Sem β}(hf:∀a,L a->Ok P M (f a)):∀{s:Sem α},Ok P L s->Ok P M (s.bind f)
 |.pure a,h=>hf a h
 |.load _ _ _,h=>fun v=>Ok.bind hf (h v)
 |.store _ _ _ k,h=>Ok.bind hf (s:=k) h
 |.new _ _,h=>fun r=>Ok.bind hf (h r)
 |.shape _ _,h=>fun r=>Ok.bind hf (h r)
 |.freeze _ _ k,h=>Ok.bind hf (s:=k) h
 |.frozen _ _,h=>fun r=>Ok.bind hf (h r)
 |.getObj _ _,h=>fun r=>Ok.bind hf (h r)
 |.setObj _ _ k,h=>Ok.bind hf (s:=k) h
 |.choose _ _,h=>fun r=>Ok.bind hf (h r)
 |.sys _ _,h=>h.elim
 |.program k,h=>Ok.bind hf (s:=k P) h
 |.mark _ k,h=>⟨h.1,Ok.bind hf (s:=k) h.2⟩
 |.halt _,h=>h
theorem Ok.Qm{M:β->Prop}{s:Sem α}{f:α->Sem β}(h:Ok P T s)(hf:∀a,Ok P M (f a)):Ok P M (s >>= f):=Ok.bind (L:=T) (fun a _=>hf a) h
theorem Ok.vF{L:α->Prop}{M:β->Prop}{s:Sem α}{f:α->Sem β}(h:Ok P L s)(hf:∀a,L a->Ok P M (f a)):Ok P M (s >>= f):=Ok.bind hf h
theorem Ok.tf0(a:α):Ok P T (pure a:Sem α):=trivial
theorem Ok.map{s:Sem α}(f:α->β)(h:Ok P T s):Ok P T (f <$> s):=Ok.Qm (P:=P) (M:=T) (f:=fun a=>pure (f a)) h fun _=>trivial
end
section
variable {P:Program}
theorem UU(a:Addr)(m:Mode):Ok P T (load a m):=fun _=>trivial
theorem O00(a:Addr)(v:ti)(m:Mode):Ok P T (store a v m):=trivial
theorem MZ(o:Obj):Ok P T (newObj o):=fun _=>trivial
theorem m30(r:Nat):Ok P T (shape r):=fun _=>trivial
theorem KZ(a:Addr)(n:Nat):Ok P T (freeze a n):=trivial
theorem LW(a:Addr):Ok P T (frozen a):=fun _=>trivial
theorem EK(r:Nat):Ok P T (getObj r):=fun _=>trivial
theorem dX(r:Nat)(o:Obj):Ok P T (setObj r o):=trivial
theorem d_(q:Question):Ok P T (choose q):=fun _=>trivial
theorem cB:Ok P T program:=trivial
theorem Nr{α:Type}(s:String):Ok P T (stuck s:Sem α):=trivial
theorem bz{α:Type}(u:Unsupported):Ok P T (unsupported u:Sem α):=trivial
theorem OH{α:Type}(v:ti):Ok P T (goPanic v:Sem α):=trivial
theorem bR(n:Nat):Ok P T (askRoom n):=by
 unfold askRoom;split
 ·exact⟨⟨P0,P0⟩,trivial⟩
 ·exact trivial
end
def Local{α:Type}(p:Program)(s:Sem α)(w:ui)(es:Array Event):Prop:=
 ∃n,(OU (s.runT p w es).1).tape=w.tape/\(OU (s.runT p w es).1).drawn=w.drawn+n/\
  ∀τ d,(∀k,k<n->τ (d+k)=w.tape (w.drawn+k))->s.runT p (Rj w τ d) es=(reR τ (d+n) (s.runT p w es).1,(s.runT p w es).2)
theorem BV(w:ui)(τ:Nat->Question->Nat)(d:Nat)(a:Addr):(Rj w τ d).cell? a=w.cell? a:=rfl
theorem b_(w:ui)(τ:Nat->Question->Nat)(d:Nat)(a:Addr):(Rj w τ d).frozen? a=w.frozen? a:=rfl
theorem XT(p:Program)(w:ui)(τ:Nat->Question->Nat)(d:Nat)(a:Addr)(b:Bool):(Rj w τ d).farLoad p a b=w.farLoad p a b:=rfl
theorem ER(w:ui)(τ:Nat->Question->Nat)(d:Nat)(a:Addr)(v:ti):(Rj w τ d).setCell a v=Rj (w.setCell a v) τ d:=rfl
theorem h_(w:ui)(τ:Nat->Question->Nat)(d:Nat)(a:Addr)(n:Nat):(Rj w τ d).freeze a n=Rj (w.freeze a n) τ d:=by
 unfold World.freeze;split<;>rfl
theorem FM(p:Program)(w:ui)(τ:Nat->Question->Nat)(d:Nat)(a b:Addr)(t:TypeId)(v:ti)(at_:Bool):(Rj w τ d).viewStore p a t b v at_=(w.viewStore p a t b v at_).map (fun x=>(Rj x.1 τ d,x.2)):=by
 have hs:(Rj w τ d).seen p a t b at_=w.seen p a t b at_:=rfl;unfold World.viewStore;rw[hs];cases tight p p.depth t with
 |false=>rfl
 |true=>
  cases w.seen p a t b at_ with
  |error e=>rfl
  |ok r=>
   obtain⟨c,e,fz,first,like,cells⟩:=r;cases hb:v.bytes? with
   |none=>rfl
   |some bytes=>
    simp only[bind,Except.bind,pure,Except.pure,Bool.not_true,Bool.false_eq_true,if_false];split
    ·rfl
    ·split<;>rfl
theorem cF(p:Program)(w:ui)(τ:Nat->Question->Nat)(d:Nat)(a:Addr)(v:ti)(b:Bool):(Rj w τ d).farStore p a v b=(w.farStore p a v b).map (fun x=>(Rj x.1 τ d,x.2)):=by
 have hh:(Rj w τ d).heap=w.heap:=rfl;unfold World.farStore;rw[hh];split
 ·rw[FM];cases w.viewStore p _ _ a v b<;>rfl
 ·rfl
theorem IJ{p:Program}{w w':ui}{a:Addr}{v:ti}{b:Bool}{l:List Addr}(h:w.farStore p a v b=.ok (w',l)):w'.tape=w.tape/\w'.drawn=w.drawn:=by
 have e:=cF p w w.tape w.drawn a v b;have e0:Rj w w.tape w.drawn=w:=rfl;rw[e0,h]at e;have e1:w'=Rj w' w.tape w.drawn:=congrArg Prod.fst (Except.ok.inj e);have t1:w'.tape=(Rj w' w.tape w.drawn).tape:=congrArg World.tape e1;have t2:w'.drawn=(Rj w' w.tape w.drawn).drawn:=congrArg World.drawn e1;exact⟨t1,t2⟩
theorem mS{α:Type}(p:Program)(a:α)(w:ui)(es:Array Event):Local p (.pure a) w es:=⟨0,rfl,rfl,fun _ _ _=>rfl⟩
theorem sS{α:Type}(p:Program)(h:Halt)(w:ui)(es:Array Event):Local (α:=α) p (.halt h) w es:=⟨0,rfl,rfl,fun _ _ _=>rfl⟩
theorem Xx{α:Type}(p:Program){L:α->Prop}:∀(s:Sem α)(w:ui)(es:Array Event),Ok p L s->Local p s w es:=by
 intro s;induction s with
 |pure a=>exact fun w es _=>mS p a w es
 |load m a k ih=>
  intro w es h;unfold Local;simp only[Sem.runT,BV,XT];cases hc:w.cell? a with
  |some v=>exact ih v w _ (h v)
  |none=>
   cases hf:w.farLoad p a (m==.atomic)with
   |ok r=>exact ih r.1 w _ (h r.1)
   |error e=>exact⟨0,rfl,rfl,fun _ _ _=>rfl⟩
 |store m a v k ih=>
  intro w es h;have go:∀(hv:∀c,v≠.agg c)(ht:∀c,v≠.tuple c),Local p (.store m a v k) w es:=fun hv ht=>by
   have e:∀(w:ui),Sem.runT p (.store m a v k) w es=(match w.cell? a with
    | some _ => if w.frozen? a then (.halt (.unsupported (.unsafePointer "a write to bytes that a string shares")) w, es) else k.runT p (w.setCell a v) (es.push ⟨.cell a, ji, m == .atomic⟩)
    |none=>match w.farStore p a v (m==.atomic)with
     |.ok (w,touched)=>k.runT p w (es++touched.toArray.map (⟨.cell ·,ji,m==.atomic⟩))
     |.error h=>(.halt h w,es)):=fun w=>by
    cases v<;>first|rfl|exact absurd rfl (hv _)|exact absurd rfl (ht _)
   unfold Local;simp only[e,BV,b_,cF,ER];cases hc:w.cell? a with
   |some x=>
    simp only[];by_cases hz:w.frozen? a=ji
    ·simp only[hz,if_true];exact⟨0,rfl,rfl,fun _ _ _=>rfl⟩
    ·simp only[hz];exact ih (w.setCell a v) _ h
   |none=>
    simp only[];cases hf:w.farStore p a v (m==.atomic)with
    |ok r=>
     obtain⟨w',l⟩:=r;have hk:=IJ hf;have hx:=ih w' (es++l.toArray.map (⟨.cell ·,ji,m==.atomic⟩)) h;unfold Local at hx;rw[hk.1,hk.2]at hx;exact hx
    |error e=>exact⟨0,rfl,rfl,fun _ _ _=>rfl⟩
  cases v with
  |agg c=>exact⟨0,rfl,rfl,fun _ _ _=>rfl⟩
  |tuple c=>exact⟨0,rfl,rfl,fun _ _ _=>rfl⟩
  |_=>exact go P0 P0
 |new o k ih=>intro w es h;exact ih _ {w with heap:=w.heap.push o} es (h _)
 |shape r k ih=>intro w es h;exact ih _ w es (h _)
 |freeze a n k ih=>
  intro w es h;unfold Local;simp only[Sem.runT,h_];have:=ih (w.freeze a n) es h;unfold Local at this;have e1:(w.freeze a n).tape=w.tape:=by unfold World.freeze;split<;>rfl
  have e2:(w.freeze a n).drawn=w.drawn:=by unfold World.freeze;split<;>rfl
  rw[e1,e2]at this;exact this
 |frozen a k ih=>intro w es h;exact ih _ w es (h _)
 |getObj r k ih=>
  intro w es h;unfold Local;simp only[Sem.runT];have hh:∀τ d,(Rj w τ d).heap=w.heap:=fun _ _=>rfl;simp only[hh];cases ho:w.heap[r]? with
  |none=>exact⟨0,rfl,rfl,fun _ _ _=>rfl⟩
  |some o=>
   cases o with
   |cells c e f=>exact⟨0,rfl,rfl,fun _ _ _=>rfl⟩
   |_=>exact ih _ w _ (h _)
 |setObj r o k ih=>
  intro w es h;unfold Local;simp only[Sem.runT];have hh:∀τ d,(Rj w τ d).heap=w.heap:=fun _ _=>rfl;simp only[hh];cases ho:w.heap[r]? with
  |none=>exact⟨0,rfl,rfl,fun _ _ _=>rfl⟩
  |some x=>
   cases x with
   |cells c e f=>exact⟨0,rfl,rfl,fun _ _ _=>rfl⟩
   |_=>exact ih {w with heap:=w.heap.setIfInBounds r o} _ h
 |choose q k ih=>
  intro w es h;unfold Local;simp only[Sem.runT];by_cases hq:q.forced=ji
  ·simp only[hq,if_true];exact ih 0 w es (h 0)
  ·simp only[hq];obtain⟨n,h1,h2,h3⟩:=ih (q.cut (w.tape w.drawn q)) {w with drawn:=w.drawn+1} es (h _);refine⟨n+1,h1,?_,fun τ d ha=>?_⟩
   ·show _=w.drawn+(n+1);have h2':_=w.drawn+1+n:=h2;exact h2'.trans E0
   ·have e0:(Rj w τ d).tape (Rj w τ d).drawn q=w.tape w.drawn q:=by
     have:=ha 0 E0;simp only[Nat.add_zero]at this;exact congrFun this q
    show Sem.runT p (k (q.cut ((Rj w τ d).tape (Rj w τ d).drawn q))) {Rj w τ d with drawn:=d+1} es=_;rw[e0];have:=h3 τ (d+1) (fun j hj=>by
     have hx:=ha (j+1) E0;show τ (d+1+j)=w.tape (w.drawn+1+j);rw[show d+1+j=d+(j+1)by omega,show w.drawn+1+j=w.drawn+(j+1)by omega];exact hx)
    rw[show d+(n+1)=d+1+n by omega];exact nh
 |sys c k ih=>intro w es h;exact h.elim
 |program k ih=>intro w es h;exact ih p w es h
 |mark m k ih=>intro w es h;exact ih w _ h.2
 |halt h=>exact fun w es _=>sS p h w es
def ko(e:Event):Prop:=e.loc≠.mark .disable/\e.loc≠.mark .enable
def V60{α:Type}(L:α->Prop):Result α->Prop
 |.ok a _=>L a
 |.halt h _=>XM h
theorem KL{p:Program}{w:ui}{a:Addr}{b:Bool}{h:Halt}(e:w.farLoad p a b=.error h):XM h:=by
 unfold World.farLoad at e;split at e
 ·split at e
  ·cases e
  ·cases e;trivial
 ·cases e;unfold World.noCell;split<;>trivial
theorem RI{p:Program}{w:ui}{a:Addr}{v:ti}{b:Bool}{h:Halt}(e:w.farStore p a v b=.error h):XM h:=by
 unfold World.farStore at e;split at e
 ·split at e
  ·cases e
  ·cases e;trivial
 ·cases e;unfold World.noCell;split<;>trivial
theorem Yj(a:Addr)(wr sy:Bool):ko ⟨.cell a,wr,sy⟩:=⟨P0,P0⟩
theorem BH(r:Nat)(wr sy:Bool):ko ⟨.obj r,wr,sy⟩:=⟨P0,P0⟩
theorem Uu{es:Array Event}{e:Event}(h:∀x∈es,ko x)(he:ko e):∀x∈es.push e,ko x:=fun x hx=>by
 rcases Array.mem_push.1 hx with hx|rfl
 ·exact h x hx
 ·exact he
theorem KG{es:Array Event}(l:List Addr)(wr sy:Bool)(h:∀x∈es,ko x):∀x∈es++l.toArray.map (⟨.cell ·,wr,sy⟩),ko x:=fun x hx=>by
 rcases Array.mem_append.1 hx with hx|hx
 ·exact h x hx
 ·obtain⟨a,_,rfl⟩:=Array.mem_map.1 hx;exact Yj a wr sy
theorem Vq{α:Type}(p:Program){L:α->Prop}:∀(s:Sem α)(w:ui)(es:Array Event),Ok p L s->(∀e∈es,ko e)->V60 L (s.runT p w es).1/\∀e∈(s.runT p w es).2,ko e:=by
 intro s;induction s with
 |pure a=>exact fun w es h he=>⟨h,he⟩
 |load m a k ih=>
  intro w es h he;simp only[Sem.runT];cases hc:w.cell? a with
  |some v=>exact ih v w _ (h v) (Uu he (Yj _ _ _))
  |none=>
   cases hf:w.farLoad p a (m==.atomic)with
   |ok r=>exact ih r.1 w _ (h r.1) (KG _ _ _ he)
   |error e=>exact⟨KL hf,he⟩
 |store m a v k ih=>
  intro w es h he;have go:∀(hv:∀c,v≠.agg c)(ht:∀c,v≠.tuple c),V60 L (Sem.runT p (.store m a v k) w es).1/\∀e∈(Sem.runT p (.store m a v k) w es).2,ko e:=fun hv ht=>by
   have e:∀(w:ui),Sem.runT p (.store m a v k) w es=(match w.cell? a with
    | some _ => if w.frozen? a then (.halt (.unsupported (.unsafePointer "a write to bytes that a string shares")) w, es) else k.runT p (w.setCell a v) (es.push ⟨.cell a, ji, m == .atomic⟩)
    |none=>match w.farStore p a v (m==.atomic)with
     |.ok (w,touched)=>k.runT p w (es++touched.toArray.map (⟨.cell ·,ji,m==.atomic⟩))
     |.error h=>(.halt h w,es)):=fun w=>by
    cases v<;>first|rfl|exact absurd rfl (hv _)|exact absurd rfl (ht _)
   rw[e];cases hc:w.cell? a with
   |some x=>
    by_cases hz:w.frozen? a=ji
    ·simp only[hz,if_true];exact⟨trivial,he⟩
    ·simp only[hz];exact ih (w.setCell a v) _ h (Uu he (Yj _ _ _))
   |none=>
    simp only[];cases hf:w.farStore p a v (m==.atomic)with
    |ok r=>exact ih r.1 _ h (KG _ _ _ he)
    |error e=>exact⟨RI hf,he⟩
  cases v with
  |agg c=>exact⟨trivial,he⟩
  |tuple c=>exact⟨trivial,he⟩
  |_=>exact go P0 P0
 |new o k ih=>intro w es h he;exact ih _ _ es (h _) he
 |shape r k ih=>intro w es h he;exact ih _ w es (h _) he
 |freeze a n k ih=>intro w es h he;exact ih _ es h he
 |frozen a k ih=>intro w es h he;exact ih _ w es (h _) he
 |getObj r k ih=>
  intro w es h he;simp only[Sem.runT];cases ho:w.heap[r]? with
  |none=>exact⟨trivial,he⟩
  |some o=>
   cases o with
   |cells c e f=>exact⟨trivial,he⟩
   |_=>exact ih _ w _ (h _) (Uu he (BH _ _ _))
 |setObj r o k ih=>
  intro w es h he;simp only[Sem.runT];cases ho:w.heap[r]? with
  |none=>exact⟨trivial,he⟩
  |some x=>
   cases x with
   |cells c e f=>exact⟨trivial,he⟩
   |_=>exact ih _ _ h (Uu he (BH _ _ _))
 |choose q k ih=>
  intro w es h he;simp only[Sem.runT];split
  ·exact ih 0 w es (h 0) he
  ·exact ih _ _ es (h _) he
 |sys c k ih=>intro w es h he;exact h.elim
 |program k ih=>intro w es h he;exact ih p w es h he
 |mark m k ih=>intro w es h he;exact ih w _ h.2 (Uu he ⟨by simpa using h.1.1,by simpa using h.1.2⟩)
 |halt h=>exact fun w es hh he=>⟨hh,he⟩
theorem zm{p:Program}{f:FuncId}{es:Array Event}(h:∀e∈es,ko e):∀e∈seen p f es,ko e:=by
 unfold seen;obtain ⟨l⟩:=es;simp only [List.size_toArray,List.foldl_toArray'];have:∀(l:List Event) (q:Bool) (kept:Array Event),(∀e∈l,ko e)->(∀e∈kept,ko e)->
   ∀e∈(l.foldl (fun(x:Bool×Array Event) e=>match e.loc with
    |.mark (.extern f)=>((p.funcs[f]?).any (·.norace),x.2)
    |_=>(x.1,if x.1 && !e.sync then x.2 else x.2.push e)) (q,kept)).2,ko e:=by
  intro l;induction l with
  |nil=>exact fun q kept _ hk=>hk
  |cons a l ih=>
   intro q kept hl hk;simp only[List.foldl_cons];split
   ·exact ih _ _ (fun e he=>hl e (List.mem_cons_of_mem _ he)) hk
   ·refine ih _ _ (fun e he=>hl e (List.mem_cons_of_mem _ he)) ?_;show ∀e∈(if q && !a.sync then kept else kept.push a),ko e;split
    ·exact hk
    ·exact Uu hk (hl a (List.mem_cons_self))
 exact this l _ _ (fun e he=>h e (by simpa using he)) P0
end Mute
end Go.Proofs.YtdoghgnifkgfdaaGreat
namespace Go.Proofs.YtdoghgnifkgfdaaGreat.Mute
open Tryz Go
section
variable {P:Program}
theorem Zy:Ok P T (mark .noRoom):=⟨⟨P0,P0⟩,trivial⟩
theorem ha0{α:Type}{L:α->Prop}{c:Prop}[Decidable c]{a b:Sem α}(h1:Ok P L a)(h2:Ok P L b):Ok P L (if c then a else b):=by split<;>assumption
theorem Lx{α β:Type}(f:α->β->Sem (ForInStep β))(h:∀a b,Ok P T (f a b)):∀(xs:List α)(init:β),Ok P T (forIn xs init f)
 | [],_=>trivial
 |x::xs,b=>by
  rw[List.forIn_cons];refine Ok.Qm (h x b) fun s=>?_;cases s with
  |done b=>exact trivial
  |yield b=>exact Lx f h xs b
theorem gJ{α β:Type}(f:α->β->Sem (ForInStep β))(h:∀a b,Ok P T (f a b))(xs:Array α)(init:β):Ok P T (forIn xs init f):=by
 rw[<-Array.forIn_toList];exact Lx f h _ _
theorem GI{β:Type}(f:Nat->β->Sem (ForInStep β))(h:∀a b,Ok P T (f a b))(r:Std.Legacy.Range)(init:β):Ok P T (forIn r init f):=by
 rw[Std.Legacy.Range.forIn_eq_forIn_range'];exact Lx f h _ _
theorem QE{α β:Type}(f:α->Sem β)(h:∀a,Ok P T (f a)):∀(xs:List α),Ok P T (xs.mapM f)
 | []=>trivial
 |x::xs=>by
  rw[List.mapM_cons];exact Ok.Qm (h x) fun _=>Ok.Qm (QE f h xs) fun _=>trivial
theorem WB{α β:Type}(f:α->Sem β)(h:∀a,Ok P T (f a))(xs:Array α):Ok P T (xs.mapM f):=by
 rw[Array.mapM_eq_mapM_toList];exact Ok.map _ (QE f h _)
theorem mo{G:Prop}(h:G:=by repeat' first|(with_reducible first|exact Ok.tf0 _|exact ih _ _ _|exact ih _ _|exact Nr _|exact EA _|exact bz _|exact sizeOf_ok _|exact m30 _|exact jy _|exact EK _|exact JO _|exact d_ _|exact cB|exact q50 _ _ _|exact X_ _ _ _ _ _|exact V40 _ _|exact OL _|exact JG _|exact dX _ _|exact MZ _|exact DY _ _|exact JX _|exact RV _ _ _ _|exact O40 _ _|exact m50 _ _|exact lD _ _ _|exact zO _|exact k_ _|exact rM _ _|exact iT _|exact UF _|exact aR _|exact PN _ _ _ _|exact NQ _ _ _|exact LW _|exact jQ _ _|exact yA _ _ _|exact pD _ _|exact aG _ _ _|exact N40 _ _|exact TG _ _ _ _|exact BP _ _ _|exact iO _|exact BW _|exact x20 _|exact fM _ _|exact vO _ _ _ _|exact lU _ _ _ _|exact PI _ _ _ _|exact aO _ _ _ _|exact o60 _ _ _ _|exact BG _ _|exact QD _|exact kO _ _|exact sM _ _ _|exact LO _ _ _|exact UG _ _ _ _ _ _|exact bR _|exact TF _ _|exact U_ _|exact KJ _ _ _|exact YO _ _ _|exact QG _ _ _|exact KZ _ _|exact lM _|exact oQ _ _|exact UU _ _|exact OH _|exact LD _|exact PV _ _ _|exact OJ _|exact tL _ _ _ _ _|exact M30 _ _ _|exact RR _ _ _ _|exact mP _ _ _ _|exact PT _|exact gI _ _ _|exact xY _|exact PL _ _ _ _|exact eS _ _ _|exact yR _ _ _|exact DR _ _ _|exact FX _ _ _|exact dZ _ _ _ _|exact Z_ _ _ _ _ _|exact TN _ _ _|exact GL _ _ _ _ _ _|exact MO _ _ _|exact fH _ _ _|exact dG _ _ _|exact zD _|exact mA _ _ _ _|exact WI _ _ _|exact mJ _ _|exact PO _ _|exact WG _|exact rE _|exact ED _ _|exact jE _ _|exact iH _ _|exact xI _ _|exact jJ _ _ _|exact XJ _|exact aH _ _ _|exact P10 _|exact AA _ _ _ _|exact pJ _ _|exact mH _ _|exact VN _ _|exact YP _ _ _ _ _|exact Zy|refine Ok.Qm ?_ fun _=>?_|refine gJ _ (fun _ _=>?_) _ _|refine GI _ (fun _ _=>?_) _ _|refine WB _ (fun _=>?_) _|exact Ok.map _ (by assumption)|refine ha0 ?_ ?_|exact Zy)|split|intro _|dsimp only|exact trivial):G:=h
theorem k_(r:Nat):Ok P T (viewAt r):=by
 unfold viewAt;exact mo
theorem iO(r:Nat):Ok P T (numberAt r):=by
 unfold numberAt;exact mo
theorem PT(r:Nat):Ok P T (cellsIn r):=by
 unfold cellsIn;exact mo
theorem kO(a:Addr)(b:Bool):Ok P T (asNumber a b):=by
 unfold asNumber;exact mo
theorem UF(a:Addr):Ok P T (behindNumber a):=by
 unfold behindNumber;exact mo
theorem BW(a:Addr):Ok P T (noView a):=by
 unfold noView;exact mo
theorem QD(a:Addr):Ok P T (markStringish a):=by
 unfold markStringish;exact mo
theorem lM(a:Addr):Ok P T (stringish a):=by
 unfold stringish;exact mo
theorem oQ(a b:Addr):Ok P T (mayBeOne a b):=by
 unfold mayBeOne;exact mo
theorem jQ(a b:Addr):Ok P T (sameAddr a b):=by
 unfold sameAddr;exact mo
theorem BG(a b:Option Addr):Ok P T (samePointer a b):=by
 unfold samePointer;exact mo
theorem JO(t:TypeId):Ok P T (typeInfo t):=by
 unfold typeInfo;exact mo
theorem EA(t:TypeId):Ok P T (underlying t):=by
 unfold underlying;exact mo
theorem aR(t:TypeId):Ok P T (typeStr t):=by
 unfold typeStr;exact mo
theorem OL(t:TypeId):Ok P T (zeroValue t):=by
 unfold zeroValue;exact mo
theorem sizeOf_ok(t:TypeId):Ok P T (Go.sizeOf t):=by
 unfold Go.sizeOf;exact mo
theorem x20(t:TypeId):Ok P T (isAgg t):=by
 unfold isAgg;exact mo
theorem loadCellsFrom_ok(a:Addr):∀(n i:Nat)(acc:Array ti),Ok P T (loadCellsFrom a i n acc)
 |0,_,_=>trivial
 |n+1,i,_=>Ok.Qm (UU _ _) fun _=>loadCellsFrom_ok a n (i+1) _
theorem rM(a:Addr)(n:Nat):Ok P T (loadCells a n):=loadCellsFrom_ok a n 0 _
theorem yA(a:Addr):∀(vs:List ti)(i:Nat),Ok P T (storeCells a vs i)
 | [],_=>trivial
 |_::r,i=>Ok.Qm (O00 _ _ _) fun _=>yA a r (i+1)
theorem iH(t:TypeId)(a:Addr):Ok P T (loadVar t a):=by
 unfold loadVar;exact mo
theorem LO(t:TypeId)(a:Addr)(v:ti):Ok P T (storeVar t a v):=by
 unfold storeVar;exact mo
theorem DY(t:TypeId)(c:Array ti):Ok P T (newRow t c):=by
 unfold newRow;exact mo
theorem pD(t:TypeId)(v:ti):Ok P T (newVar t v):=by
 unfold newVar;exact mo
theorem LD(t:TypeId):Ok P T (elemOf t):=by
 unfold elemOf;exact mo
theorem q50(t:TypeId)(c:Array ti)(o:Nat):Ok P T (part t c o):=by
 unfold part;exact mo
theorem jy{α:Type}(e:RuntimeError):Ok P T ((runtimePanic e:Sem α)):=by
 unfold runtimePanic;exact mo
theorem TG{α:Type}(k:IntKind)(x y:Int)(c:BoundsCode):Ok P T ((boundsPanic k x y c:Sem α)):=by
 unfold boundsPanic;exact mo
theorem iT(v:ti):Ok P T (asIntOf v):=by
 unfold asIntOf;exact mo
theorem JG(v:ti):Ok P T (asInt v):=by
 unfold asInt;exact mo
theorem OJ(v:ti):Ok P T (asBool v):=by
 unfold asBool;exact mo
theorem P10(v:ti):Ok P T (asAgg v):=by
 unfold asAgg;exact mo
theorem XJ(v:ti):Ok P T (asAddr v):=by
 unfold asAddr;exact mo
theorem JX(a:Addr):Ok P T (byteOf a):=by
 unfold byteOf;exact mo
theorem PV(a:Addr)(c b:Nat):Ok P T (partAt a c b):=by
 unfold partAt;exact mo
theorem xI(a:Addr)(f:Field):Ok P T (fieldPlace a f):=by
 unfold fieldPlace;exact mo
theorem gI(a:Addr)(u:TypeId)(n:Nat):Ok P T (variablesAt a u n):=by
 unfold variablesAt;exact mo
theorem fM(a b:Addr):Ok P T (Op.twoPlaces a b ):=by
 unfold Op.twoPlaces;exact mo
theorem eS(k:IntKind)(a b:Addr):Ok P T (Op.addrSub k  a b ):=by
 unfold Op.addrSub;exact mo
theorem yR(op:BinOp)(a b:Addr):Ok P T (Op.addrCmp op  a b ):=by
 unfold Op.addrCmp;exact mo
theorem DR(k:IntKind)(a:Addr)(n:Int):Ok P T (Op.addrMod k  a  n ):=by
 unfold Op.addrMod;exact mo
theorem PI(op:BinOp)(k:FloatKind)(x y:Nat):Ok P T (Op.floatArith op k x y):=by
 unfold Op.floatArith;exact mo
theorem aO(op:BinOp)(k:FloatKind)(x y:Nat):Ok P T (Op.floatCmp op k x y):=by
 unfold Op.floatCmp;exact mo
theorem vO(op:BinOp)(k:IntKind)(x y:Int):Ok P T (Op.intArith op k x y):=by
 unfold Op.intArith;exact mo
theorem lU(op:BinOp)(k:IntKind)(x y:Int):Ok P T (Op.intBits op k x y):=by
 unfold Op.intBits;exact mo
theorem FX(op:BinOp)(x y:Int):Ok P T (Op.intCmp op x y):=by
 unfold Op.intCmp;exact mo
theorem dZ(op:BinOp)(k:IntKind)(x y:Int):Ok P T (Op.intDiv op k x y):=by
 unfold Op.intDiv;exact mo
theorem Z_(op:BinOp)(k:IntKind)(x:Int)(j:IntKind)(y:Int):Ok P T (Op.shift op k x j y):=by
 unfold Op.shift;exact mo
theorem TN(op:BinOp)(x y:ByteArray):Ok P T (Op.stringOp op x y):=by
 unfold Op.stringOp;exact mo
theorem E20(op:UnOp)(x:ti):Ok P T (Op.unary op x):=by
 unfold Op.unary;exact mo
theorem aG(s:FloatKind)(b:Nat)(t:FloatKind):Ok P T (Conv.floatToFloat s b t):=by
 unfold Conv.floatToFloat;exact mo
theorem RV(op:BinOp)(k:FloatKind)(x y:Nat):Ok P T (Op.Complex.arith op k x y):=by
 unfold Op.Complex.arith;exact mo
theorem o60(op:BinOp)(k:FloatKind)(x y:Nat):Ok P T (Op.Complex.cmp op k x y):=by
 unfold Op.Complex.cmp;exact mo
theorem M30(s:FloatKind)(x:Nat)(t:FloatKind):Ok P T (Op.Complex.conv s x t):=by
 unfold Op.Complex.conv;exact mo
theorem V40(x y:Nat):Ok P T (Op.Complex.add x y):=by
 unfold Op.Complex.add;exact mo
theorem O40(x y:Nat):Ok P T (Op.Complex.sub x y):=by
 unfold Op.Complex.sub;exact mo
theorem m50(x y:Nat):Ok P T (Op.Complex.mul x y):=by
 unfold Op.Complex.mul;exact mo
theorem N40(x y:Nat):Ok P T (Op.Complex.quo x y):=by
 unfold Op.Complex.quo;exact mo
theorem RR(a b c e:Nat):Ok P T (Op.Complex.product a b c e):=by
 unfold Op.Complex.product;exact mo
theorem tL(s a b c e:Nat):Ok P T (Op.Complex.corrected s a b c e):=by
 unfold Op.Complex.corrected;exact mo
theorem mP(a b c e:Nat):Ok P T (Op.Complex.quotient a b c e):=by
 unfold Op.Complex.quotient;exact mo
theorem GL(op:BinOp)(k:FloatKind)(a b c e:Nat):Ok P T (Op.complexOp op k a b c e):=by
 unfold Op.complexOp;exact mo
theorem qU:∀(n:Nat)(t:TypeId)(x y:ti),Ok P T (Op.equalIn n t x y):=by
 intro n;induction n with
 |zero=>intros;unfold Op.equalIn;exact mo
 |succ n ih=>intros;unfold Op.equalIn;exact mo
theorem MO(t:TypeId)(x y:ti):Ok P T (Op.equal t x y):=qU _ t x y
theorem PL:∀(n:Nat)(t:TypeId)(x y:ti),Ok P T (Op.eqGuardIn n t x y):=by
 intro n;induction n with
 |zero=>intros;unfold Op.eqGuardIn;exact mo
 |succ n ih=>intros;unfold Op.eqGuardIn;exact mo
theorem zD(x:ti):Ok P T (Conv.bytesToString x):=by
 unfold Conv.bytesToString;exact mo
theorem mA(s:FloatKind)(a b:Nat)(t:FloatKind):Ok P T (Conv.complexToComplex s a b t):=by
 unfold Conv.complexToComplex;exact mo
theorem WI(s:FloatKind)(b:Nat)(t:IntKind):Ok P T (Conv.floatToInt s b t):=by
 unfold Conv.floatToInt;exact mo
theorem mJ(s:FloatKind)(n:Int):Ok P T (Conv.intToFloat s n):=by
 unfold Conv.intToFloat;exact mo
theorem PO(s:IntKind)(n:Int):Ok P T (Conv.intToInt s n):=by
 unfold Conv.intToInt;exact mo
theorem WG(n:Int):Ok P T (Conv.intToString n):=by
 unfold Conv.intToString;exact mo
theorem rE(x:ti):Ok P T (Conv.runesToString x):=by
 unfold Conv.runesToString;exact mo
theorem ED(e:TypeId)(s:ByteArray):Ok P T (Conv.stringToBytes e s):=by
 unfold Conv.stringToBytes;exact mo
theorem jE(e:TypeId)(s:ByteArray):Ok P T (Conv.stringToRunes e s):=by
 unfold Conv.stringToRunes;exact mo
theorem xY(a:Addr):Ok P T (Conv.seenAt a):=by
 unfold Conv.seenAt;exact mo
theorem lD(s t:TypeId)(x:ti):Ok P T (Conv.unsafePointer s t x):=by
 unfold Conv.unsafePointer;exact mo
theorem sM(ts:Array TypeId)(t:TypeId)(xs:Array ti):Ok P T (Builtin.unsafeAdd_ ts t xs):=by
 unfold Builtin.unsafeAdd_;obtain⟨l⟩:=xs;rcases l with _|⟨v,_|⟨u,_|⟨z,l⟩⟩⟩
 ·exact Nr _
 ·cases v<;>exact Nr _
 ·cases v with
  |pointer c=>
   cases c with
   |none=>
    refine Ok.Qm (s:=asInt u) (JG _) (fun _=>?_);exact mo
   |some a=>
    refine Ok.Qm (s:=asInt u) (JG _) (fun _=>?_);exact mo
  |_=>exact Nr _
 ·cases v<;>exact Nr _
theorem fH(t:TypeId)(x y:ti):Ok P T (movedNumber t x y):=by
 unfold movedNumber;exact mo
theorem dG(t:TypeId)(x y:ti):Ok P T (movedPointer t x y):=by
 unfold movedPointer;exact mo
theorem hU(op:BinOp)(t:TypeId)(x y:Operand)(a b:ti):Ok P T (eqGuard op t x y a b):=by
 unfold eqGuard;exact mo
theorem g00(op:BinOp)(t:TypeId)(x y:ti):Ok P T (binOp op t x y):=by
 unfold binOp;exact mo
theorem aH(s t:TypeId)(x:ti):Ok P T (convert s t x):=by
 unfold convert;exact mo
theorem zO(v:ti):Ok P T (Instr.sureAddr v):=by
 unfold Instr.sureAddr;exact mo
theorem rY(t:TypeId)(v:ti):Ok P T (Instr.loadAt t v):=by
 unfold Instr.loadAt;exact mo
theorem LR(t:TypeId)(v x:ti):Ok P T (Instr.storeAt t v x):=by
 unfold Instr.storeAt;exact mo
theorem XR(t:TypeId)(v:ti)(n:Nat):Ok P T (Instr.fieldAt t v n):=by
 unfold Instr.fieldAt;exact mo
theorem rS(t:TypeId)(v x:ti):Ok P T (Instr.indexAt t v x):=by
 unfold Instr.indexAt;exact mo
theorem jJ(x:ti)(y:Nat)(c:BoundsCode):Ok P T (Instr.sliceBound x y c):=by
 unfold Instr.sliceBound;exact mo
theorem UG(b:Bool)(l c:Nat)(x y z:Option ti):Ok P T (Instr.sliceBounds b l c x y z):=by
 unfold Instr.sliceBounds;exact mo
theorem X_(t:TypeId)(v:ti)(x y z:Option ti):Ok P T (Instr.slice t v x y z):=by
 unfold Instr.slice;exact mo
theorem dU(t:TypeId)(v:ti)(x y z:Option ti):Ok P T (Instr.sliceAt t v x y z):=by
 unfold Instr.sliceAt;exact mo
theorem ET(t:TypeId)(v:ti):Ok P T (Instr.arrayAt t v):=by
 unfold Instr.arrayAt;exact mo
theorem o20(t:TypeId)(b:Bool)(v:ti):Ok P T (Instr.alloc t b v):=by
 unfold Instr.alloc;exact mo
theorem sa0(t:TypeId)(v:ti):Ok P T (Instr.box t v):=by
 unfold Instr.box;exact mo
theorem R00(t:TypeId)(xs:Array (Nat×ti)):Ok P T (Instr.build t xs):=by
 unfold Instr.build;exact mo
theorem iJ(t:TypeId)(n:Nat)(xs:Array (Nat×ti)):Ok P T (Instr.buildSlice t n xs):=by
 unfold Instr.buildSlice;exact mo
theorem mH(v:ti)(n:Nat):Ok P T (Instr.extract v n):=by
 unfold Instr.extract;exact mo
theorem YO(t:TypeId)(v:ti)(n:Nat):Ok P T (Instr.field t v n):=by
 unfold Instr.field;exact mo
theorem BP(t:TypeId)(v x:ti):Ok P T (Instr.index t v x):=by
 unfold Instr.index;exact mo
theorem PN(b:Bool):∀(n:Nat)(t:TypeId)(x:ti),Ok P T (Instr.checkKey b n t x):=by
 intro n;induction n with
 |zero=>intros;unfold Instr.checkKey;exact mo
 |succ n ih=>intros;unfold Instr.checkKey;exact mo
theorem AA(t:TypeId)(k:ti):∀(l:List MapEntry)(i:Nat),Ok P T (Instr.findAsking t k l i)
 | [],_=>trivial
 |e::es,i=>Ok.Qm (MO _ _ _) fun b=>by
  cases b
  ·exact AA t k es (i+1)
  ·exact trivial
theorem NQ(t:TypeId)(k:ti)(l:List MapEntry):Ok P T (Instr.findKey t k l):=by
 unfold Instr.findKey;exact mo
theorem pX(t:TypeId)(x y:ti)(b:Bool):Ok P T (Instr.lookup t x y b):=by
 unfold Instr.lookup;exact mo
theorem mQ(t:TypeId)(x:ti):Ok P T (Instr.makeChan t x):=by
 unfold Instr.makeChan;exact mo
theorem fU(t:TypeId)(x:Option ti):Ok P T (Instr.makeMap t x):=by
 unfold Instr.makeMap;exact mo
theorem AL(t:TypeId)(x y:ti):Ok P T (Instr.makeSlice t x y):=by
 unfold Instr.makeSlice;exact mo
theorem TF(x y:ti):Ok P T (Instr.keyThatStays x y):=by
 unfold Instr.keyThatStays;exact mo
theorem iC(t:TypeId)(x y z:ti):Ok P T (Instr.mapUpdate t x y z):=by
 unfold Instr.mapUpdate;exact mo
theorem LP(t:TypeId)(x y:ti):Ok P T (Instr.mapEntry t x y):=by
 unfold Instr.mapEntry;exact mo
theorem BJ(t:TypeId)(x y z:ti):Ok P T (Instr.entryStore t x y z):=by
 unfold Instr.entryStore;exact mo
theorem VN(t:TypeId)(x:ti):Ok P T (Instr.range t x):=by
 unfold Instr.range;exact mo
theorem d50(x:ti)(b:Bool)(t:TypeId):Ok P T (Instr.next x b t):=by
 unfold Instr.next;exact mo
theorem S10(x:ti):Ok P T (Instr.entry x):=by
 unfold Instr.entry;exact mo
theorem MJ(x:ti)(s t:TypeId)(b:Bool):Ok P T (Instr.typeAssert x s t b):=by
 unfold Instr.typeAssert;exact mo
theorem pJ(a:Addr)(n:Nat):Ok P T (Builtin.holdsCells a n):=by
 unfold Builtin.holdsCells;exact mo
theorem YP(a b c:Nat)(x:Option Addr)(v:ti):Ok P T (Builtin.mayShare a b c x v):=by
 unfold Builtin.mayShare;exact mo
theorem U_(v:ti):Ok P T (Builtin.lenOf v):=by
 unfold Builtin.lenOf;exact mo
theorem KJ(a b:Nat)(v:ti):Ok P T (Builtin.firstCells a b v):=by
 unfold Builtin.firstCells;exact mo
theorem bU(ts:Array TypeId)(t:TypeId)(xs:Array ti):Ok P T (Builtin.append_ ts t xs):=by
 unfold Builtin.append_;exact mo
theorem w40(ts:Array TypeId)(t:TypeId)(xs:Array ti):Ok P T (Builtin.cap_ ts t xs):=by
 unfold Builtin.cap_;exact mo
theorem AX(ts:Array TypeId)(t:TypeId)(xs:Array ti):Ok P T (Builtin.close_ ts t xs):=by
 unfold Builtin.close_;obtain⟨l⟩:=xs;rcases l with _|⟨v,_|⟨u,l⟩⟩
 ·exact Nr _
 ·cases v with
  |chan c=>
   cases c with
   |none=>exact jy _
   |some r=>
    refine Ok.Qm (s:=getObj r) (EK _) (fun _=>?_);exact mo
  |_=>exact Nr _
 ·exact Nr _
theorem I_(ts:Array TypeId)(t:TypeId)(xs:Array ti):Ok P T (Builtin.copy_ ts t xs):=by
 unfold Builtin.copy_;exact mo
theorem zT(ts:Array TypeId)(t:TypeId)(xs:Array ti):Ok P T (Builtin.delete_ ts t xs):=by
 unfold Builtin.delete_;exact mo
theorem E40(ts:Array TypeId)(t:TypeId)(xs:Array ti):Ok P T (Builtin.len_ ts t xs):=by
 unfold Builtin.len_;exact mo
theorem QG:∀(l:List FieldStep)(t:TypeId)(x:Option ti),Ok P T (followBlind l t x):=by
 intro n;induction n with
 |nil=>intros;unfold followBlind;exact mo
 |cons a l ih=>intros;unfold followBlind;exact mo
theorem rQ:∀(n:Nat)(t:TypeId)(x:ti)(s:String),Ok P T (nilAhead n t x s):=by
 intro n;induction n with
 |zero=>intros;unfold nilAhead;exact mo
 |succ n ih=>intros;unfold nilAhead;exact mo
end
end Go.Proofs.YtdoghgnifkgfdaaGreat.Mute
