import GoSem.Step
import Derived.Laws.Sem
set_option maxRecDepth 100000
set_option maxHeartbeats 16000000
namespace Go.Proofs.YtdoghgnifkgfdaaGreat
def reW (w:World) (τ:Nat→Question→Nat) (d:Nat):World:={w with tape:=τ,drawn:=d}
def reR {α:Type} (τ:Nat→Question→Nat) (d:Nat):Result α→Result α
 |.ok a w=>.ok a (reW w τ d)
 |.halt h w=>.halt h (reW w τ d)
def Y2l {α:Type}:Result α→World
 |.ok _ w=>w
 |.halt _ w=>w
namespace Mute
def Y18:Halt→Prop
 |.panic _|.unsupported _|.stuck _=>True
 |_=>False
def Ok (P:Program) {α:Type} (L:α→Prop):Sem α→Prop
 |.pure a=>L a
 |.load _ _ k=>∀v,Ok P L (k v)
 |.store _ _ _ k=>Ok P L k
 |.new _ k=>∀r,Ok P L (k r)
 |.shape _ k=>∀s,Ok P L (k s)
 |.freeze _ _ k=>Ok P L k
 |.frozen _ k=>∀b,Ok P L (k b)
 |.getObj _ k=>∀o,Ok P L (k o)
 |.setObj _ _ k=>Ok P L k
 |.choose _ k=>∀n,Ok P L (k n)
 |.sys _ _=>False
 |.program k=>Ok P L (k P)
 |.mark m k=>(m≠.disable∧m≠.enable)∧Ok P L k
 |.halt h=>Y18 h
def T {α:Type} (_:α):Prop:=True
section
variable {P:Program} {α β:Type}
theorem Ok.bind {L:α→Prop} {M:β→Prop} {f:α→Sem β} (hf:∀a,L a→Ok P M (f a)):∀{s:Sem α},Ok P L s→Ok P M (s.bind f)
 |.pure a,h=>hf a h
 |.load _ _ _,h=>fun v=>Ok.bind hf (h v)
 |.store _ _ _ k,h=>Ok.bind hf (s:=k) h
 |.new _ _,h=>fun r=>Ok.bind hf (h r)
 |.shape _ _,h=>fun r=>Ok.bind hf (h r)
 |.freeze _ _ k,h=>Ok.bind hf (s:=k) h
 |.frozen _ _,h=>fun r=>Ok.bind hf (h r)
 |.getObj _ _,h=>fun r=>Ok.bind hf (h r)
 |.setObj _ _ k,h=>Ok.bind hf (s:=k) h
 |.choose _ _,h=>fun r=>Ok.bind hf (h r)
 |.sys _ _,h=>h.elim
 |.program k,h=>Ok.bind hf (s:=k P) h
 |.mark _ k,h=>⟨h.1,Ok.bind hf (s:=k) h.2⟩
 |.halt _,h=>h
theorem Ok.bindT {M:β→Prop} {s:Sem α} {f:α→Sem β} (h:Ok P T s) (hf:∀a,Ok P M (f a)):Ok P M (s >>= f):=Ok.bind (L:=T) (fun a _=>hf a) h
theorem Ok.bindL {L:α→Prop} {M:β→Prop} {s:Sem α} {f:α→Sem β} (h:Ok P L s) (hf:∀a,L a→Ok P M (f a)):Ok P M (s >>= f):=Ok.bind hf h
theorem Ok.pureT (a:α):Ok P T (pure a:Sem α):=trivial
theorem Ok.map {s:Sem α} (f:α→β) (h:Ok P T s):Ok P T (f <$> s):=Ok.bindT (P:=P) (M:=T) (f:=fun a=>pure (f a)) h fun _=>trivial
end
section
variable {P:Program}
theorem Y3A (a:Addr) (m:Mode):Ok P T (load a m):=fun _=>trivial
theorem YaV (a:Addr) (v:Value) (m:Mode):Ok P T (store a v m):=trivial
theorem Je (o:Obj):Ok P T (newObj o):=fun _=>trivial
theorem XE (r:Nat):Ok P T (shape r):=fun _=>trivial
theorem Y57 (a:Addr) (n:Nat):Ok P T (freeze a n):=trivial
theorem Y1i (a:Addr):Ok P T (frozen a):=fun _=>trivial
theorem Xx (r:Nat):Ok P T (getObj r):=fun _=>trivial
theorem Jv (r:Nat) (o:Obj):Ok P T (setObj r o):=trivial
theorem XN (q:Question):Ok P T (choose q):=fun _=>trivial
theorem Xr:Ok P T program:=trivial
theorem Ya {α:Type} (s:String):Ok P T (stuck s:Sem α):=trivial
theorem YD {α:Type} (u:Unsupported):Ok P T (unsupported u:Sem α):=trivial
theorem Y3R {α:Type} (v:Value):Ok P T (goPanic v:Sem α):=trivial
theorem Y3a (n:Nat):Ok P T (askRoom n):=by
 unfold askRoom;split
 ·exact ⟨⟨by simp,by simp⟩,trivial⟩
 ·exact trivial
end
def Local {α:Type} (p:Program) (s:Sem α) (w:World) (es:Array Event):Prop:=
 ∃n,(Y2l (s.runT p w es).1).tape=w.tape∧(Y2l (s.runT p w es).1).drawn=w.drawn+n∧
  ∀τ d,(∀k,k<n→τ (d+k)=w.tape (w.drawn+k))→s.runT p (reW w τ d) es=(reR τ (d+n) (s.runT p w es).1,(s.runT p w es).2)
theorem Y2F (w:World) (τ:Nat→Question→Nat) (d:Nat) (a:Addr):(reW w τ d).cell? a=w.cell? a:=rfl
theorem Y4Y (w:World) (τ:Nat→Question→Nat) (d:Nat) (a:Addr):(reW w τ d).frozen? a=w.frozen? a:=rfl
theorem Y7V (p:Program) (w:World) (τ:Nat→Question→Nat) (d:Nat) (a:Addr) (b:Bool):(reW w τ d).farLoad p a b=w.farLoad p a b:=rfl
theorem Y7K (w:World) (τ:Nat→Question→Nat) (d:Nat) (a:Addr) (v:Value):(reW w τ d).setCell a v=reW (w.setCell a v) τ d:=rfl
theorem Y8f (w:World) (τ:Nat→Question→Nat) (d:Nat) (a:Addr) (n:Nat):(reW w τ d).freeze a n=reW (w.freeze a n) τ d:=by
 unfold World.freeze;split<;>rfl
theorem YbI (p:Program) (w:World) (τ:Nat→Question→Nat) (d:Nat) (a b:Addr) (t:TypeId) (v:Value) (at_:Bool):(reW w τ d).viewStore p a t b v at_=(w.viewStore p a t b v at_).map (fun x=>(reW x.1 τ d,x.2)):=by
 have hs:(reW w τ d).seen p a t b at_=w.seen p a t b at_:=rfl;unfold World.viewStore;rw [hs];cases tight p p.depth t with
 |false=>rfl
 |true=>
  cases w.seen p a t b at_ with
  |error e=>rfl
  |ok r=>
   obtain ⟨c,e,fz,first,like,cells⟩:=r;cases hb:v.bytes? with
   |none=>rfl
   |some bytes=>
    simp only [bind,Except.bind,pure,Except.pure,Bool.not_true,Bool.false_eq_true,if_false];split
    ·rfl
    ·split<;>rfl
theorem Y4u (p:Program) (w:World) (τ:Nat→Question→Nat) (d:Nat) (a:Addr) (v:Value) (b:Bool):(reW w τ d).farStore p a v b=(w.farStore p a v b).map (fun x=>(reW x.1 τ d,x.2)):=by
 have hh:(reW w τ d).heap=w.heap:=rfl;unfold World.farStore;rw [hh];split
 ·rw [YbI];cases w.viewStore p _ _ a v b<;>rfl
 ·rfl
theorem Y90 {p:Program} {w w':World} {a:Addr} {v:Value} {b:Bool} {l:List Addr} (h:w.farStore p a v b=.ok (w',l)):w'.tape=w.tape∧w'.drawn=w.drawn:=by
 have e:=Y4u p w w.tape w.drawn a v b;have e0:reW w w.tape w.drawn=w:=rfl;rw [e0,h] at e;have e1:w'=reW w' w.tape w.drawn:=congrArg Prod.fst (Except.ok.inj e);have t1:w'.tape=(reW w' w.tape w.drawn).tape:=congrArg World.tape e1;have t2:w'.drawn=(reW w' w.tape w.drawn).drawn:=congrArg World.drawn e1;exact ⟨t1,t2⟩
theorem Y91 {α:Type} (p:Program) (a:α) (w:World) (es:Array Event):Local p (.pure a) w es:=⟨0,rfl,rfl,fun _ _ _=>rfl⟩
theorem Y9v {α:Type} (p:Program) (h:Halt) (w:World) (es:Array Event):Local (α:=α) p (.halt h) w es:=⟨0,rfl,rfl,fun _ _ _=>rfl⟩
theorem Y0v {α:Type} (p:Program) {L:α→Prop}:∀(s:Sem α) (w:World) (es:Array Event),Ok p L s→Local p s w es:=by
 intro s;induction s with
 |pure a=>exact fun w es _=>Y91 p a w es
 |load m a k ih=>
  intro w es h;unfold Local;simp only [Sem.runT,Y2F,Y7V];cases hc:w.cell? a with
  |some v=>exact ih v w _ (h v)
  |none=>
   cases hf:w.farLoad p a (m==.atomic) with
   |ok r=>exact ih r.1 w _ (h r.1)
   |error e=>exact ⟨0,rfl,rfl,fun _ _ _=>rfl⟩
 |store m a v k ih=>
  intro w es h;have go:∀(hv:∀c,v≠.agg c) (ht:∀c,v≠.tuple c),Local p (.store m a v k) w es:=fun hv ht=>by
   have e:∀(w:World),Sem.runT p (.store m a v k) w es=(match w.cell? a with
    | some _ => if w.frozen? a then (.halt (.unsupported (.unsafePointer "a write to bytes that a string shares")) w, es) else k.runT p (w.setCell a v) (es.push ⟨.cell a, true, m == .atomic⟩)
    |none=>match w.farStore p a v (m==.atomic) with
     |.ok (w,touched)=>k.runT p w (es++touched.toArray.map (⟨.cell ·,true,m==.atomic⟩))
     |.error h=>(.halt h w,es)):=fun w=>by
    cases v<;>first|rfl|exact absurd rfl (hv _)|exact absurd rfl (ht _)
   unfold Local;simp only [e,Y2F,Y4Y,Y4u,Y7K];cases hc:w.cell? a with
   |some x=>
    simp only [];by_cases hz:w.frozen? a=true
    ·simp only [hz,if_true];exact ⟨0,rfl,rfl,fun _ _ _=>rfl⟩
    ·simp only [hz];exact ih (w.setCell a v) _ h
   |none=>
    simp only [];cases hf:w.farStore p a v (m==.atomic) with
    |ok r=>
     obtain ⟨w',l⟩:=r;have hk:=Y90 hf;have hx:=ih w' (es++l.toArray.map (⟨.cell ·,true,m==.atomic⟩)) h;unfold Local at hx;rw [hk.1,hk.2] at hx;exact hx
    |error e=>exact ⟨0,rfl,rfl,fun _ _ _=>rfl⟩
  cases v with
  |agg c=>exact ⟨0,rfl,rfl,fun _ _ _=>rfl⟩
  |tuple c=>exact ⟨0,rfl,rfl,fun _ _ _=>rfl⟩
  |_=>exact go (by simp) (by simp)
 |new o k ih=>intro w es h;exact ih _ {w with heap:=w.heap.push o} es (h _)
 |shape r k ih=>intro w es h;exact ih _ w es (h _)
 |freeze a n k ih=>
  intro w es h;unfold Local;simp only [Sem.runT,Y8f];have:=ih (w.freeze a n) es h;unfold Local at this;have e1:(w.freeze a n).tape=w.tape:=by unfold World.freeze;split<;>rfl
  have e2:(w.freeze a n).drawn=w.drawn:=by unfold World.freeze;split<;>rfl
  rw [e1,e2] at this;exact this
 |frozen a k ih=>intro w es h;exact ih _ w es (h _)
 |getObj r k ih=>
  intro w es h;unfold Local;simp only [Sem.runT];have hh:∀τ d,(reW w τ d).heap=w.heap:=fun _ _=>rfl;simp only [hh];cases ho:w.heap[r]? with
  |none=>exact ⟨0,rfl,rfl,fun _ _ _=>rfl⟩
  |some o=>
   cases o with
   |cells c e f=>exact ⟨0,rfl,rfl,fun _ _ _=>rfl⟩
   |_=>exact ih _ w _ (h _)
 |setObj r o k ih=>
  intro w es h;unfold Local;simp only [Sem.runT];have hh:∀τ d,(reW w τ d).heap=w.heap:=fun _ _=>rfl;simp only [hh];cases ho:w.heap[r]? with
  |none=>exact ⟨0,rfl,rfl,fun _ _ _=>rfl⟩
  |some x=>
   cases x with
   |cells c e f=>exact ⟨0,rfl,rfl,fun _ _ _=>rfl⟩
   |_=>exact ih {w with heap:=w.heap.setIfInBounds r o} _ h
 |choose q k ih=>
  intro w es h;unfold Local;simp only [Sem.runT];by_cases hq:q.forced=true
  ·simp only [hq,if_true];exact ih 0 w es (h 0)
  ·simp only [hq];obtain ⟨n,h1,h2,h3⟩:=ih (q.cut (w.tape w.drawn q)) {w with drawn:=w.drawn+1} es (h _);refine ⟨n+1,h1,?_,fun τ d ha=>?_⟩
   ·show _=w.drawn+(n+1);have h2':_=w.drawn+1+n:=h2;exact h2'.trans (by omega)
   ·have e0:(reW w τ d).tape (reW w τ d).drawn q=w.tape w.drawn q:=by
     have:=ha 0 (by omega);simp only [Nat.add_zero] at this;exact congrFun this q
    show Sem.runT p (k (q.cut ((reW w τ d).tape (reW w τ d).drawn q))) {reW w τ d with drawn:=d+1} es=_;rw [e0];have:=h3 τ (d+1) (fun j hj=>by
     have hx:=ha (j+1) (by omega);show τ (d+1+j)=w.tape (w.drawn+1+j);rw [show d+1+j=d+(j+1) by omega,show w.drawn+1+j=w.drawn+(j+1) by omega];exact hx)
    rw [show d+(n+1)=d+1+n by omega];exact this
 |sys c k ih=>intro w es h;exact h.elim
 |program k ih=>intro w es h;exact ih p w es h
 |mark m k ih=>intro w es h;exact ih w _ h.2
 |halt h=>exact fun w es _=>Y9v p h w es
def EvOk (e:Event):Prop:=e.loc≠.mark .disable∧e.loc≠.mark .enable
def Y49 {α:Type} (L:α→Prop):Result α→Prop
 |.ok a _=>L a
 |.halt h _=>Y18 h
theorem Ya8 {p:Program} {w:World} {a:Addr} {b:Bool} {h:Halt} (e:w.farLoad p a b=.error h):Y18 h:=by
 unfold World.farLoad at e;split at e
 ·split at e
  ·cases e
  ·cases e;trivial
 ·cases e;unfold World.noCell;split<;>trivial
theorem Y9w {p:Program} {w:World} {a:Addr} {v:Value} {b:Bool} {h:Halt} (e:w.farStore p a v b=.error h):Y18 h:=by
 unfold World.farStore at e;split at e
 ·split at e
  ·cases e
  ·cases e;trivial
 ·cases e;unfold World.noCell;split<;>trivial
theorem YR (a:Addr) (wr sy:Bool):EvOk ⟨.cell a,wr,sy⟩:=⟨by simp,by simp⟩
theorem Y1u (r:Nat) (wr sy:Bool):EvOk ⟨.obj r,wr,sy⟩:=⟨by simp,by simp⟩
theorem JE {es:Array Event} {e:Event} (h:∀x∈es,EvOk x) (he:EvOk e):∀x∈es.push e,EvOk x:=fun x hx=>by
 rcases Array.mem_push.1 hx with hx|rfl
 ·exact h x hx
 ·exact he
theorem Y47 {es:Array Event} (l:List Addr) (wr sy:Bool) (h:∀x∈es,EvOk x):∀x∈es++l.toArray.map (⟨.cell ·,wr,sy⟩),EvOk x:=fun x hx=>by
 rcases Array.mem_append.1 hx with hx|hx
 ·exact h x hx
 ·obtain ⟨a,_,rfl⟩:=Array.mem_map.1 hx;exact YR a wr sy
theorem J4 {α:Type} (p:Program) {L:α→Prop}:∀(s:Sem α) (w:World) (es:Array Event),Ok p L s→(∀e∈es,EvOk e)→Y49 L (s.runT p w es).1∧∀e∈(s.runT p w es).2,EvOk e:=by
 intro s;induction s with
 |pure a=>exact fun w es h he=>⟨h,he⟩
 |load m a k ih=>
  intro w es h he;simp only [Sem.runT];cases hc:w.cell? a with
  |some v=>exact ih v w _ (h v) (JE he (YR _ _ _))
  |none=>
   cases hf:w.farLoad p a (m==.atomic) with
   |ok r=>exact ih r.1 w _ (h r.1) (Y47 _ _ _ he)
   |error e=>exact ⟨Ya8 hf,he⟩
 |store m a v k ih=>
  intro w es h he;have go:∀(hv:∀c,v≠.agg c) (ht:∀c,v≠.tuple c),Y49 L (Sem.runT p (.store m a v k) w es).1∧∀e∈(Sem.runT p (.store m a v k) w es).2,EvOk e:=fun hv ht=>by
   have e:∀(w:World),Sem.runT p (.store m a v k) w es=(match w.cell? a with
    | some _ => if w.frozen? a then (.halt (.unsupported (.unsafePointer "a write to bytes that a string shares")) w, es) else k.runT p (w.setCell a v) (es.push ⟨.cell a, true, m == .atomic⟩)
    |none=>match w.farStore p a v (m==.atomic) with
     |.ok (w,touched)=>k.runT p w (es++touched.toArray.map (⟨.cell ·,true,m==.atomic⟩))
     |.error h=>(.halt h w,es)):=fun w=>by
    cases v<;>first|rfl|exact absurd rfl (hv _)|exact absurd rfl (ht _)
   rw [e];cases hc:w.cell? a with
   |some x=>
    by_cases hz:w.frozen? a=true
    ·simp only [hz,if_true];exact ⟨trivial,he⟩
    ·simp only [hz];exact ih (w.setCell a v) _ h (JE he (YR _ _ _))
   |none=>
    simp only [];cases hf:w.farStore p a v (m==.atomic) with
    |ok r=>exact ih r.1 _ h (Y47 _ _ _ he)
    |error e=>exact ⟨Y9w hf,he⟩
  cases v with
  |agg c=>exact ⟨trivial,he⟩
  |tuple c=>exact ⟨trivial,he⟩
  |_=>exact go (by simp) (by simp)
 |new o k ih=>intro w es h he;exact ih _ _ es (h _) he
 |shape r k ih=>intro w es h he;exact ih _ w es (h _) he
 |freeze a n k ih=>intro w es h he;exact ih _ es h he
 |frozen a k ih=>intro w es h he;exact ih _ w es (h _) he
 |getObj r k ih=>
  intro w es h he;simp only [Sem.runT];cases ho:w.heap[r]? with
  |none=>exact ⟨trivial,he⟩
  |some o=>
   cases o with
   |cells c e f=>exact ⟨trivial,he⟩
   |_=>exact ih _ w _ (h _) (JE he (Y1u _ _ _))
 |setObj r o k ih=>
  intro w es h he;simp only [Sem.runT];cases ho:w.heap[r]? with
  |none=>exact ⟨trivial,he⟩
  |some x=>
   cases x with
   |cells c e f=>exact ⟨trivial,he⟩
   |_=>exact ih _ _ h (JE he (Y1u _ _ _))
 |choose q k ih=>
  intro w es h he;simp only [Sem.runT];split
  ·exact ih 0 w es (h 0) he
  ·exact ih _ _ es (h _) he
 |sys c k ih=>intro w es h he;exact h.elim
 |program k ih=>intro w es h he;exact ih p w es h he
 |mark m k ih=>intro w es h he;exact ih w _ h.2 (JE he ⟨by simpa using h.1.1,by simpa using h.1.2⟩)
 |halt h=>exact fun w es hh he=>⟨hh,he⟩
theorem Xw {p:Program} {f:FuncId} {es:Array Event} (h:∀e∈es,EvOk e):∀e∈seen p f es,EvOk e:=by
 unfold seen;obtain ⟨l⟩:=es;simp only [List.size_toArray,List.foldl_toArray'];have:∀(l:List Event) (q:Bool) (kept:Array Event),(∀e∈l,EvOk e)→(∀e∈kept,EvOk e)→
   ∀e∈(l.foldl (fun (x:Bool×Array Event) e=>match e.loc with
    |.mark (.extern f)=>((p.funcs[f]?).any (·.norace),x.2)
    |_=>(x.1,if x.1 && !e.sync then x.2 else x.2.push e)) (q,kept)).2,EvOk e:=by
  intro l;induction l with
  |nil=>exact fun q kept _ hk=>hk
  |cons a l ih=>
   intro q kept hl hk;simp only [List.foldl_cons];split
   ·exact ih _ _ (fun e he=>hl e (List.mem_cons_of_mem _ he)) hk
   ·refine ih _ _ (fun e he=>hl e (List.mem_cons_of_mem _ he)) ?_;show ∀e∈(if q && !a.sync then kept else kept.push a),EvOk e;split
    ·exact hk
    ·exact JE hk (hl a (List.mem_cons_self))
 exact this l _ _ (fun e he=>h e (by simpa using he)) (by simp)
end Mute
end Go.Proofs.YtdoghgnifkgfdaaGreat
namespace Go.Proofs.YtdoghgnifkgfdaaGreat.Mute
open Go
section
variable {P:Program}
theorem YaE:Ok P T (mark .noRoom):=⟨⟨by simp,by simp⟩,trivial⟩
theorem Yd {α:Type} {L:α→Prop} {c:Prop} [Decidable c] {a b:Sem α} (h1:Ok P L a) (h2:Ok P L b):Ok P L (if c then a else b):=by split<;>assumption
theorem Y1o {α β:Type} (f:α→β→Sem (ForInStep β)) (h:∀a b,Ok P T (f a b)):∀(xs:List α) (init:β),Ok P T (forIn xs init f)
 | [],_=>trivial
 |x::xs,b=>by
  rw [List.forIn_cons];refine Ok.bindT (h x b) fun s=>?_;cases s with
  |done b=>exact trivial
  |yield b=>exact Y1o f h xs b
theorem Zn {α β:Type} (f:α→β→Sem (ForInStep β)) (h:∀a b,Ok P T (f a b)) (xs:Array α) (init:β):Ok P T (forIn xs init f):=by
 rw [←Array.forIn_toList];exact Y1o f h _ _
theorem Zw {β:Type} (f:Nat→β→Sem (ForInStep β)) (h:∀a b,Ok P T (f a b)) (r:Std.Legacy.Range) (init:β):Ok P T (forIn r init f):=by
 rw [Std.Legacy.Range.forIn_eq_forIn_range'];exact Y1o f h _ _
theorem Y3t {α β:Type} (f:α→Sem β) (h:∀a,Ok P T (f a)):∀(xs:List α),Ok P T (xs.mapM f)
 | []=>trivial
 |x::xs=>by
  rw [List.mapM_cons];exact Ok.bindT (h x) fun _=>Ok.bindT (Y3t f h xs) fun _=>trivial
theorem Y2E {α β:Type} (f:α→Sem β) (h:∀a,Ok P T (f a)) (xs:Array α):Ok P T (xs.mapM f):=by
 rw [Array.mapM_eq_mapM_toList];exact Ok.map _ (Y3t f h _)
theorem Y0K (r:Nat):Ok P T (viewAt r):=by
 unfold viewAt;repeat' first|(with_reducible first|exact Ok.pureT _|exact XE _|exact Xx _|refine Ok.bindT ?_ fun _=>?_|refine Yd ?_ ?_)|split|intro _|dsimp only|exact trivial
theorem Y4n (r:Nat):Ok P T (numberAt r):=by
 unfold numberAt;repeat' first|(with_reducible first|exact Ok.pureT _|exact XE _|exact Xx _|refine Ok.bindT ?_ fun _=>?_|refine Yd ?_ ?_)|split|intro _|dsimp only|exact trivial
theorem Y7L (r:Nat):Ok P T (cellsIn r):=by
 unfold cellsIn;repeat' first|(with_reducible first|exact Ok.pureT _|exact XE _|exact Xx _|refine Ok.bindT ?_ fun _=>?_|refine Yd ?_ ?_)|split|intro _|dsimp only|exact trivial
theorem Y4g (a:Addr) (b:Bool):Ok P T (asNumber a b):=by
 unfold asNumber;repeat' first|(with_reducible first|exact Ok.pureT _|exact Je _|refine Ok.bindT ?_ fun _=>?_)|split|intro _|dsimp only|exact trivial
theorem Y0G (a:Addr):Ok P T (behindNumber a):=by
 unfold behindNumber;repeat' first|(with_reducible first|exact Ok.pureT _|exact Y4n _|refine Ok.bindT ?_ fun _=>?_)|split|intro _|dsimp only|exact trivial
theorem Y4w (a:Addr):Ok P T (noView a):=by
 unfold noView;repeat' first|(with_reducible first|exact Ok.pureT _|exact YD _|exact Y0K _|refine Ok.bindT ?_ fun _=>?_|refine Yd ?_ ?_)|split|intro _|dsimp only|exact trivial
theorem Y3i (a:Addr):Ok P T (markStringish a):=by
 unfold markStringish;repeat' first|(with_reducible first|exact Ok.pureT _|exact XE _|exact Y57 _ _|refine Ok.bindT ?_ fun _=>?_)|split|intro _|dsimp only|exact trivial
theorem YaY (a:Addr):Ok P T (stringish a):=by
 unfold stringish;repeat' first|(with_reducible first|exact Ok.pureT _|exact XE _|exact Y1i _|refine Ok.bindT ?_ fun _=>?_|refine Yd ?_ ?_)|split|intro _|dsimp only|exact trivial
theorem Y7h (a b:Addr):Ok P T (mayBeOne a b):=by
 unfold mayBeOne;repeat' first|(with_reducible first|exact Ok.pureT _|exact XE _|exact YaY _|refine Ok.bindT ?_ fun _=>?_)|split|intro _|dsimp only|exact trivial
theorem Y1q (a b:Addr):Ok P T (sameAddr a b):=by
 unfold sameAddr;repeat' first|(with_reducible first|exact Ok.pureT _|exact YD _|exact Y1i _|exact XN _|exact Y4w _|exact Y7h _ _|refine Ok.bindT ?_ fun _=>?_|refine Yd ?_ ?_)|split|intro _|dsimp only|exact trivial
theorem Y30 (a b:Option Addr):Ok P T (samePointer a b):=by
 unfold samePointer;repeat' first|(with_reducible first|exact Ok.pureT _|exact Y1q _ _|refine Ok.bindT ?_ fun _=>?_)|split|intro _|dsimp only|exact trivial
theorem XA (t:TypeId):Ok P T (typeInfo t):=by
 unfold typeInfo;repeat' first|(with_reducible first|exact Ok.pureT _|exact Ya _|exact Xr|refine Ok.bindT ?_ fun _=>?_)|split|intro _|dsimp only|exact trivial
theorem Yu (t:TypeId):Ok P T (underlying t):=by
 unfold underlying;repeat' first|(with_reducible first|exact Ok.pureT _|exact Ya _|exact Xr|refine Ok.bindT ?_ fun _=>?_)|split|intro _|dsimp only|exact trivial
theorem Y0x (t:TypeId):Ok P T (typeStr t):=by
 unfold typeStr;repeat' first|(with_reducible first|exact Ok.pureT _|exact YD _|exact XA _|refine Ok.bindT ?_ fun _=>?_|refine Yd ?_ ?_)|split|intro _|dsimp only|exact trivial
theorem ZF (t:TypeId):Ok P T (zeroValue t):=by
 unfold zeroValue;repeat' first|(with_reducible first|exact Ok.pureT _|exact YD _|exact XA _|refine Ok.bindT ?_ fun _=>?_)|split|intro _|dsimp only|exact trivial
theorem sizeOf_ok (t:TypeId):Ok P T (Go.sizeOf t):=by
 unfold Go.sizeOf;repeat' first|(with_reducible first|exact Ok.pureT _|exact XA _|refine Ok.bindT ?_ fun _=>?_)|split|intro _|dsimp only|exact trivial
theorem Y4C (t:TypeId):Ok P T (isAgg t):=by
 unfold isAgg;repeat' first|(with_reducible first|exact Ok.pureT _|exact Yu _|refine Ok.bindT ?_ fun _=>?_)|split|intro _|dsimp only|exact trivial
theorem loadCellsFrom_ok (a:Addr):∀(n i:Nat) (acc:Array Value),Ok P T (loadCellsFrom a i n acc)
 |0,_,_=>trivial
 |n+1,i,_=>Ok.bindT (Y3A _ _) fun _=>loadCellsFrom_ok a n (i+1) _
theorem Y0z (a:Addr) (n:Nat):Ok P T (loadCells a n):=loadCellsFrom_ok a n 0 _
theorem Y0f (a:Addr):∀(vs:List Value) (i:Nat),Ok P T (storeCells a vs i)
 | [],_=>trivial
 |_::r,i=>Ok.bindT (YaV _ _ _) fun _=>Y0f a r (i+1)
theorem Y3T (t:TypeId) (a:Addr):Ok P T (loadVar t a):=by
 unfold loadVar;repeat' first|(with_reducible first|exact Ok.pureT _|exact Y3A _ _|exact sizeOf_ok _|exact Y4C _|exact Y0z _ _|refine Ok.bindT ?_ fun _=>?_|refine Yd ?_ ?_)|split|intro _|dsimp only|exact trivial
theorem Y32 (t:TypeId) (a:Addr) (v:Value):Ok P T (storeVar t a v):=by
 unfold storeVar;repeat' first|(with_reducible first|exact Ok.pureT _|exact Ya _|exact sizeOf_ok _|exact Y0f _ _ _|refine Ok.bindT ?_ fun _=>?_|refine Yd ?_ ?_)|split|intro _|dsimp only|exact trivial
theorem Jp (t:TypeId) (c:Array Value):Ok P T (newRow t c):=by
 unfold newRow;repeat' first|(with_reducible first|exact Ok.pureT _|exact Je _|refine Ok.bindT ?_ fun _=>?_)|split|intro _|dsimp only|exact trivial
theorem JN (t:TypeId) (v:Value):Ok P T (newVar t v):=by
 unfold newVar;repeat' first|(with_reducible first|exact Ok.pureT _|exact Jp _ _|refine Ok.bindT ?_ fun _=>?_)|split|intro _|dsimp only|exact trivial
theorem Y1j (t:TypeId):Ok P T (elemOf t):=by
 unfold elemOf;repeat' first|(with_reducible first|exact Ok.pureT _|exact Ya _|exact Yu _|refine Ok.bindT ?_ fun _=>?_)|split|intro _|dsimp only|exact trivial
theorem XK (t:TypeId) (c:Array Value) (o:Nat):Ok P T (part t c o):=by
 unfold part;repeat' first|(with_reducible first|exact Ok.pureT _|exact Ya _|exact sizeOf_ok _|exact Y4C _|refine Ok.bindT ?_ fun _=>?_|refine Yd ?_ ?_)|split|intro _|dsimp only|exact trivial
theorem Xf {α:Type} (e:RuntimeError):Ok P T ((runtimePanic e:Sem α)):=by
 unfold runtimePanic;repeat' first|(with_reducible first|exact Ok.pureT _|exact Y3R _|exact Xr|exact JN _ _|exact Y1j _|refine Ok.bindT ?_ fun _=>?_)|split|intro _|dsimp only|exact trivial
theorem Y2a {α:Type} (k:IntKind) (x y:Int) (c:BoundsCode):Ok P T ((boundsPanic k x y c:Sem α)):=by
 unfold boundsPanic;repeat' first|(with_reducible first|exact Ok.pureT _|exact XN _|exact Xf _|refine Ok.bindT ?_ fun _=>?_|exact Ok.map _ (by assumption)|refine Yd ?_ ?_)|split|intro _|dsimp only|exact trivial
theorem Y0t (v:Value):Ok P T (asIntOf v):=by
 unfold asIntOf;repeat' first|(with_reducible first|exact Ok.pureT _|exact Ya _|exact YD _|refine Ok.bindT ?_ fun _=>?_)|split|intro _|dsimp only|exact trivial
theorem Zx (v:Value):Ok P T (asInt v):=by
 unfold asInt;repeat' first|(with_reducible first|exact Ok.pureT _|exact Y0t _|refine Ok.bindT ?_ fun _=>?_)|split|intro _|dsimp only|exact trivial
theorem Y3H (v:Value):Ok P T (asBool v):=by
 unfold asBool;repeat' first|(with_reducible first|exact Ok.pureT _|exact Ya _|refine Ok.bindT ?_ fun _=>?_)|split|intro _|dsimp only|exact trivial
theorem Y9Z (v:Value):Ok P T (asAgg v):=by
 unfold asAgg;repeat' first|(with_reducible first|exact Ok.pureT _|exact Ya _|refine Ok.bindT ?_ fun _=>?_)|split|intro _|dsimp only|exact trivial
theorem Y3X (v:Value):Ok P T (asAddr v):=by
 unfold asAddr;repeat' first|(with_reducible first|exact Ok.pureT _|exact Ya _|exact Xf _|refine Ok.bindT ?_ fun _=>?_)|split|intro _|dsimp only|exact trivial
theorem JV (a:Addr):Ok P T (byteOf a):=by
 unfold byteOf;repeat' first|(with_reducible first|exact Ok.pureT _|exact Ya _|exact XE _|exact Xr|exact Y4w _|refine Ok.bindT ?_ fun _=>?_|refine Yd ?_ ?_)|split|intro _|dsimp only|exact trivial
theorem Y7R (a:Addr) (c b:Nat):Ok P T (partAt a c b):=by
 unfold partAt;repeat' first|(with_reducible first|exact Ok.pureT _|exact JV _|refine Ok.bindT ?_ fun _=>?_|refine Yd ?_ ?_)|split|intro _|dsimp only|exact trivial
theorem Ybf (a:Addr) (f:Field):Ok P T (fieldPlace a f):=by
 unfold fieldPlace;repeat' first|(with_reducible first|exact Ok.pureT _|exact sizeOf_ok _|exact Y7R _ _ _|refine Ok.bindT ?_ fun _=>?_|refine Yd ?_ ?_)|split|intro _|dsimp only|exact trivial
theorem Y8T (a:Addr) (u:TypeId) (n:Nat):Ok P T (variablesAt a u n):=by
 unfold variablesAt;repeat' first|(with_reducible first|exact Ok.pureT _|exact XE _|exact Xr|refine Ok.bindT ?_ fun _=>?_)|split|intro _|dsimp only|exact trivial
theorem Y2N (a b:Addr):Ok P T (Op.twoPlaces a b ):=by
 unfold Op.twoPlaces;repeat' first|(with_reducible first|exact Ok.pureT _|exact YD _|exact Xr|exact JV _|refine Ok.bindT ?_ fun _=>?_|refine Yd ?_ ?_)|split|intro _|dsimp only|exact trivial
theorem Y5a (k:IntKind) (a b:Addr):Ok P T (Op.addrSub k  a b ):=by
 unfold Op.addrSub;repeat' first|(with_reducible first|exact Ok.pureT _|exact Y2N _ _|refine Ok.bindT ?_ fun _=>?_)|split|intro _|dsimp only|exact trivial
theorem Y6M (op:BinOp) (a b:Addr):Ok P T (Op.addrCmp op  a b ):=by
 unfold Op.addrCmp;repeat' first|(with_reducible first|exact Ok.pureT _|exact YD _|exact Y2N _ _|refine Ok.bindT ?_ fun _=>?_)|split|intro _|dsimp only|exact trivial
theorem Y9C (k:IntKind) (a:Addr) (n:Int):Ok P T (Op.addrMod k  a  n ):=by
 unfold Op.addrMod;repeat' first|(with_reducible first|exact Ok.pureT _|exact YD _|exact XE _|exact XA _|exact JV _|refine Ok.bindT ?_ fun _=>?_|refine Yd ?_ ?_)|split|intro _|dsimp only|exact trivial
theorem Y2u (op:BinOp) (k:FloatKind) (x y:Nat):Ok P T (Op.floatArith op k x y):=by
 unfold Op.floatArith;repeat' first|(with_reducible first|exact Ok.pureT _|exact Ya _|exact XN _|refine Ok.bindT ?_ fun _=>?_)|split|intro _|dsimp only|exact trivial
theorem Y2U (op:BinOp) (k:FloatKind) (x y:Nat):Ok P T (Op.floatCmp op k x y):=by
 unfold Op.floatCmp;repeat' first|(with_reducible first|exact Ok.pureT _|exact Ya _|refine Ok.bindT ?_ fun _=>?_)|split|intro _|dsimp only|exact trivial
theorem Y2y (op:BinOp) (k:IntKind) (x y:Int):Ok P T (Op.intArith op k x y):=by
 unfold Op.intArith;repeat' first|(with_reducible first|exact Ok.pureT _|exact Ya _|refine Ok.bindT ?_ fun _=>?_)|split|intro _|dsimp only|exact trivial
theorem Y3M (op:BinOp) (k:IntKind) (x y:Int):Ok P T (Op.intBits op k x y):=by
 unfold Op.intBits;repeat' first|(with_reducible first|exact Ok.pureT _|exact Ya _|refine Ok.bindT ?_ fun _=>?_)|split|intro _|dsimp only|exact trivial
theorem Y7T (op:BinOp) (x y:Int):Ok P T (Op.intCmp op x y):=by
 unfold Op.intCmp;repeat' first|(with_reducible first|exact Ok.pureT _|exact Ya _|refine Ok.bindT ?_ fun _=>?_)|split|intro _|dsimp only|exact trivial
theorem Y5Q (op:BinOp) (k:IntKind) (x y:Int):Ok P T (Op.intDiv op k x y):=by
 unfold Op.intDiv;repeat' first|(with_reducible first|exact Ok.pureT _|exact Ya _|exact Xf _|refine Ok.bindT ?_ fun _=>?_|refine Yd ?_ ?_)|split|intro _|dsimp only|exact trivial
theorem Y6t (op:BinOp) (k:IntKind) (x:Int) (j:IntKind) (y:Int):Ok P T (Op.shift op k x j y):=by
 unfold Op.shift;repeat' first|(with_reducible first|exact Ok.pureT _|exact Ya _|exact Xf _|refine Ok.bindT ?_ fun _=>?_|refine Yd ?_ ?_)|split|intro _|dsimp only|exact trivial
theorem Y8Q (op:BinOp) (x y:ByteArray):Ok P T (Op.stringOp op x y):=by
 unfold Op.stringOp;repeat' first|(with_reducible first|exact Ok.pureT _|exact Ya _|exact YD _|refine Ok.bindT ?_ fun _=>?_|refine Yd ?_ ?_)|split|intro _|dsimp only|exact trivial
theorem Y8v (op:UnOp) (x:Value):Ok P T (Op.unary op x):=by
 unfold Op.unary;repeat' first|(with_reducible first|exact Ok.pureT _|exact Ya _|exact YD _|exact Y2y _ _ _ _|exact Y3M _ _ _ _|refine Ok.bindT ?_ fun _=>?_|refine Yd ?_ ?_)|split|intro _|dsimp only|exact trivial
theorem Y1f (s:FloatKind) (b:Nat) (t:FloatKind):Ok P T (Conv.floatToFloat s b t):=by
 unfold Conv.floatToFloat;repeat' first|(with_reducible first|exact Ok.pureT _|exact XN _|refine Ok.bindT ?_ fun _=>?_|refine Yd ?_ ?_)|split|intro _|dsimp only|exact trivial
theorem Y00 (op:BinOp) (k:FloatKind) (x y:Nat):Ok P T (Op.Complex.arith op k x y):=by
 unfold Op.Complex.arith;repeat' first|(with_reducible first|exact Ok.pureT _|exact Ya _|exact Y2u _ _ _ _|refine Ok.bindT ?_ fun _=>?_)|split|intro _|dsimp only|exact trivial
theorem Y2K (op:BinOp) (k:FloatKind) (x y:Nat):Ok P T (Op.Complex.cmp op k x y):=by
 unfold Op.Complex.cmp;repeat' first|(with_reducible first|exact Ok.pureT _|exact Y3H _|exact Y2U _ _ _ _|refine Ok.bindT ?_ fun _=>?_)|split|intro _|dsimp only|exact trivial
theorem Y8g (s:FloatKind) (x:Nat) (t:FloatKind):Ok P T (Op.Complex.conv s x t):=by
 unfold Op.Complex.conv;repeat' first|(with_reducible first|exact Ok.pureT _|exact Ya _|exact Y1f _ _ _|refine Ok.bindT ?_ fun _=>?_|refine Yd ?_ ?_)|split|intro _|dsimp only|exact trivial
theorem Zd (x y:Nat):Ok P T (Op.Complex.add x y):=by
 unfold Op.Complex.add;repeat' first|(with_reducible first|exact Ok.pureT _|exact Y00 _ _ _ _|refine Ok.bindT ?_ fun _=>?_)|split|intro _|dsimp only|exact trivial
theorem JX (x y:Nat):Ok P T (Op.Complex.sub x y):=by
 unfold Op.Complex.sub;repeat' first|(with_reducible first|exact Ok.pureT _|exact Y00 _ _ _ _|refine Ok.bindT ?_ fun _=>?_)|split|intro _|dsimp only|exact trivial
theorem Y02 (x y:Nat):Ok P T (Op.Complex.mul x y):=by
 unfold Op.Complex.mul;repeat' first|(with_reducible first|exact Ok.pureT _|exact Y00 _ _ _ _|refine Ok.bindT ?_ fun _=>?_)|split|intro _|dsimp only|exact trivial
theorem Y1Q (x y:Nat):Ok P T (Op.Complex.quo x y):=by
 unfold Op.Complex.quo;repeat' first|(with_reducible first|exact Ok.pureT _|exact Y00 _ _ _ _|refine Ok.bindT ?_ fun _=>?_)|split|intro _|dsimp only|exact trivial
theorem Y6f (a b c e:Nat):Ok P T (Op.Complex.product a b c e):=by
 unfold Op.Complex.product;repeat' first|(with_reducible first|exact Ok.pureT _|exact Zd _ _|exact JX _ _|exact Y02 _ _|refine Ok.bindT ?_ fun _=>?_)|split|intro _|dsimp only|exact trivial
theorem Y59 (s a b c e:Nat):Ok P T (Op.Complex.corrected s a b c e):=by
 unfold Op.Complex.corrected;repeat' first|(with_reducible first|exact Ok.pureT _|exact Zd _ _|exact JX _ _|exact Y02 _ _|refine Ok.bindT ?_ fun _=>?_)|split|intro _|dsimp only|exact trivial
theorem Y9T (a b c e:Nat):Ok P T (Op.Complex.quotient a b c e):=by
 unfold Op.Complex.quotient;repeat' first|(with_reducible first|exact Ok.pureT _|exact Y2K _ _ _ _|exact Zd _ _|exact JX _ _|exact Y02 _ _|exact Y1Q _ _|exact Y59 _ _ _ _ _|refine Ok.bindT ?_ fun _=>?_|refine Yd ?_ ?_)|split|intro _|dsimp only|exact trivial
theorem Ybq (op:BinOp) (k:FloatKind) (a b c e:Nat):Ok P T (Op.complexOp op k a b c e):=by
 unfold Op.complexOp;repeat' first|(with_reducible first|exact Ok.pureT _|exact Ya _|exact Y00 _ _ _ _|exact Y2K _ _ _ _|exact Y8g _ _ _|exact Zd _ _|exact JX _ _|exact Y02 _ _|exact Y1Q _ _|exact Y6f _ _ _ _|exact Y9T _ _ _ _|refine Ok.bindT ?_ fun _=>?_|refine Yd ?_ ?_)|split|intro _|dsimp only|exact trivial
theorem Y9j:∀(n:Nat) (t:TypeId) (x y:Value),Ok P T (Op.equalIn n t x y):=by
 intro n;induction n with
 |zero=>intros;unfold Op.equalIn;repeat' first|(with_reducible first|exact Ok.pureT _|exact Ya _|exact YD _|exact XN _|exact Xr|exact Y0G _|exact Y1q _ _|exact Y30 _ _|exact XA _|exact Yu _|exact Y0x _|exact sizeOf_ok _|exact XK _ _ _|exact Xf _|exact JV _|refine Ok.bindT ?_ fun _=>?_|refine Zn _ (fun _ _=>?_) _ _|refine Zw _ (fun _ _=>?_) _ _|exact Ok.map _ (by assumption)|refine Yd ?_ ?_)|split|intro _|dsimp only|exact trivial
 |succ n ih=>intros;unfold Op.equalIn;repeat' first|with_reducible exact ih _ _ _|with_reducible exact ih _ _|(with_reducible first|exact Ok.pureT _|exact Ya _|exact YD _|exact XN _|exact Xr|exact Y0G _|exact Y1q _ _|exact Y30 _ _|exact XA _|exact Yu _|exact Y0x _|exact sizeOf_ok _|exact XK _ _ _|exact Xf _|exact JV _|refine Ok.bindT ?_ fun _=>?_|refine Zn _ (fun _ _=>?_) _ _|refine Zw _ (fun _ _=>?_) _ _|exact Ok.map _ (by assumption)|refine Yd ?_ ?_)|split|intro _|dsimp only|exact trivial
theorem Y2P (t:TypeId) (x y:Value):Ok P T (Op.equal t x y):=Y9j _ t x y
theorem Y7E:∀(n:Nat) (t:TypeId) (x y:Value),Ok P T (Op.eqGuardIn n t x y):=by
 intro n;induction n with
 |zero=>intros;unfold Op.eqGuardIn;repeat' first|(with_reducible first|exact Ok.pureT _|exact YD _|exact Yu _|exact sizeOf_ok _|exact XK _ _ _|refine Ok.bindT ?_ fun _=>?_|refine Zn _ (fun _ _=>?_) _ _|refine Zw _ (fun _ _=>?_) _ _|refine Yd ?_ ?_)|split|intro _|dsimp only|exact trivial
 |succ n ih=>intros;unfold Op.eqGuardIn;repeat' first|with_reducible exact ih _ _ _|with_reducible exact ih _ _|(with_reducible first|exact Ok.pureT _|exact YD _|exact Yu _|exact sizeOf_ok _|exact XK _ _ _|refine Ok.bindT ?_ fun _=>?_|refine Zn _ (fun _ _=>?_) _ _|refine Zw _ (fun _ _=>?_) _ _|refine Yd ?_ ?_)|split|intro _|dsimp only|exact trivial
theorem Yak (x:Value):Ok P T (Conv.bytesToString x):=by
 unfold Conv.bytesToString;repeat' first|(with_reducible first|exact Ok.pureT _|exact Ya _|exact Y0z _ _|refine Ok.bindT ?_ fun _=>?_|refine Zn _ (fun _ _=>?_) _ _|refine Zw _ (fun _ _=>?_) _ _)|split|intro _|dsimp only|exact trivial
theorem Y7t (s:FloatKind) (a b:Nat) (t:FloatKind):Ok P T (Conv.complexToComplex s a b t):=by
 unfold Conv.complexToComplex;repeat' first|(with_reducible first|exact Ok.pureT _|exact Ya _|exact Y1f _ _ _|refine Ok.bindT ?_ fun _=>?_)|split|intro _|dsimp only|exact trivial
theorem Y7f (s:FloatKind) (b:Nat) (t:IntKind):Ok P T (Conv.floatToInt s b t):=by
 unfold Conv.floatToInt;repeat' first|(with_reducible first|exact Ok.pureT _|exact XN _|refine Ok.bindT ?_ fun _=>?_|refine Yd ?_ ?_)|split|intro _|dsimp only|exact trivial
theorem Y8A (s:FloatKind) (n:Int):Ok P T (Conv.intToFloat s n):=by
 unfold Conv.intToFloat;repeat' first|(with_reducible first|exact Ok.pureT _|refine Ok.bindT ?_ fun _=>?_)|split|intro _|dsimp only|exact trivial
theorem Y78 (s:IntKind) (n:Int):Ok P T (Conv.intToInt s n):=by
 unfold Conv.intToInt;repeat' first|(with_reducible first|exact Ok.pureT _|refine Ok.bindT ?_ fun _=>?_)|split|intro _|dsimp only|exact trivial
theorem Y5I (n:Int):Ok P T (Conv.intToString n):=by
 unfold Conv.intToString;repeat' first|(with_reducible first|exact Ok.pureT _|refine Ok.bindT ?_ fun _=>?_)|split|intro _|dsimp only|exact trivial
theorem Y5i (x:Value):Ok P T (Conv.runesToString x):=by
 unfold Conv.runesToString;repeat' first|(with_reducible first|exact Ok.pureT _|exact Ya _|exact Y0z _ _|refine Ok.bindT ?_ fun _=>?_|refine Zn _ (fun _ _=>?_) _ _|refine Zw _ (fun _ _=>?_) _ _)|split|intro _|dsimp only|exact trivial
theorem YaO (e:TypeId) (s:ByteArray):Ok P T (Conv.stringToBytes e s):=by
 unfold Conv.stringToBytes;repeat' first|(with_reducible first|exact Ok.pureT _|exact XN _|exact Y3i _|exact Jp _ _|refine Ok.bindT ?_ fun _=>?_|exact Ok.map _ (by assumption))|split|intro _|dsimp only|exact trivial
theorem Y8X (e:TypeId) (s:ByteArray):Ok P T (Conv.stringToRunes e s):=by
 unfold Conv.stringToRunes;repeat' first|(with_reducible first|exact Ok.pureT _|exact XN _|exact Jp _ _|refine Ok.bindT ?_ fun _=>?_)|split|intro _|dsimp only|exact trivial
theorem Y8L (a:Addr):Ok P T (Conv.seenAt a):=by
 unfold Conv.seenAt;repeat' first|(with_reducible first|exact Ok.pureT _|exact YD _|exact XE _|exact Xr|exact Y0K _|refine Ok.bindT ?_ fun _=>?_|refine Yd ?_ ?_)|split|intro _|dsimp only|exact trivial
theorem Y07 (s t:TypeId) (x:Value):Ok P T (Conv.unsafePointer s t x):=by
 unfold Conv.unsafePointer;repeat' first|(with_reducible first|exact Ok.pureT _|exact Ya _|exact YD _|exact Je _|exact XE _|exact Xr|exact Y7L _|exact Y4g _ _|exact Yu _|exact sizeOf_ok _|exact Y8T _ _ _|exact Y8L _|refine Ok.bindT ?_ fun _=>?_|refine Zn _ (fun _ _=>?_) _ _|refine Zw _ (fun _ _=>?_) _ _|refine Yd ?_ ?_)|split|intro _|dsimp only|exact trivial
theorem Y2b (ts:Array TypeId) (t:TypeId) (xs:Array Value):Ok P T (Builtin.unsafeAdd_ ts t xs):=by
 unfold Builtin.unsafeAdd_;obtain ⟨l⟩:=xs;rcases l with _|⟨v,_|⟨u,_|⟨z,l⟩⟩⟩
 ·exact Ya _
 ·cases v<;>exact Ya _
 ·cases v with
  |pointer c=>
   cases c with
   |none=>
    refine Ok.bindT (s:=asInt u) (Zx _) (fun _=>?_);repeat' first|(with_reducible first|exact Ok.pureT _|exact Ya _|exact YD _|exact XE _|exact Xr|exact Y0K _|exact Zx _|exact Y07 _ _ _|refine Ok.bindT ?_ fun _=>?_|refine Yd ?_ ?_)|split|intro _|dsimp only|exact trivial
   |some a=>
    refine Ok.bindT (s:=asInt u) (Zx _) (fun _=>?_);repeat' first|(with_reducible first|exact Ok.pureT _|exact Ya _|exact YD _|exact XE _|exact Xr|exact Y0K _|exact Zx _|exact Y07 _ _ _|refine Ok.bindT ?_ fun _=>?_|refine Yd ?_ ?_)|split|intro _|dsimp only|exact trivial
  |_=>exact Ya _
 ·cases v<;>exact Ya _
theorem Y8z (t:TypeId) (x y:Value):Ok P T (movedNumber t x y):=by
 unfold movedNumber;repeat' first|(with_reducible first|exact Ok.pureT _|exact YD _|exact Y4g _ _|exact Y0G _|exact Yu _|exact Y07 _ _ _|exact Y2b _ _ _|refine Ok.bindT ?_ fun _=>?_|refine Yd ?_ ?_)|split|intro _|dsimp only|exact trivial
theorem Yb3 (t:TypeId) (x y:Value):Ok P T (movedPointer t x y):=by
 unfold movedPointer;repeat' first|(with_reducible first|exact Ok.pureT _|exact YD _|exact Y4n _|exact Y2b _ _ _|refine Ok.bindT ?_ fun _=>?_|refine Yd ?_ ?_)|split|intro _|dsimp only|exact trivial
theorem Y6H (op:BinOp) (t:TypeId) (x y:Operand) (a b:Value):Ok P T (eqGuard op t x y a b):=by
 unfold eqGuard;repeat' first|(with_reducible first|exact Ok.pureT _|exact YD _|exact Xr|exact XK _ _ _|exact Y7E _ _ _ _|refine Ok.bindT ?_ fun _=>?_|refine Yd ?_ ?_)|split|intro _|dsimp only|exact trivial
theorem Yb1 (op:BinOp) (t:TypeId) (x y:Value):Ok P T (binOp op t x y):=by
 unfold binOp;repeat' first|(with_reducible first|exact Ok.pureT _|exact Ya _|exact YD _|exact Y0G _|exact Yu _|exact Y5a _ _ _|exact Y6M _ _ _|exact Y9C _ _ _|exact Y2u _ _ _ _|exact Y2U _ _ _ _|exact Y2y _ _ _ _|exact Y3M _ _ _ _|exact Y7T _ _ _|exact Y5Q _ _ _ _|exact Y6t _ _ _ _ _|exact Y8Q _ _ _|exact Zd _ _|exact JX _ _|exact Y02 _ _|exact Y1Q _ _|exact Ybq _ _ _ _ _ _|exact Y2P _ _ _|exact Y07 _ _ _|exact Y8z _ _ _|exact Yb3 _ _ _|refine Ok.bindT ?_ fun _=>?_|refine Yd ?_ ?_)|split|intro _|dsimp only|exact trivial
theorem Y2z (s t:TypeId) (x:Value):Ok P T (convert s t x):=by
 unfold convert;repeat' first|(with_reducible first|exact Ok.pureT _|exact Ya _|exact YD _|exact Y3i _|exact Yu _|exact Y1f _ _ _|exact Yak _|exact Y7t _ _ _ _|exact Y7f _ _ _|exact Y8A _ _|exact Y78 _ _|exact Y5I _|exact Y5i _|exact YaO _ _|exact Y8X _ _|exact Y07 _ _ _|refine Ok.bindT ?_ fun _=>?_)|split|intro _|dsimp only|exact trivial
theorem JZ (v:Value):Ok P T (Instr.sureAddr v):=by
 unfold Instr.sureAddr;repeat' first|(with_reducible first|exact Ok.pureT _|exact Ya _|refine Ok.bindT ?_ fun _=>?_)|split|intro _|dsimp only|exact trivial
theorem Y9b (t:TypeId) (v:Value):Ok P T (Instr.loadAt t v):=by
 unfold Instr.loadAt;repeat' first|(with_reducible first|exact Ok.pureT _|exact Y3T _ _|exact JZ _|refine Ok.bindT ?_ fun _=>?_)|split|intro _|dsimp only|exact trivial
theorem Yaq (t:TypeId) (v x:Value):Ok P T (Instr.storeAt t v x):=by
 unfold Instr.storeAt;repeat' first|(with_reducible first|exact Ok.pureT _|exact Y32 _ _ _|exact JZ _|refine Ok.bindT ?_ fun _=>?_)|split|intro _|dsimp only|exact trivial
theorem Y5d (t:TypeId) (v:Value) (n:Nat):Ok P T (Instr.fieldAt t v n):=by
 unfold Instr.fieldAt;repeat' first|(with_reducible first|exact Ok.pureT _|exact Ya _|exact Yu _|exact Ybf _ _|exact JZ _|refine Ok.bindT ?_ fun _=>?_)|split|intro _|dsimp only|exact trivial
theorem Y8r (t:TypeId) (v x:Value):Ok P T (Instr.indexAt t v x):=by
 unfold Instr.indexAt;repeat' first|(with_reducible first|exact Ok.pureT _|exact Ya _|exact YD _|exact Yu _|exact sizeOf_ok _|exact Y2a _ _ _ _|exact Y0t _|exact Zd _ _|exact JZ _|refine Ok.bindT ?_ fun _=>?_|refine Yd ?_ ?_)|split|intro _|dsimp only|exact trivial
theorem Yai (x:Value) (y:Nat) (c:BoundsCode):Ok P T (Instr.sliceBound x y c):=by
 unfold Instr.sliceBound;repeat' first|(with_reducible first|exact Ok.pureT _|exact Y2a _ _ _ _|exact Y0t _|refine Ok.bindT ?_ fun _=>?_|refine Yd ?_ ?_)|split|intro _|dsimp only|exact trivial
theorem Y2k (b:Bool) (l c:Nat) (x y z:Option Value):Ok P T (Instr.sliceBounds b l c x y z):=by
 unfold Instr.sliceBounds;repeat' first|(with_reducible first|exact Ok.pureT _|exact Ya _|exact Yai _ _ _|refine Ok.bindT ?_ fun _=>?_|refine Yd ?_ ?_)|split|intro _|dsimp only|exact trivial
theorem Zb (t:TypeId) (v:Value) (x y z:Option Value):Ok P T (Instr.slice t v x y z):=by
 unfold Instr.slice;repeat' first|(with_reducible first|exact Ok.pureT _|exact Ya _|exact Yu _|exact sizeOf_ok _|exact Y3X _|exact Zd _ _|exact Y2k _ _ _ _ _ _|refine Ok.bindT ?_ fun _=>?_|exact Ok.map _ (by assumption)|refine Yd ?_ ?_)|split|intro _|dsimp only|exact trivial
theorem YaG (t:TypeId) (v:Value) (x y z:Option Value):Ok P T (Instr.sliceAt t v x y z):=by
 unfold Instr.sliceAt;repeat' first|(with_reducible first|exact Ok.pureT _|exact Yu _|exact sizeOf_ok _|exact Zd _ _|exact JZ _|exact Y2k _ _ _ _ _ _|exact Zb _ _ _ _ _|refine Ok.bindT ?_ fun _=>?_|refine Yd ?_ ?_)|split|intro _|dsimp only|exact trivial
theorem Y5T (t:TypeId) (v:Value):Ok P T (Instr.arrayAt t v):=by
 unfold Instr.arrayAt;repeat' first|(with_reducible first|exact Ok.pureT _|exact Ya _|exact Yu _|exact Xf _|exact Y2z _ _ _|exact Zb _ _ _ _ _|refine Ok.bindT ?_ fun _=>?_|refine Yd ?_ ?_)|split|intro _|dsimp only|exact trivial
theorem Y5r (t:TypeId) (b:Bool) (v:Value):Ok P T (Instr.alloc t b v):=by
 unfold Instr.alloc;repeat' first|(with_reducible first|exact Ok.pureT _|exact ZF _|exact Y32 _ _ _|exact JN _ _|refine Ok.bindT ?_ fun _=>?_)|split|intro _|dsimp only|exact trivial
theorem Y9n (t:TypeId) (v:Value):Ok P T (Instr.box t v):=by
 unfold Instr.box;repeat' first|(with_reducible first|exact Ok.pureT _|exact JN _ _|refine Ok.bindT ?_ fun _=>?_)|split|intro _|dsimp only|exact trivial
theorem Y6p (t:TypeId) (xs:Array (Nat×Value)):Ok P T (Instr.build t xs):=by
 unfold Instr.build;repeat' first|(with_reducible first|exact Ok.pureT _|exact Ya _|exact Yu _|exact ZF _|exact sizeOf_ok _|exact XK _ _ _|refine Ok.bindT ?_ fun _=>?_|refine Y2E _ (fun _=>?_) _|exact Ok.map _ (by assumption))|split|intro _|dsimp only|exact trivial
theorem Y7a (t:TypeId) (n:Nat) (xs:Array (Nat×Value)):Ok P T (Instr.buildSlice t n xs):=by
 unfold Instr.buildSlice;repeat' first|(with_reducible first|exact Ok.pureT _|exact Ya _|exact YD _|exact Yu _|exact ZF _|exact sizeOf_ok _|exact Jp _ _|exact XK _ _ _|exact Zb _ _ _ _ _|refine Ok.bindT ?_ fun _=>?_|exact Ok.map _ (by assumption)|refine Yd ?_ ?_)|split|intro _|dsimp only|exact trivial
theorem Y2o (v:Value) (n:Nat):Ok P T (Instr.extract v n):=by
 unfold Instr.extract;repeat' first|(with_reducible first|exact Ok.pureT _|exact Ya _|refine Ok.bindT ?_ fun _=>?_)|split|intro _|dsimp only|exact trivial
theorem Y1k (t:TypeId) (v:Value) (n:Nat):Ok P T (Instr.field t v n):=by
 unfold Instr.field;repeat' first|(with_reducible first|exact Ok.pureT _|exact Ya _|exact Yu _|exact XK _ _ _|exact Y9Z _|refine Ok.bindT ?_ fun _=>?_)|split|intro _|dsimp only|exact trivial
theorem Y19 (t:TypeId) (v x:Value):Ok P T (Instr.index t v x):=by
 unfold Instr.index;repeat' first|(with_reducible first|exact Ok.pureT _|exact Ya _|exact Yu _|exact sizeOf_ok _|exact XK _ _ _|exact Y2a _ _ _ _|exact Y0t _|refine Ok.bindT ?_ fun _=>?_|refine Yd ?_ ?_)|split|intro _|dsimp only|exact trivial
theorem Y0e (b:Bool):∀(n:Nat) (t:TypeId) (x:Value),Ok P T (Instr.checkKey b n t x):=by
 intro n;induction n with
 |zero=>intros;unfold Instr.checkKey;repeat' first|(with_reducible first|exact Ok.pureT _|exact Ya _|exact YD _|exact XA _|exact Yu _|exact Y0x _|exact sizeOf_ok _|exact XK _ _ _|exact Xf _|refine Ok.bindT ?_ fun _=>?_|refine Zn _ (fun _ _=>?_) _ _|refine Zw _ (fun _ _=>?_) _ _|exact Ok.map _ (by assumption)|refine Yd ?_ ?_)|split|intro _|dsimp only|exact trivial
 |succ n ih=>intros;unfold Instr.checkKey;repeat' first|with_reducible exact ih _ _ _|with_reducible exact ih _ _|(with_reducible first|exact Ok.pureT _|exact Ya _|exact YD _|exact XA _|exact Yu _|exact Y0x _|exact sizeOf_ok _|exact XK _ _ _|exact Xf _|refine Ok.bindT ?_ fun _=>?_|refine Zn _ (fun _ _=>?_) _ _|refine Zw _ (fun _ _=>?_) _ _|exact Ok.map _ (by assumption)|refine Yd ?_ ?_)|split|intro _|dsimp only|exact trivial
theorem Y3e (t:TypeId) (k:Value):∀(l:List MapEntry) (i:Nat),Ok P T (Instr.findAsking t k l i)
 | [],_=>trivial
 |e::es,i=>Ok.bindT (Y2P _ _ _) fun b=>by
  cases b
  ·exact Y3e t k es (i+1)
  ·exact trivial
theorem Y0u (t:TypeId) (k:Value) (l:List MapEntry):Ok P T (Instr.findKey t k l):=by
 unfold Instr.findKey;repeat' first|(with_reducible first|exact Ok.pureT _|exact Yu _|exact Y3e _ _ _ _|refine Ok.bindT ?_ fun _=>?_)|split|intro _|dsimp only|exact trivial
theorem Y6A (t:TypeId) (x y:Value) (b:Bool):Ok P T (Instr.lookup t x y b):=by
 unfold Instr.lookup;repeat' first|(with_reducible first|exact Ok.pureT _|exact Ya _|exact Xx _|exact Yu _|exact ZF _|exact Y19 _ _ _|exact Y0e _ _ _ _|exact Y0u _ _ _|refine Ok.bindT ?_ fun _=>?_|exact Ok.map _ (by assumption)|refine Yd ?_ ?_)|split|intro _|dsimp only|exact trivial
theorem Y5U (t:TypeId) (x:Value):Ok P T (Instr.makeChan t x):=by
 unfold Instr.makeChan;repeat' first|(with_reducible first|exact Ok.pureT _|exact Ya _|exact Je _|exact XA _|exact Yu _|exact Xf _|exact Zx _|refine Ok.bindT ?_ fun _=>?_|refine Yd ?_ ?_)|split|intro _|dsimp only|exact trivial
theorem Yad (t:TypeId) (x:Option Value):Ok P T (Instr.makeMap t x):=by
 unfold Instr.makeMap;repeat' first|(with_reducible first|exact Ok.pureT _|exact Ya _|exact Je _|exact Yu _|exact Zx _|refine Ok.bindT ?_ fun _=>?_|exact Ok.map _ (by assumption)|refine Yd ?_ ?_)|split|intro _|dsimp only|exact trivial
theorem Y7i (t:TypeId) (x y:Value):Ok P T (Instr.makeSlice t x y):=by
 unfold Instr.makeSlice;repeat' first|(with_reducible first|exact Ok.pureT _|exact Ya _|exact XN _|exact Y3a _|exact XA _|exact Yu _|exact ZF _|exact sizeOf_ok _|exact Jp _ _|exact Xf _|exact Zx _|exact Zb _ _ _ _ _|refine Ok.bindT ?_ fun _=>?_|exact Ok.map _ (by assumption)|refine Yd ?_ ?_)|split|intro _|dsimp only|exact trivial
theorem Y2Q (x y:Value):Ok P T (Instr.keyThatStays x y):=by
 unfold Instr.keyThatStays;repeat' first|(with_reducible first|exact Ok.pureT _|exact XN _|refine Ok.bindT ?_ fun _=>?_|exact Ok.map _ (by assumption)|refine Yd ?_ ?_)|split|intro _|dsimp only|exact trivial
theorem Y4m (t:TypeId) (x y z:Value):Ok P T (Instr.mapUpdate t x y z):=by
 unfold Instr.mapUpdate;repeat' first|(with_reducible first|exact Ok.pureT _|exact Ya _|exact Xx _|exact Jv _ _|exact Yu _|exact Xf _|exact Y0e _ _ _ _|exact Y0u _ _ _|exact Y2Q _ _|refine Ok.bindT ?_ fun _=>?_|exact Ok.map _ (by assumption))|split|intro _|dsimp only|exact trivial
theorem Y74 (t:TypeId) (x y:Value):Ok P T (Instr.mapEntry t x y):=by
 unfold Instr.mapEntry;repeat' first|(with_reducible first|exact Ok.pureT _|exact Ya _|exact Xx _|exact Jv _ _|exact Yu _|exact ZF _|exact Xf _|exact Y0e _ _ _ _|exact Y0u _ _ _|exact Y2Q _ _|refine Ok.bindT ?_ fun _=>?_|exact Ok.map _ (by assumption))|split|intro _|dsimp only|exact trivial
theorem Ya1 (t:TypeId) (x y z:Value):Ok P T (Instr.entryStore t x y z):=by
 unfold Instr.entryStore;repeat' first|(with_reducible first|exact Ok.pureT _|exact Ya _|exact YD _|exact Xx _|exact Jv _ _|exact Zx _|refine Ok.bindT ?_ fun _=>?_|exact Ok.map _ (by assumption))|split|intro _|dsimp only|exact trivial
theorem Y3u (t:TypeId) (x:Value):Ok P T (Instr.range t x):=by
 unfold Instr.range;repeat' first|(with_reducible first|exact Ok.pureT _|exact Ya _|exact Je _|exact Xx _|exact Yu _|refine Ok.bindT ?_ fun _=>?_|exact Ok.map _ (by assumption))|split|intro _|dsimp only|exact trivial
theorem Ybn (x:Value) (b:Bool) (t:TypeId):Ok P T (Instr.next x b t):=by
 unfold Instr.next;repeat' first|(with_reducible first|exact Ok.pureT _|exact Ya _|exact YD _|exact Xx _|exact Jv _ _|exact XN _|refine Ok.bindT ?_ fun _=>?_|exact Ok.map _ (by assumption)|refine Yd ?_ ?_)|split|intro _|dsimp only|exact trivial
theorem Y80 (x:Value):Ok P T (Instr.entry x):=by
 unfold Instr.entry;repeat' first|(with_reducible first|exact Ok.pureT _|exact Ya _|exact YD _|exact Xx _|refine Ok.bindT ?_ fun _=>?_|exact Ok.map _ (by assumption)|refine Yd ?_ ?_)|split|intro _|dsimp only|exact trivial
theorem Y7I (x:Value) (s t:TypeId) (b:Bool):Ok P T (Instr.typeAssert x s t b):=by
 unfold Instr.typeAssert;repeat' first|(with_reducible first|exact Ok.pureT _|exact Ya _|exact XA _|exact Yu _|exact ZF _|exact Xf _|refine Ok.bindT ?_ fun _=>?_|refine Yd ?_ ?_)|split|intro _|dsimp only|exact trivial
theorem Y5f (a:Addr) (n:Nat):Ok P T (Builtin.holdsCells a n):=by
 unfold Builtin.holdsCells;repeat' first|(with_reducible first|exact Ok.pureT _|exact XE _|refine Ok.bindT ?_ fun _=>?_)|split|intro _|dsimp only|exact trivial
theorem Yby (a b c:Nat) (x:Option Addr) (v:Value):Ok P T (Builtin.mayShare a b c x v):=by
 unfold Builtin.mayShare;repeat' first|(with_reducible first|exact Ok.pureT _|exact Y1i _|exact Zd _ _|exact Zb _ _ _ _ _|exact Y5f _ _|refine Ok.bindT ?_ fun _=>?_|refine Yd ?_ ?_)|split|intro _|dsimp only|exact trivial
theorem Y41 (v:Value):Ok P T (Builtin.lenOf v):=by
 unfold Builtin.lenOf;repeat' first|(with_reducible first|exact Ok.pureT _|exact Ya _|exact Zb _ _ _ _ _|refine Ok.bindT ?_ fun _=>?_)|split|intro _|dsimp only|exact trivial
theorem Y4e (a b:Nat) (v:Value):Ok P T (Builtin.firstCells a b v):=by
 unfold Builtin.firstCells;repeat' first|(with_reducible first|exact Ok.pureT _|exact Ya _|exact Y0z _ _|exact Zb _ _ _ _ _|exact Y2o _ _|refine Ok.bindT ?_ fun _=>?_|exact Ok.map _ (by assumption))|split|intro _|dsimp only|exact trivial
theorem Y8J (ts:Array TypeId) (t:TypeId) (xs:Array Value):Ok P T (Builtin.append_ ts t xs):=by
 unfold Builtin.append_;repeat' first|(with_reducible first|exact Ok.pureT _|exact Ya _|exact YD _|exact XN _|exact Y3a _|exact XA _|exact Yu _|exact ZF _|exact sizeOf_ok _|exact Y0f _ _ _|exact Jp _ _|exact Xf _|exact Zx _|exact Zd _ _|exact Zb _ _ _ _ _|exact Y3u _ _|exact Yby _ _ _ _ _|exact Y41 _|exact Y4e _ _ _|refine Ok.bindT ?_ fun _=>?_|refine Yd ?_ ?_|exact YaE)|split|intro _|dsimp only|exact trivial
theorem Y58 (ts:Array TypeId) (t:TypeId) (xs:Array Value):Ok P T (Builtin.cap_ ts t xs):=by
 unfold Builtin.cap_;repeat' first|(with_reducible first|exact Ok.pureT _|exact Ya _|exact Xx _|exact Yu _|exact Zb _ _ _ _ _|refine Ok.bindT ?_ fun _=>?_|refine Yd ?_ ?_)|split|intro _|dsimp only|exact trivial
theorem YaX (ts:Array TypeId) (t:TypeId) (xs:Array Value):Ok P T (Builtin.close_ ts t xs):=by
 unfold Builtin.close_;obtain ⟨l⟩:=xs;rcases l with _|⟨v,_|⟨u,l⟩⟩
 ·exact Ya _
 ·cases v with
  |chan c=>
   cases c with
   |none=>exact Xf _
   |some r=>
    refine Ok.bindT (s:=getObj r) (Xx _) (fun _=>?_);repeat' first|(with_reducible first|exact Ok.pureT _|exact Ya _|exact Xx _|exact Jv _ _|exact Xf _|refine Ok.bindT ?_ fun _=>?_|refine Yd ?_ ?_)|split|intro _|dsimp only|exact trivial
  |_=>exact Ya _
 ·exact Ya _
theorem Y5p (ts:Array TypeId) (t:TypeId) (xs:Array Value):Ok P T (Builtin.copy_ ts t xs):=by
 unfold Builtin.copy_;repeat' first|(with_reducible first|exact Ok.pureT _|exact Ya _|exact Yu _|exact sizeOf_ok _|exact Y0f _ _ _|exact Zb _ _ _ _ _|exact Y41 _|exact Y4e _ _ _|refine Ok.bindT ?_ fun _=>?_|refine Yd ?_ ?_)|split|intro _|dsimp only|exact trivial
theorem Y6b (ts:Array TypeId) (t:TypeId) (xs:Array Value):Ok P T (Builtin.delete_ ts t xs):=by
 unfold Builtin.delete_;repeat' first|(with_reducible first|exact Ok.pureT _|exact Ya _|exact Xx _|exact Jv _ _|exact Yu _|exact Y0e _ _ _ _|exact Y0u _ _ _|refine Ok.bindT ?_ fun _=>?_|exact Ok.map _ (by assumption))|split|intro _|dsimp only|exact trivial
theorem Yb9 (ts:Array TypeId) (t:TypeId) (xs:Array Value):Ok P T (Builtin.len_ ts t xs):=by
 unfold Builtin.len_;repeat' first|(with_reducible first|exact Ok.pureT _|exact Ya _|exact Xx _|exact Yu _|exact Zb _ _ _ _ _|refine Ok.bindT ?_ fun _=>?_|exact Ok.map _ (by assumption)|refine Yd ?_ ?_)|split|intro _|dsimp only|exact trivial
theorem Y3g:∀(l:List FieldStep) (t:TypeId) (x:Option Value),Ok P T (followBlind l t x):=by
 intro n;induction n with
 |nil=>intros;unfold followBlind;repeat' first|(with_reducible first|exact Ok.pureT _|exact Ya _|exact Yu _|exact XK _ _ _|exact Y1k _ _ _|exact Y19 _ _ _|refine Ok.bindT ?_ fun _=>?_)|split|intro _|dsimp only|exact trivial
 |cons a l ih=>intros;unfold followBlind;repeat' first|with_reducible exact ih _ _|(with_reducible first|exact Ok.pureT _|exact Ya _|exact Yu _|exact XK _ _ _|exact Y1k _ _ _|exact Y19 _ _ _|refine Ok.bindT ?_ fun _=>?_)|split|intro _|dsimp only|exact trivial
theorem Y7l:∀(n:Nat) (t:TypeId) (x:Value) (s:String),Ok P T (nilAhead n t x s):=by
 intro n;induction n with
 |zero=>intros;unfold nilAhead;repeat' first|(with_reducible first|exact Ok.pureT _|exact Ya _|exact XA _|exact Yu _|exact Y3g _ _ _|refine Ok.bindT ?_ fun _=>?_)|split|intro _|dsimp only|exact trivial
 |succ n ih=>intros;unfold nilAhead;repeat' first|with_reducible exact ih _ _ _|with_reducible exact ih _ _|(with_reducible first|exact Ok.pureT _|exact Ya _|exact XA _|exact Yu _|exact Y3g _ _ _|refine Ok.bindT ?_ fun _=>?_)|split|intro _|dsimp only|exact trivial
end
end Go.Proofs.YtdoghgnifkgfdaaGreat.Mute
