import GoSem.Step
import Derived.Laws.Sem
set_option maxRecDepth 100000
set_option maxHeartbeats 16000000
namespace Go.Proofs.Ytdoghgnifkgfdaa
def reW (w:World) (τ:Nat→Question→Nat) (d:Nat):World:={w with tape:=τ,drawn:=d}
def reR {α:Type} (τ:Nat→Question→Nat) (d:Nat):Result α→Result α
 |.ok a w=>.ok a (reW w τ d)
 |.halt h w=>.halt h (reW w τ d)
def worldOf {α:Type}:Result α→World
 |.ok _ w=>w
 |.halt _ w=>w
namespace Mute
def HaltOk:Halt→Prop
 |.panic _|.unsupported _|.stuck _=>True
 |_=>False
def Ok (P:Program) {α:Type} (L:α→Prop):Sem α→Prop
 |.pure a=>L a
 |.load _ _ k=>∀v,Ok P L (k v)
 |.store _ _ _ k=>Ok P L k
 |.new _ k=>∀r,Ok P L (k r)
 |.shape _ k=>∀s,Ok P L (k s)
 |.freeze _ _ k=>Ok P L k
 |.frozen _ k=>∀b,Ok P L (k b)
 |.getObj _ k=>∀o,Ok P L (k o)
 |.setObj _ _ k=>Ok P L k
 |.choose _ k=>∀n,Ok P L (k n)
 |.sys _ _=>False
 |.program k=>Ok P L (k P)
 |.mark m k=>(m≠.disable∧m≠.enable)∧Ok P L k
 |.halt h=>HaltOk h
def T {α:Type} (_:α):Prop:=True
section
variable {P:Program} {α β:Type}
theorem Ok.bind {L:α→Prop} {M:β→Prop} {f:α→Sem β} (hf:∀a,L a→Ok P M (f a)):∀{s:Sem α},Ok P L s→Ok P M (s.bind f)
 |.pure a,h=>hf a h
 |.load _ _ _,h=>fun v=>Ok.bind hf (h v)
 |.store _ _ _ k,h=>Ok.bind hf (s:=k) h
 |.new _ _,h=>fun r=>Ok.bind hf (h r)
 |.shape _ _,h=>fun r=>Ok.bind hf (h r)
 |.freeze _ _ k,h=>Ok.bind hf (s:=k) h
 |.frozen _ _,h=>fun r=>Ok.bind hf (h r)
 |.getObj _ _,h=>fun r=>Ok.bind hf (h r)
 |.setObj _ _ k,h=>Ok.bind hf (s:=k) h
 |.choose _ _,h=>fun r=>Ok.bind hf (h r)
 |.sys _ _,h=>h.elim
 |.program k,h=>Ok.bind hf (s:=k P) h
 |.mark _ k,h=>⟨h.1,Ok.bind hf (s:=k) h.2⟩
 |.halt _,h=>h
theorem Ok.bindT {M:β→Prop} {s:Sem α} {f:α→Sem β} (h:Ok P T s) (hf:∀a,Ok P M (f a)):Ok P M (s >>= f):=Ok.bind (L:=T) (fun a _=>hf a) h
theorem Ok.bindL {L:α→Prop} {M:β→Prop} {s:Sem α} {f:α→Sem β} (h:Ok P L s) (hf:∀a,L a→Ok P M (f a)):Ok P M (s >>= f):=Ok.bind hf h
theorem Ok.pureT (a:α):Ok P T (pure a:Sem α):=trivial
theorem Ok.map {s:Sem α} (f:α→β) (h:Ok P T s):Ok P T (f <$> s):=Ok.bindT (P:=P) (M:=T) (f:=fun a=>pure (f a)) h fun _=>trivial
end
section
variable {P:Program}
theorem load_ok (a:Addr) (m:Mode):Ok P T (load a m):=fun _=>trivial
theorem store_ok (a:Addr) (v:Value) (m:Mode):Ok P T (store a v m):=trivial
theorem newObj_ok (o:Obj):Ok P T (newObj o):=fun _=>trivial
theorem shape_ok (r:Nat):Ok P T (shape r):=fun _=>trivial
theorem freeze_ok (a:Addr) (n:Nat):Ok P T (freeze a n):=trivial
theorem frozen_ok (a:Addr):Ok P T (frozen a):=fun _=>trivial
theorem getObj_ok (r:Nat):Ok P T (getObj r):=fun _=>trivial
theorem setObj_ok (r:Nat) (o:Obj):Ok P T (setObj r o):=trivial
theorem choose_ok (q:Question):Ok P T (choose q):=fun _=>trivial
theorem program_ok:Ok P T program:=trivial
theorem stuck_ok {α:Type} (s:String):Ok P T (stuck s:Sem α):=trivial
theorem unsupported_ok {α:Type} (u:Unsupported):Ok P T (unsupported u:Sem α):=trivial
theorem goPanic_ok {α:Type} (v:Value):Ok P T (goPanic v:Sem α):=trivial
theorem askRoom_ok (n:Nat):Ok P T (askRoom n):=by
 unfold askRoom;split
 ·exact ⟨⟨by simp,by simp⟩,trivial⟩
 ·exact trivial
end
def Local {α:Type} (p:Program) (s:Sem α) (w:World) (es:Array Event):Prop:=
 ∃n,(worldOf (s.runT p w es).1).tape=w.tape∧(worldOf (s.runT p w es).1).drawn=w.drawn+n∧
  ∀τ d,(∀k,k<n→τ (d+k)=w.tape (w.drawn+k))→s.runT p (reW w τ d) es=(reR τ (d+n) (s.runT p w es).1,(s.runT p w es).2)
theorem re_cell (w:World) (τ:Nat→Question→Nat) (d:Nat) (a:Addr):(reW w τ d).cell? a=w.cell? a:=rfl
theorem re_frozen (w:World) (τ:Nat→Question→Nat) (d:Nat) (a:Addr):(reW w τ d).frozen? a=w.frozen? a:=rfl
theorem re_farLoad (p:Program) (w:World) (τ:Nat→Question→Nat) (d:Nat) (a:Addr) (b:Bool):(reW w τ d).farLoad p a b=w.farLoad p a b:=rfl
theorem re_setCell (w:World) (τ:Nat→Question→Nat) (d:Nat) (a:Addr) (v:Value):(reW w τ d).setCell a v=reW (w.setCell a v) τ d:=rfl
theorem re_freeze (w:World) (τ:Nat→Question→Nat) (d:Nat) (a:Addr) (n:Nat):(reW w τ d).freeze a n=reW (w.freeze a n) τ d:=by
 unfold World.freeze;split<;>rfl
theorem re_viewStore (p:Program) (w:World) (τ:Nat→Question→Nat) (d:Nat) (a b:Addr) (t:TypeId) (v:Value) (at_:Bool):(reW w τ d).viewStore p a t b v at_=(w.viewStore p a t b v at_).map (fun x=>(reW x.1 τ d,x.2)):=by
 have hs:(reW w τ d).seen p a t b at_=w.seen p a t b at_:=rfl;unfold World.viewStore;rw [hs];cases tight p p.depth t with
 |false=>rfl
 |true=>
  cases w.seen p a t b at_ with
  |error e=>rfl
  |ok r=>
   obtain ⟨c,e,fz,first,like,cells⟩:=r;cases hb:v.bytes? with
   |none=>rfl
   |some bytes=>
    simp only [bind,Except.bind,pure,Except.pure,Bool.not_true,Bool.false_eq_true,if_false];split
    ·rfl
    ·split<;>rfl
theorem re_farStore (p:Program) (w:World) (τ:Nat→Question→Nat) (d:Nat) (a:Addr) (v:Value) (b:Bool):(reW w τ d).farStore p a v b=(w.farStore p a v b).map (fun x=>(reW x.1 τ d,x.2)):=by
 have hh:(reW w τ d).heap=w.heap:=rfl;unfold World.farStore;rw [hh];split
 ·rw [re_viewStore];cases w.viewStore p _ _ a v b<;>rfl
 ·rfl
theorem farStore_kept {p:Program} {w w':World} {a:Addr} {v:Value} {b:Bool} {l:List Addr} (h:w.farStore p a v b=.ok (w',l)):w'.tape=w.tape∧w'.drawn=w.drawn:=by
 have e:=re_farStore p w w.tape w.drawn a v b;have e0:reW w w.tape w.drawn=w:=rfl;rw [e0,h] at e;have e1:w'=reW w' w.tape w.drawn:=congrArg Prod.fst (Except.ok.inj e);have t1:w'.tape=(reW w' w.tape w.drawn).tape:=congrArg World.tape e1;have t2:w'.drawn=(reW w' w.tape w.drawn).drawn:=congrArg World.drawn e1;exact ⟨t1,t2⟩
theorem local_pure {α:Type} (p:Program) (a:α) (w:World) (es:Array Event):Local p (.pure a) w es:=⟨0,rfl,rfl,fun _ _ _=>rfl⟩
theorem local_halt {α:Type} (p:Program) (h:Halt) (w:World) (es:Array Event):Local (α:=α) p (.halt h) w es:=⟨0,rfl,rfl,fun _ _ _=>rfl⟩
theorem runT_local {α:Type} (p:Program) {L:α→Prop}:∀(s:Sem α) (w:World) (es:Array Event),Ok p L s→Local p s w es:=by
 intro s;induction s with
 |pure a=>exact fun w es _=>local_pure p a w es
 |load m a k ih=>
  intro w es h;unfold Local;simp only [Sem.runT,re_cell,re_farLoad];cases hc:w.cell? a with
  |some v=>exact ih v w _ (h v)
  |none=>
   cases hf:w.farLoad p a (m==.atomic) with
   |ok r=>exact ih r.1 w _ (h r.1)
   |error e=>exact ⟨0,rfl,rfl,fun _ _ _=>rfl⟩
 |store m a v k ih=>
  intro w es h;have go:∀(hv:∀c,v≠.agg c) (ht:∀c,v≠.tuple c),Local p (.store m a v k) w es:=fun hv ht=>by
   have e:∀(w:World),Sem.runT p (.store m a v k) w es=(match w.cell? a with
    | some _ => if w.frozen? a then (.halt (.unsupported (.unsafePointer "a write to bytes that a string shares")) w, es) else k.runT p (w.setCell a v) (es.push ⟨.cell a, true, m == .atomic⟩)
    |none=>match w.farStore p a v (m==.atomic) with
     |.ok (w,touched)=>k.runT p w (es++touched.toArray.map (⟨.cell ·,true,m==.atomic⟩))
     |.error h=>(.halt h w,es)):=fun w=>by
    cases v<;>first|rfl|exact absurd rfl (hv _)|exact absurd rfl (ht _)
   unfold Local;simp only [e,re_cell,re_frozen,re_farStore,re_setCell];cases hc:w.cell? a with
   |some x=>
    simp only [];by_cases hz:w.frozen? a=true
    ·simp only [hz,if_true];exact ⟨0,rfl,rfl,fun _ _ _=>rfl⟩
    ·simp only [hz];exact ih (w.setCell a v) _ h
   |none=>
    simp only [];cases hf:w.farStore p a v (m==.atomic) with
    |ok r=>
     obtain ⟨w',l⟩:=r;have hk:=farStore_kept hf;have hx:=ih w' (es++l.toArray.map (⟨.cell ·,true,m==.atomic⟩)) h;unfold Local at hx;rw [hk.1,hk.2] at hx;exact hx
    |error e=>exact ⟨0,rfl,rfl,fun _ _ _=>rfl⟩
  cases v with
  |agg c=>exact ⟨0,rfl,rfl,fun _ _ _=>rfl⟩
  |tuple c=>exact ⟨0,rfl,rfl,fun _ _ _=>rfl⟩
  |_=>exact go (by simp) (by simp)
 |new o k ih=>intro w es h;exact ih _ {w with heap:=w.heap.push o} es (h _)
 |shape r k ih=>intro w es h;exact ih _ w es (h _)
 |freeze a n k ih=>
  intro w es h;unfold Local;simp only [Sem.runT,re_freeze];have:=ih (w.freeze a n) es h;unfold Local at this;have e1:(w.freeze a n).tape=w.tape:=by unfold World.freeze;split<;>rfl
  have e2:(w.freeze a n).drawn=w.drawn:=by unfold World.freeze;split<;>rfl
  rw [e1,e2] at this;exact this
 |frozen a k ih=>intro w es h;exact ih _ w es (h _)
 |getObj r k ih=>
  intro w es h;unfold Local;simp only [Sem.runT];have hh:∀τ d,(reW w τ d).heap=w.heap:=fun _ _=>rfl;simp only [hh];cases ho:w.heap[r]? with
  |none=>exact ⟨0,rfl,rfl,fun _ _ _=>rfl⟩
  |some o=>
   cases o with
   |cells c e f=>exact ⟨0,rfl,rfl,fun _ _ _=>rfl⟩
   |_=>exact ih _ w _ (h _)
 |setObj r o k ih=>
  intro w es h;unfold Local;simp only [Sem.runT];have hh:∀τ d,(reW w τ d).heap=w.heap:=fun _ _=>rfl;simp only [hh];cases ho:w.heap[r]? with
  |none=>exact ⟨0,rfl,rfl,fun _ _ _=>rfl⟩
  |some x=>
   cases x with
   |cells c e f=>exact ⟨0,rfl,rfl,fun _ _ _=>rfl⟩
   |_=>exact ih {w with heap:=w.heap.setIfInBounds r o} _ h
 |choose q k ih=>
  intro w es h;unfold Local;simp only [Sem.runT];by_cases hq:q.forced=true
  ·simp only [hq,if_true];exact ih 0 w es (h 0)
  ·simp only [hq];obtain ⟨n,h1,h2,h3⟩:=ih (q.cut (w.tape w.drawn q)) {w with drawn:=w.drawn+1} es (h _);refine ⟨n+1,h1,?_,fun τ d ha=>?_⟩
   ·show _=w.drawn+(n+1);have h2':_=w.drawn+1+n:=h2;exact h2'.trans (by omega)
   ·have e0:(reW w τ d).tape (reW w τ d).drawn q=w.tape w.drawn q:=by
     have:=ha 0 (by omega);simp only [Nat.add_zero] at this;exact congrFun this q
    show Sem.runT p (k (q.cut ((reW w τ d).tape (reW w τ d).drawn q))) {reW w τ d with drawn:=d+1} es=_;rw [e0];have:=h3 τ (d+1) (fun j hj=>by
     have hx:=ha (j+1) (by omega);show τ (d+1+j)=w.tape (w.drawn+1+j);rw [show d+1+j=d+(j+1) by omega,show w.drawn+1+j=w.drawn+(j+1) by omega];exact hx)
    rw [show d+(n+1)=d+1+n by omega];exact this
 |sys c k ih=>intro w es h;exact h.elim
 |program k ih=>intro w es h;exact ih p w es h
 |mark m k ih=>intro w es h;exact ih w _ h.2
 |halt h=>exact fun w es _=>local_halt p h w es
def EvOk (e:Event):Prop:=e.loc≠.mark .disable∧e.loc≠.mark .enable
def ResOk {α:Type} (L:α→Prop):Result α→Prop
 |.ok a _=>L a
 |.halt h _=>HaltOk h
theorem farLoad_halt {p:Program} {w:World} {a:Addr} {b:Bool} {h:Halt} (e:w.farLoad p a b=.error h):HaltOk h:=by
 unfold World.farLoad at e;split at e
 ·split at e
  ·cases e
  ·cases e;trivial
 ·cases e;unfold World.noCell;split<;>trivial
theorem farStore_halt {p:Program} {w:World} {a:Addr} {v:Value} {b:Bool} {h:Halt} (e:w.farStore p a v b=.error h):HaltOk h:=by
 unfold World.farStore at e;split at e
 ·split at e
  ·cases e
  ·cases e;trivial
 ·cases e;unfold World.noCell;split<;>trivial
theorem evOk_cell (a:Addr) (wr sy:Bool):EvOk ⟨.cell a,wr,sy⟩:=⟨by simp,by simp⟩
theorem evOk_obj (r:Nat) (wr sy:Bool):EvOk ⟨.obj r,wr,sy⟩:=⟨by simp,by simp⟩
theorem evOk_push {es:Array Event} {e:Event} (h:∀x∈es,EvOk x) (he:EvOk e):∀x∈es.push e,EvOk x:=fun x hx=>by
 rcases Array.mem_push.1 hx with hx|rfl
 ·exact h x hx
 ·exact he
theorem evOk_cells {es:Array Event} (l:List Addr) (wr sy:Bool) (h:∀x∈es,EvOk x):∀x∈es++l.toArray.map (⟨.cell ·,wr,sy⟩),EvOk x:=fun x hx=>by
 rcases Array.mem_append.1 hx with hx|hx
 ·exact h x hx
 ·obtain ⟨a,_,rfl⟩:=Array.mem_map.1 hx;exact evOk_cell a wr sy
theorem runT_sound {α:Type} (p:Program) {L:α→Prop}:∀(s:Sem α) (w:World) (es:Array Event),Ok p L s→(∀e∈es,EvOk e)→ResOk L (s.runT p w es).1∧∀e∈(s.runT p w es).2,EvOk e:=by
 intro s;induction s with
 |pure a=>exact fun w es h he=>⟨h,he⟩
 |load m a k ih=>
  intro w es h he;simp only [Sem.runT];cases hc:w.cell? a with
  |some v=>exact ih v w _ (h v) (evOk_push he (evOk_cell _ _ _))
  |none=>
   cases hf:w.farLoad p a (m==.atomic) with
   |ok r=>exact ih r.1 w _ (h r.1) (evOk_cells _ _ _ he)
   |error e=>exact ⟨farLoad_halt hf,he⟩
 |store m a v k ih=>
  intro w es h he;have go:∀(hv:∀c,v≠.agg c) (ht:∀c,v≠.tuple c),ResOk L (Sem.runT p (.store m a v k) w es).1∧∀e∈(Sem.runT p (.store m a v k) w es).2,EvOk e:=fun hv ht=>by
   have e:∀(w:World),Sem.runT p (.store m a v k) w es=(match w.cell? a with
    | some _ => if w.frozen? a then (.halt (.unsupported (.unsafePointer "a write to bytes that a string shares")) w, es) else k.runT p (w.setCell a v) (es.push ⟨.cell a, true, m == .atomic⟩)
    |none=>match w.farStore p a v (m==.atomic) with
     |.ok (w,touched)=>k.runT p w (es++touched.toArray.map (⟨.cell ·,true,m==.atomic⟩))
     |.error h=>(.halt h w,es)):=fun w=>by
    cases v<;>first|rfl|exact absurd rfl (hv _)|exact absurd rfl (ht _)
   rw [e];cases hc:w.cell? a with
   |some x=>
    by_cases hz:w.frozen? a=true
    ·simp only [hz,if_true];exact ⟨trivial,he⟩
    ·simp only [hz];exact ih (w.setCell a v) _ h (evOk_push he (evOk_cell _ _ _))
   |none=>
    simp only [];cases hf:w.farStore p a v (m==.atomic) with
    |ok r=>exact ih r.1 _ h (evOk_cells _ _ _ he)
    |error e=>exact ⟨farStore_halt hf,he⟩
  cases v with
  |agg c=>exact ⟨trivial,he⟩
  |tuple c=>exact ⟨trivial,he⟩
  |_=>exact go (by simp) (by simp)
 |new o k ih=>intro w es h he;exact ih _ _ es (h _) he
 |shape r k ih=>intro w es h he;exact ih _ w es (h _) he
 |freeze a n k ih=>intro w es h he;exact ih _ es h he
 |frozen a k ih=>intro w es h he;exact ih _ w es (h _) he
 |getObj r k ih=>
  intro w es h he;simp only [Sem.runT];cases ho:w.heap[r]? with
  |none=>exact ⟨trivial,he⟩
  |some o=>
   cases o with
   |cells c e f=>exact ⟨trivial,he⟩
   |_=>exact ih _ w _ (h _) (evOk_push he (evOk_obj _ _ _))
 |setObj r o k ih=>
  intro w es h he;simp only [Sem.runT];cases ho:w.heap[r]? with
  |none=>exact ⟨trivial,he⟩
  |some x=>
   cases x with
   |cells c e f=>exact ⟨trivial,he⟩
   |_=>exact ih _ _ h (evOk_push he (evOk_obj _ _ _))
 |choose q k ih=>
  intro w es h he;simp only [Sem.runT];split
  ·exact ih 0 w es (h 0) he
  ·exact ih _ _ es (h _) he
 |sys c k ih=>intro w es h he;exact h.elim
 |program k ih=>intro w es h he;exact ih p w es h he
 |mark m k ih=>intro w es h he;exact ih w _ h.2 (evOk_push he ⟨by simpa using h.1.1,by simpa using h.1.2⟩)
 |halt h=>exact fun w es hh he=>⟨hh,he⟩
theorem evOk_seen {p:Program} {f:FuncId} {es:Array Event} (h:∀e∈es,EvOk e):∀e∈seen p f es,EvOk e:=by
 unfold seen;obtain ⟨l⟩:=es;simp only [List.size_toArray,List.foldl_toArray'];have:∀(l:List Event) (q:Bool) (kept:Array Event),(∀e∈l,EvOk e)→(∀e∈kept,EvOk e)→
   ∀e∈(l.foldl (fun (x:Bool×Array Event) e=>match e.loc with
    |.mark (.extern f)=>((p.funcs[f]?).any (·.norace),x.2)
    |_=>(x.1,if x.1 && !e.sync then x.2 else x.2.push e)) (q,kept)).2,EvOk e:=by
  intro l;induction l with
  |nil=>exact fun q kept _ hk=>hk
  |cons a l ih=>
   intro q kept hl hk;simp only [List.foldl_cons];split
   ·exact ih _ _ (fun e he=>hl e (List.mem_cons_of_mem _ he)) hk
   ·refine ih _ _ (fun e he=>hl e (List.mem_cons_of_mem _ he)) ?_;show ∀e∈(if q && !a.sync then kept else kept.push a),EvOk e;split
    ·exact hk
    ·exact evOk_push hk (hl a (List.mem_cons_self))
 exact this l _ _ (fun e he=>h e (by simpa using he)) (by simp)
end Mute
end Go.Proofs.Ytdoghgnifkgfdaa
namespace Go.Proofs.Ytdoghgnifkgfdaa.Mute
open Go
section
variable {P:Program}
theorem mark_noRoom_ok:Ok P T (mark .noRoom):=⟨⟨by simp,by simp⟩,trivial⟩
theorem ite_ok {α:Type} {L:α→Prop} {c:Prop} [Decidable c] {a b:Sem α} (h1:Ok P L a) (h2:Ok P L b):Ok P L (if c then a else b):=by split<;>assumption
theorem forInList_ok {α β:Type} (f:α→β→Sem (ForInStep β)) (h:∀a b,Ok P T (f a b)):∀(xs:List α) (init:β),Ok P T (forIn xs init f)
 | [],_=>trivial
 |x::xs,b=>by
  rw [List.forIn_cons];refine Ok.bindT (h x b) fun s=>?_;cases s with
  |done b=>exact trivial
  |yield b=>exact forInList_ok f h xs b
theorem forInArray_ok {α β:Type} (f:α→β→Sem (ForInStep β)) (h:∀a b,Ok P T (f a b)) (xs:Array α) (init:β):Ok P T (forIn xs init f):=by
 rw [←Array.forIn_toList];exact forInList_ok f h _ _
theorem forInRange_ok {β:Type} (f:Nat→β→Sem (ForInStep β)) (h:∀a b,Ok P T (f a b)) (r:Std.Legacy.Range) (init:β):Ok P T (forIn r init f):=by
 rw [Std.Legacy.Range.forIn_eq_forIn_range'];exact forInList_ok f h _ _
theorem mapMList_ok {α β:Type} (f:α→Sem β) (h:∀a,Ok P T (f a)):∀(xs:List α),Ok P T (xs.mapM f)
 | []=>trivial
 |x::xs=>by
  rw [List.mapM_cons];exact Ok.bindT (h x) fun _=>Ok.bindT (mapMList_ok f h xs) fun _=>trivial
theorem mapMArray_ok {α β:Type} (f:α→Sem β) (h:∀a,Ok P T (f a)) (xs:Array α):Ok P T (xs.mapM f):=by
 rw [Array.mapM_eq_mapM_toList];exact Ok.map _ (mapMList_ok f h _)
theorem viewAt_ok (r:Nat):Ok P T (viewAt r):=by
 unfold viewAt;repeat' first|(with_reducible first|exact Ok.pureT _|exact shape_ok _|exact getObj_ok _|refine Ok.bindT ?_ fun _=>?_|refine ite_ok ?_ ?_)|split|intro _|dsimp only|exact trivial
theorem numberAt_ok (r:Nat):Ok P T (numberAt r):=by
 unfold numberAt;repeat' first|(with_reducible first|exact Ok.pureT _|exact shape_ok _|exact getObj_ok _|refine Ok.bindT ?_ fun _=>?_|refine ite_ok ?_ ?_)|split|intro _|dsimp only|exact trivial
theorem cellsIn_ok (r:Nat):Ok P T (cellsIn r):=by
 unfold cellsIn;repeat' first|(with_reducible first|exact Ok.pureT _|exact shape_ok _|exact getObj_ok _|refine Ok.bindT ?_ fun _=>?_|refine ite_ok ?_ ?_)|split|intro _|dsimp only|exact trivial
theorem asNumber_ok (a:Addr) (b:Bool):Ok P T (asNumber a b):=by
 unfold asNumber;repeat' first|(with_reducible first|exact Ok.pureT _|exact newObj_ok _|refine Ok.bindT ?_ fun _=>?_)|split|intro _|dsimp only|exact trivial
theorem behindNumber_ok (a:Addr):Ok P T (behindNumber a):=by
 unfold behindNumber;repeat' first|(with_reducible first|exact Ok.pureT _|exact numberAt_ok _|refine Ok.bindT ?_ fun _=>?_)|split|intro _|dsimp only|exact trivial
theorem noView_ok (a:Addr):Ok P T (noView a):=by
 unfold noView;repeat' first|(with_reducible first|exact Ok.pureT _|exact unsupported_ok _|exact viewAt_ok _|refine Ok.bindT ?_ fun _=>?_|refine ite_ok ?_ ?_)|split|intro _|dsimp only|exact trivial
theorem markStringish_ok (a:Addr):Ok P T (markStringish a):=by
 unfold markStringish;repeat' first|(with_reducible first|exact Ok.pureT _|exact shape_ok _|exact freeze_ok _ _|refine Ok.bindT ?_ fun _=>?_)|split|intro _|dsimp only|exact trivial
theorem stringish_ok (a:Addr):Ok P T (stringish a):=by
 unfold stringish;repeat' first|(with_reducible first|exact Ok.pureT _|exact shape_ok _|exact frozen_ok _|refine Ok.bindT ?_ fun _=>?_|refine ite_ok ?_ ?_)|split|intro _|dsimp only|exact trivial
theorem mayBeOne_ok (a b:Addr):Ok P T (mayBeOne a b):=by
 unfold mayBeOne;repeat' first|(with_reducible first|exact Ok.pureT _|exact shape_ok _|exact stringish_ok _|refine Ok.bindT ?_ fun _=>?_)|split|intro _|dsimp only|exact trivial
theorem sameAddr_ok (a b:Addr):Ok P T (sameAddr a b):=by
 unfold sameAddr;repeat' first|(with_reducible first|exact Ok.pureT _|exact unsupported_ok _|exact frozen_ok _|exact choose_ok _|exact noView_ok _|exact mayBeOne_ok _ _|refine Ok.bindT ?_ fun _=>?_|refine ite_ok ?_ ?_)|split|intro _|dsimp only|exact trivial
theorem samePointer_ok (a b:Option Addr):Ok P T (samePointer a b):=by
 unfold samePointer;repeat' first|(with_reducible first|exact Ok.pureT _|exact sameAddr_ok _ _|refine Ok.bindT ?_ fun _=>?_)|split|intro _|dsimp only|exact trivial
theorem typeInfo_ok (t:TypeId):Ok P T (typeInfo t):=by
 unfold typeInfo;repeat' first|(with_reducible first|exact Ok.pureT _|exact stuck_ok _|exact program_ok|refine Ok.bindT ?_ fun _=>?_)|split|intro _|dsimp only|exact trivial
theorem underlying_ok (t:TypeId):Ok P T (underlying t):=by
 unfold underlying;repeat' first|(with_reducible first|exact Ok.pureT _|exact stuck_ok _|exact program_ok|refine Ok.bindT ?_ fun _=>?_)|split|intro _|dsimp only|exact trivial
theorem typeStr_ok (t:TypeId):Ok P T (typeStr t):=by
 unfold typeStr;repeat' first|(with_reducible first|exact Ok.pureT _|exact unsupported_ok _|exact typeInfo_ok _|refine Ok.bindT ?_ fun _=>?_|refine ite_ok ?_ ?_)|split|intro _|dsimp only|exact trivial
theorem zeroValue_ok (t:TypeId):Ok P T (zeroValue t):=by
 unfold zeroValue;repeat' first|(with_reducible first|exact Ok.pureT _|exact unsupported_ok _|exact typeInfo_ok _|refine Ok.bindT ?_ fun _=>?_)|split|intro _|dsimp only|exact trivial
theorem sizeOf_ok (t:TypeId):Ok P T (Go.sizeOf t):=by
 unfold Go.sizeOf;repeat' first|(with_reducible first|exact Ok.pureT _|exact typeInfo_ok _|refine Ok.bindT ?_ fun _=>?_)|split|intro _|dsimp only|exact trivial
theorem isAgg_ok (t:TypeId):Ok P T (isAgg t):=by
 unfold isAgg;repeat' first|(with_reducible first|exact Ok.pureT _|exact underlying_ok _|refine Ok.bindT ?_ fun _=>?_)|split|intro _|dsimp only|exact trivial
theorem loadCellsFrom_ok (a:Addr):∀(n i:Nat) (acc:Array Value),Ok P T (loadCellsFrom a i n acc)
 |0,_,_=>trivial
 |n+1,i,_=>Ok.bindT (load_ok _ _) fun _=>loadCellsFrom_ok a n (i+1) _
theorem loadCells_ok (a:Addr) (n:Nat):Ok P T (loadCells a n):=loadCellsFrom_ok a n 0 _
theorem storeCells_ok (a:Addr):∀(vs:List Value) (i:Nat),Ok P T (storeCells a vs i)
 | [],_=>trivial
 |_::r,i=>Ok.bindT (store_ok _ _ _) fun _=>storeCells_ok a r (i+1)
theorem loadVar_ok (t:TypeId) (a:Addr):Ok P T (loadVar t a):=by
 unfold loadVar;repeat' first|(with_reducible first|exact Ok.pureT _|exact load_ok _ _|exact sizeOf_ok _|exact isAgg_ok _|exact loadCells_ok _ _|refine Ok.bindT ?_ fun _=>?_|refine ite_ok ?_ ?_)|split|intro _|dsimp only|exact trivial
theorem storeVar_ok (t:TypeId) (a:Addr) (v:Value):Ok P T (storeVar t a v):=by
 unfold storeVar;repeat' first|(with_reducible first|exact Ok.pureT _|exact stuck_ok _|exact sizeOf_ok _|exact storeCells_ok _ _ _|refine Ok.bindT ?_ fun _=>?_|refine ite_ok ?_ ?_)|split|intro _|dsimp only|exact trivial
theorem newRow_ok (t:TypeId) (c:Array Value):Ok P T (newRow t c):=by
 unfold newRow;repeat' first|(with_reducible first|exact Ok.pureT _|exact newObj_ok _|refine Ok.bindT ?_ fun _=>?_)|split|intro _|dsimp only|exact trivial
theorem newVar_ok (t:TypeId) (v:Value):Ok P T (newVar t v):=by
 unfold newVar;repeat' first|(with_reducible first|exact Ok.pureT _|exact newRow_ok _ _|refine Ok.bindT ?_ fun _=>?_)|split|intro _|dsimp only|exact trivial
theorem elemOf_ok (t:TypeId):Ok P T (elemOf t):=by
 unfold elemOf;repeat' first|(with_reducible first|exact Ok.pureT _|exact stuck_ok _|exact underlying_ok _|refine Ok.bindT ?_ fun _=>?_)|split|intro _|dsimp only|exact trivial
theorem part_ok (t:TypeId) (c:Array Value) (o:Nat):Ok P T (part t c o):=by
 unfold part;repeat' first|(with_reducible first|exact Ok.pureT _|exact stuck_ok _|exact sizeOf_ok _|exact isAgg_ok _|refine Ok.bindT ?_ fun _=>?_|refine ite_ok ?_ ?_)|split|intro _|dsimp only|exact trivial
theorem runtimePanic_ok {α:Type} (e:RuntimeError):Ok P T ((runtimePanic e:Sem α)):=by
 unfold runtimePanic;repeat' first|(with_reducible first|exact Ok.pureT _|exact goPanic_ok _|exact program_ok|exact newVar_ok _ _|exact elemOf_ok _|refine Ok.bindT ?_ fun _=>?_)|split|intro _|dsimp only|exact trivial
theorem boundsPanic_ok {α:Type} (k:IntKind) (x y:Int) (c:BoundsCode):Ok P T ((boundsPanic k x y c:Sem α)):=by
 unfold boundsPanic;repeat' first|(with_reducible first|exact Ok.pureT _|exact choose_ok _|exact runtimePanic_ok _|refine Ok.bindT ?_ fun _=>?_|exact Ok.map _ (by assumption)|refine ite_ok ?_ ?_)|split|intro _|dsimp only|exact trivial
theorem asIntOf_ok (v:Value):Ok P T (asIntOf v):=by
 unfold asIntOf;repeat' first|(with_reducible first|exact Ok.pureT _|exact stuck_ok _|exact unsupported_ok _|refine Ok.bindT ?_ fun _=>?_)|split|intro _|dsimp only|exact trivial
theorem asInt_ok (v:Value):Ok P T (asInt v):=by
 unfold asInt;repeat' first|(with_reducible first|exact Ok.pureT _|exact asIntOf_ok _|refine Ok.bindT ?_ fun _=>?_)|split|intro _|dsimp only|exact trivial
theorem asBool_ok (v:Value):Ok P T (asBool v):=by
 unfold asBool;repeat' first|(with_reducible first|exact Ok.pureT _|exact stuck_ok _|refine Ok.bindT ?_ fun _=>?_)|split|intro _|dsimp only|exact trivial
theorem asAgg_ok (v:Value):Ok P T (asAgg v):=by
 unfold asAgg;repeat' first|(with_reducible first|exact Ok.pureT _|exact stuck_ok _|refine Ok.bindT ?_ fun _=>?_)|split|intro _|dsimp only|exact trivial
theorem asAddr_ok (v:Value):Ok P T (asAddr v):=by
 unfold asAddr;repeat' first|(with_reducible first|exact Ok.pureT _|exact stuck_ok _|exact runtimePanic_ok _|refine Ok.bindT ?_ fun _=>?_)|split|intro _|dsimp only|exact trivial
theorem byteOf_ok (a:Addr):Ok P T (byteOf a):=by
 unfold byteOf;repeat' first|(with_reducible first|exact Ok.pureT _|exact stuck_ok _|exact shape_ok _|exact program_ok|exact noView_ok _|refine Ok.bindT ?_ fun _=>?_|refine ite_ok ?_ ?_)|split|intro _|dsimp only|exact trivial
theorem partAt_ok (a:Addr) (c b:Nat):Ok P T (partAt a c b):=by
 unfold partAt;repeat' first|(with_reducible first|exact Ok.pureT _|exact byteOf_ok _|refine Ok.bindT ?_ fun _=>?_|refine ite_ok ?_ ?_)|split|intro _|dsimp only|exact trivial
theorem fieldPlace_ok (a:Addr) (f:Field):Ok P T (fieldPlace a f):=by
 unfold fieldPlace;repeat' first|(with_reducible first|exact Ok.pureT _|exact sizeOf_ok _|exact partAt_ok _ _ _|refine Ok.bindT ?_ fun _=>?_|refine ite_ok ?_ ?_)|split|intro _|dsimp only|exact trivial
theorem variablesAt_ok (a:Addr) (u:TypeId) (n:Nat):Ok P T (variablesAt a u n):=by
 unfold variablesAt;repeat' first|(with_reducible first|exact Ok.pureT _|exact shape_ok _|exact program_ok|refine Ok.bindT ?_ fun _=>?_)|split|intro _|dsimp only|exact trivial
theorem twoPlaces_ok (a b:Addr):Ok P T (Op.twoPlaces a b ):=by
 unfold Op.twoPlaces;repeat' first|(with_reducible first|exact Ok.pureT _|exact unsupported_ok _|exact program_ok|exact byteOf_ok _|refine Ok.bindT ?_ fun _=>?_|refine ite_ok ?_ ?_)|split|intro _|dsimp only|exact trivial
theorem addrSub_ok (k:IntKind) (a b:Addr):Ok P T (Op.addrSub k  a b ):=by
 unfold Op.addrSub;repeat' first|(with_reducible first|exact Ok.pureT _|exact twoPlaces_ok _ _|refine Ok.bindT ?_ fun _=>?_)|split|intro _|dsimp only|exact trivial
theorem addrCmp_ok (op:BinOp) (a b:Addr):Ok P T (Op.addrCmp op  a b ):=by
 unfold Op.addrCmp;repeat' first|(with_reducible first|exact Ok.pureT _|exact unsupported_ok _|exact twoPlaces_ok _ _|refine Ok.bindT ?_ fun _=>?_)|split|intro _|dsimp only|exact trivial
theorem addrMod_ok (k:IntKind) (a:Addr) (n:Int):Ok P T (Op.addrMod k  a  n ):=by
 unfold Op.addrMod;repeat' first|(with_reducible first|exact Ok.pureT _|exact unsupported_ok _|exact shape_ok _|exact typeInfo_ok _|exact byteOf_ok _|refine Ok.bindT ?_ fun _=>?_|refine ite_ok ?_ ?_)|split|intro _|dsimp only|exact trivial
theorem floatArith_ok (op:BinOp) (k:FloatKind) (x y:Nat):Ok P T (Op.floatArith op k x y):=by
 unfold Op.floatArith;repeat' first|(with_reducible first|exact Ok.pureT _|exact stuck_ok _|exact choose_ok _|refine Ok.bindT ?_ fun _=>?_)|split|intro _|dsimp only|exact trivial
theorem floatCmp_ok (op:BinOp) (k:FloatKind) (x y:Nat):Ok P T (Op.floatCmp op k x y):=by
 unfold Op.floatCmp;repeat' first|(with_reducible first|exact Ok.pureT _|exact stuck_ok _|refine Ok.bindT ?_ fun _=>?_)|split|intro _|dsimp only|exact trivial
theorem intArith_ok (op:BinOp) (k:IntKind) (x y:Int):Ok P T (Op.intArith op k x y):=by
 unfold Op.intArith;repeat' first|(with_reducible first|exact Ok.pureT _|exact stuck_ok _|refine Ok.bindT ?_ fun _=>?_)|split|intro _|dsimp only|exact trivial
theorem intBits_ok (op:BinOp) (k:IntKind) (x y:Int):Ok P T (Op.intBits op k x y):=by
 unfold Op.intBits;repeat' first|(with_reducible first|exact Ok.pureT _|exact stuck_ok _|refine Ok.bindT ?_ fun _=>?_)|split|intro _|dsimp only|exact trivial
theorem intCmp_ok (op:BinOp) (x y:Int):Ok P T (Op.intCmp op x y):=by
 unfold Op.intCmp;repeat' first|(with_reducible first|exact Ok.pureT _|exact stuck_ok _|refine Ok.bindT ?_ fun _=>?_)|split|intro _|dsimp only|exact trivial
theorem intDiv_ok (op:BinOp) (k:IntKind) (x y:Int):Ok P T (Op.intDiv op k x y):=by
 unfold Op.intDiv;repeat' first|(with_reducible first|exact Ok.pureT _|exact stuck_ok _|exact runtimePanic_ok _|refine Ok.bindT ?_ fun _=>?_|refine ite_ok ?_ ?_)|split|intro _|dsimp only|exact trivial
theorem shift_ok (op:BinOp) (k:IntKind) (x:Int) (j:IntKind) (y:Int):Ok P T (Op.shift op k x j y):=by
 unfold Op.shift;repeat' first|(with_reducible first|exact Ok.pureT _|exact stuck_ok _|exact runtimePanic_ok _|refine Ok.bindT ?_ fun _=>?_|refine ite_ok ?_ ?_)|split|intro _|dsimp only|exact trivial
theorem stringOp_ok (op:BinOp) (x y:ByteArray):Ok P T (Op.stringOp op x y):=by
 unfold Op.stringOp;repeat' first|(with_reducible first|exact Ok.pureT _|exact stuck_ok _|exact unsupported_ok _|refine Ok.bindT ?_ fun _=>?_|refine ite_ok ?_ ?_)|split|intro _|dsimp only|exact trivial
theorem unary_ok (op:UnOp) (x:Value):Ok P T (Op.unary op x):=by
 unfold Op.unary;repeat' first|(with_reducible first|exact Ok.pureT _|exact stuck_ok _|exact unsupported_ok _|exact intArith_ok _ _ _ _|exact intBits_ok _ _ _ _|refine Ok.bindT ?_ fun _=>?_|refine ite_ok ?_ ?_)|split|intro _|dsimp only|exact trivial
theorem floatToFloat_ok (s:FloatKind) (b:Nat) (t:FloatKind):Ok P T (Conv.floatToFloat s b t):=by
 unfold Conv.floatToFloat;repeat' first|(with_reducible first|exact Ok.pureT _|exact choose_ok _|refine Ok.bindT ?_ fun _=>?_|refine ite_ok ?_ ?_)|split|intro _|dsimp only|exact trivial
theorem carith_ok (op:BinOp) (k:FloatKind) (x y:Nat):Ok P T (Op.Complex.arith op k x y):=by
 unfold Op.Complex.arith;repeat' first|(with_reducible first|exact Ok.pureT _|exact stuck_ok _|exact floatArith_ok _ _ _ _|refine Ok.bindT ?_ fun _=>?_)|split|intro _|dsimp only|exact trivial
theorem ccmp_ok (op:BinOp) (k:FloatKind) (x y:Nat):Ok P T (Op.Complex.cmp op k x y):=by
 unfold Op.Complex.cmp;repeat' first|(with_reducible first|exact Ok.pureT _|exact asBool_ok _|exact floatCmp_ok _ _ _ _|refine Ok.bindT ?_ fun _=>?_)|split|intro _|dsimp only|exact trivial
theorem cconv_ok (s:FloatKind) (x:Nat) (t:FloatKind):Ok P T (Op.Complex.conv s x t):=by
 unfold Op.Complex.conv;repeat' first|(with_reducible first|exact Ok.pureT _|exact stuck_ok _|exact floatToFloat_ok _ _ _|refine Ok.bindT ?_ fun _=>?_|refine ite_ok ?_ ?_)|split|intro _|dsimp only|exact trivial
theorem cadd_ok (x y:Nat):Ok P T (Op.Complex.add x y):=by
 unfold Op.Complex.add;repeat' first|(with_reducible first|exact Ok.pureT _|exact carith_ok _ _ _ _|refine Ok.bindT ?_ fun _=>?_)|split|intro _|dsimp only|exact trivial
theorem csub_ok (x y:Nat):Ok P T (Op.Complex.sub x y):=by
 unfold Op.Complex.sub;repeat' first|(with_reducible first|exact Ok.pureT _|exact carith_ok _ _ _ _|refine Ok.bindT ?_ fun _=>?_)|split|intro _|dsimp only|exact trivial
theorem cmul_ok (x y:Nat):Ok P T (Op.Complex.mul x y):=by
 unfold Op.Complex.mul;repeat' first|(with_reducible first|exact Ok.pureT _|exact carith_ok _ _ _ _|refine Ok.bindT ?_ fun _=>?_)|split|intro _|dsimp only|exact trivial
theorem cquo_ok (x y:Nat):Ok P T (Op.Complex.quo x y):=by
 unfold Op.Complex.quo;repeat' first|(with_reducible first|exact Ok.pureT _|exact carith_ok _ _ _ _|refine Ok.bindT ?_ fun _=>?_)|split|intro _|dsimp only|exact trivial
theorem product_ok (a b c e:Nat):Ok P T (Op.Complex.product a b c e):=by
 unfold Op.Complex.product;repeat' first|(with_reducible first|exact Ok.pureT _|exact cadd_ok _ _|exact csub_ok _ _|exact cmul_ok _ _|refine Ok.bindT ?_ fun _=>?_)|split|intro _|dsimp only|exact trivial
theorem corrected_ok (s a b c e:Nat):Ok P T (Op.Complex.corrected s a b c e):=by
 unfold Op.Complex.corrected;repeat' first|(with_reducible first|exact Ok.pureT _|exact cadd_ok _ _|exact csub_ok _ _|exact cmul_ok _ _|refine Ok.bindT ?_ fun _=>?_)|split|intro _|dsimp only|exact trivial
theorem quotient_ok (a b c e:Nat):Ok P T (Op.Complex.quotient a b c e):=by
 unfold Op.Complex.quotient;repeat' first|(with_reducible first|exact Ok.pureT _|exact ccmp_ok _ _ _ _|exact cadd_ok _ _|exact csub_ok _ _|exact cmul_ok _ _|exact cquo_ok _ _|exact corrected_ok _ _ _ _ _|refine Ok.bindT ?_ fun _=>?_|refine ite_ok ?_ ?_)|split|intro _|dsimp only|exact trivial
theorem complexOp_ok (op:BinOp) (k:FloatKind) (a b c e:Nat):Ok P T (Op.complexOp op k a b c e):=by
 unfold Op.complexOp;repeat' first|(with_reducible first|exact Ok.pureT _|exact stuck_ok _|exact carith_ok _ _ _ _|exact ccmp_ok _ _ _ _|exact cconv_ok _ _ _|exact cadd_ok _ _|exact csub_ok _ _|exact cmul_ok _ _|exact cquo_ok _ _|exact product_ok _ _ _ _|exact quotient_ok _ _ _ _|refine Ok.bindT ?_ fun _=>?_|refine ite_ok ?_ ?_)|split|intro _|dsimp only|exact trivial
theorem equalIn_ok:∀(n:Nat) (t:TypeId) (x y:Value),Ok P T (Op.equalIn n t x y):=by
 intro n;induction n with
 |zero=>intros;unfold Op.equalIn;repeat' first|(with_reducible first|exact Ok.pureT _|exact stuck_ok _|exact unsupported_ok _|exact choose_ok _|exact program_ok|exact behindNumber_ok _|exact sameAddr_ok _ _|exact samePointer_ok _ _|exact typeInfo_ok _|exact underlying_ok _|exact typeStr_ok _|exact sizeOf_ok _|exact part_ok _ _ _|exact runtimePanic_ok _|exact byteOf_ok _|refine Ok.bindT ?_ fun _=>?_|refine forInArray_ok _ (fun _ _=>?_) _ _|refine forInRange_ok _ (fun _ _=>?_) _ _|exact Ok.map _ (by assumption)|refine ite_ok ?_ ?_)|split|intro _|dsimp only|exact trivial
 |succ n ih=>intros;unfold Op.equalIn;repeat' first|with_reducible exact ih _ _ _|with_reducible exact ih _ _|(with_reducible first|exact Ok.pureT _|exact stuck_ok _|exact unsupported_ok _|exact choose_ok _|exact program_ok|exact behindNumber_ok _|exact sameAddr_ok _ _|exact samePointer_ok _ _|exact typeInfo_ok _|exact underlying_ok _|exact typeStr_ok _|exact sizeOf_ok _|exact part_ok _ _ _|exact runtimePanic_ok _|exact byteOf_ok _|refine Ok.bindT ?_ fun _=>?_|refine forInArray_ok _ (fun _ _=>?_) _ _|refine forInRange_ok _ (fun _ _=>?_) _ _|exact Ok.map _ (by assumption)|refine ite_ok ?_ ?_)|split|intro _|dsimp only|exact trivial
theorem equal_ok (t:TypeId) (x y:Value):Ok P T (Op.equal t x y):=equalIn_ok _ t x y
theorem eqGuardIn_ok:∀(n:Nat) (t:TypeId) (x y:Value),Ok P T (Op.eqGuardIn n t x y):=by
 intro n;induction n with
 |zero=>intros;unfold Op.eqGuardIn;repeat' first|(with_reducible first|exact Ok.pureT _|exact unsupported_ok _|exact underlying_ok _|exact sizeOf_ok _|exact part_ok _ _ _|refine Ok.bindT ?_ fun _=>?_|refine forInArray_ok _ (fun _ _=>?_) _ _|refine forInRange_ok _ (fun _ _=>?_) _ _|refine ite_ok ?_ ?_)|split|intro _|dsimp only|exact trivial
 |succ n ih=>intros;unfold Op.eqGuardIn;repeat' first|with_reducible exact ih _ _ _|with_reducible exact ih _ _|(with_reducible first|exact Ok.pureT _|exact unsupported_ok _|exact underlying_ok _|exact sizeOf_ok _|exact part_ok _ _ _|refine Ok.bindT ?_ fun _=>?_|refine forInArray_ok _ (fun _ _=>?_) _ _|refine forInRange_ok _ (fun _ _=>?_) _ _|refine ite_ok ?_ ?_)|split|intro _|dsimp only|exact trivial
theorem bytesToString_ok (x:Value):Ok P T (Conv.bytesToString x):=by
 unfold Conv.bytesToString;repeat' first|(with_reducible first|exact Ok.pureT _|exact stuck_ok _|exact loadCells_ok _ _|refine Ok.bindT ?_ fun _=>?_|refine forInArray_ok _ (fun _ _=>?_) _ _|refine forInRange_ok _ (fun _ _=>?_) _ _)|split|intro _|dsimp only|exact trivial
theorem complexToComplex_ok (s:FloatKind) (a b:Nat) (t:FloatKind):Ok P T (Conv.complexToComplex s a b t):=by
 unfold Conv.complexToComplex;repeat' first|(with_reducible first|exact Ok.pureT _|exact stuck_ok _|exact floatToFloat_ok _ _ _|refine Ok.bindT ?_ fun _=>?_)|split|intro _|dsimp only|exact trivial
theorem floatToInt_ok (s:FloatKind) (b:Nat) (t:IntKind):Ok P T (Conv.floatToInt s b t):=by
 unfold Conv.floatToInt;repeat' first|(with_reducible first|exact Ok.pureT _|exact choose_ok _|refine Ok.bindT ?_ fun _=>?_|refine ite_ok ?_ ?_)|split|intro _|dsimp only|exact trivial
theorem intToFloat_ok (s:FloatKind) (n:Int):Ok P T (Conv.intToFloat s n):=by
 unfold Conv.intToFloat;repeat' first|(with_reducible first|exact Ok.pureT _|refine Ok.bindT ?_ fun _=>?_)|split|intro _|dsimp only|exact trivial
theorem intToInt_ok (s:IntKind) (n:Int):Ok P T (Conv.intToInt s n):=by
 unfold Conv.intToInt;repeat' first|(with_reducible first|exact Ok.pureT _|refine Ok.bindT ?_ fun _=>?_)|split|intro _|dsimp only|exact trivial
theorem intToString_ok (n:Int):Ok P T (Conv.intToString n):=by
 unfold Conv.intToString;repeat' first|(with_reducible first|exact Ok.pureT _|refine Ok.bindT ?_ fun _=>?_)|split|intro _|dsimp only|exact trivial
theorem runesToString_ok (x:Value):Ok P T (Conv.runesToString x):=by
 unfold Conv.runesToString;repeat' first|(with_reducible first|exact Ok.pureT _|exact stuck_ok _|exact loadCells_ok _ _|refine Ok.bindT ?_ fun _=>?_|refine forInArray_ok _ (fun _ _=>?_) _ _|refine forInRange_ok _ (fun _ _=>?_) _ _)|split|intro _|dsimp only|exact trivial
theorem stringToBytes_ok (e:TypeId) (s:ByteArray):Ok P T (Conv.stringToBytes e s):=by
 unfold Conv.stringToBytes;repeat' first|(with_reducible first|exact Ok.pureT _|exact choose_ok _|exact markStringish_ok _|exact newRow_ok _ _|refine Ok.bindT ?_ fun _=>?_|exact Ok.map _ (by assumption))|split|intro _|dsimp only|exact trivial
theorem stringToRunes_ok (e:TypeId) (s:ByteArray):Ok P T (Conv.stringToRunes e s):=by
 unfold Conv.stringToRunes;repeat' first|(with_reducible first|exact Ok.pureT _|exact choose_ok _|exact newRow_ok _ _|refine Ok.bindT ?_ fun _=>?_)|split|intro _|dsimp only|exact trivial
theorem seenAt_ok (a:Addr):Ok P T (Conv.seenAt a):=by
 unfold Conv.seenAt;repeat' first|(with_reducible first|exact Ok.pureT _|exact unsupported_ok _|exact shape_ok _|exact program_ok|exact viewAt_ok _|refine Ok.bindT ?_ fun _=>?_|refine ite_ok ?_ ?_)|split|intro _|dsimp only|exact trivial
theorem unsafePointer_ok (s t:TypeId) (x:Value):Ok P T (Conv.unsafePointer s t x):=by
 unfold Conv.unsafePointer;repeat' first|(with_reducible first|exact Ok.pureT _|exact stuck_ok _|exact unsupported_ok _|exact newObj_ok _|exact shape_ok _|exact program_ok|exact cellsIn_ok _|exact asNumber_ok _ _|exact underlying_ok _|exact sizeOf_ok _|exact variablesAt_ok _ _ _|exact seenAt_ok _|refine Ok.bindT ?_ fun _=>?_|refine forInArray_ok _ (fun _ _=>?_) _ _|refine forInRange_ok _ (fun _ _=>?_) _ _|refine ite_ok ?_ ?_)|split|intro _|dsimp only|exact trivial
theorem unsafeAdd_ok (ts:Array TypeId) (t:TypeId) (xs:Array Value):Ok P T (Builtin.unsafeAdd_ ts t xs):=by
 unfold Builtin.unsafeAdd_;obtain ⟨l⟩:=xs;rcases l with _|⟨v,_|⟨u,_|⟨z,l⟩⟩⟩
 ·exact stuck_ok _
 ·cases v<;>exact stuck_ok _
 ·cases v with
  |pointer c=>
   cases c with
   |none=>
    refine Ok.bindT (s:=asInt u) (asInt_ok _) (fun _=>?_);repeat' first|(with_reducible first|exact Ok.pureT _|exact stuck_ok _|exact unsupported_ok _|exact shape_ok _|exact program_ok|exact viewAt_ok _|exact asInt_ok _|exact unsafePointer_ok _ _ _|refine Ok.bindT ?_ fun _=>?_|refine ite_ok ?_ ?_)|split|intro _|dsimp only|exact trivial
   |some a=>
    refine Ok.bindT (s:=asInt u) (asInt_ok _) (fun _=>?_);repeat' first|(with_reducible first|exact Ok.pureT _|exact stuck_ok _|exact unsupported_ok _|exact shape_ok _|exact program_ok|exact viewAt_ok _|exact asInt_ok _|exact unsafePointer_ok _ _ _|refine Ok.bindT ?_ fun _=>?_|refine ite_ok ?_ ?_)|split|intro _|dsimp only|exact trivial
  |_=>exact stuck_ok _
 ·cases v<;>exact stuck_ok _
theorem movedNumber_ok (t:TypeId) (x y:Value):Ok P T (movedNumber t x y):=by
 unfold movedNumber;repeat' first|(with_reducible first|exact Ok.pureT _|exact unsupported_ok _|exact asNumber_ok _ _|exact behindNumber_ok _|exact underlying_ok _|exact unsafePointer_ok _ _ _|exact unsafeAdd_ok _ _ _|refine Ok.bindT ?_ fun _=>?_|refine ite_ok ?_ ?_)|split|intro _|dsimp only|exact trivial
theorem movedPointer_ok (t:TypeId) (x y:Value):Ok P T (movedPointer t x y):=by
 unfold movedPointer;repeat' first|(with_reducible first|exact Ok.pureT _|exact unsupported_ok _|exact numberAt_ok _|exact unsafeAdd_ok _ _ _|refine Ok.bindT ?_ fun _=>?_|refine ite_ok ?_ ?_)|split|intro _|dsimp only|exact trivial
theorem eqGuard_ok (op:BinOp) (t:TypeId) (x y:Operand) (a b:Value):Ok P T (eqGuard op t x y a b):=by
 unfold eqGuard;repeat' first|(with_reducible first|exact Ok.pureT _|exact unsupported_ok _|exact program_ok|exact part_ok _ _ _|exact eqGuardIn_ok _ _ _ _|refine Ok.bindT ?_ fun _=>?_|refine ite_ok ?_ ?_)|split|intro _|dsimp only|exact trivial
theorem binOp_ok (op:BinOp) (t:TypeId) (x y:Value):Ok P T (binOp op t x y):=by
 unfold binOp;repeat' first|(with_reducible first|exact Ok.pureT _|exact stuck_ok _|exact unsupported_ok _|exact behindNumber_ok _|exact underlying_ok _|exact addrSub_ok _ _ _|exact addrCmp_ok _ _ _|exact addrMod_ok _ _ _|exact floatArith_ok _ _ _ _|exact floatCmp_ok _ _ _ _|exact intArith_ok _ _ _ _|exact intBits_ok _ _ _ _|exact intCmp_ok _ _ _|exact intDiv_ok _ _ _ _|exact shift_ok _ _ _ _ _|exact stringOp_ok _ _ _|exact cadd_ok _ _|exact csub_ok _ _|exact cmul_ok _ _|exact cquo_ok _ _|exact complexOp_ok _ _ _ _ _ _|exact equal_ok _ _ _|exact unsafePointer_ok _ _ _|exact movedNumber_ok _ _ _|exact movedPointer_ok _ _ _|refine Ok.bindT ?_ fun _=>?_|refine ite_ok ?_ ?_)|split|intro _|dsimp only|exact trivial
theorem convert_ok (s t:TypeId) (x:Value):Ok P T (convert s t x):=by
 unfold convert;repeat' first|(with_reducible first|exact Ok.pureT _|exact stuck_ok _|exact unsupported_ok _|exact markStringish_ok _|exact underlying_ok _|exact floatToFloat_ok _ _ _|exact bytesToString_ok _|exact complexToComplex_ok _ _ _ _|exact floatToInt_ok _ _ _|exact intToFloat_ok _ _|exact intToInt_ok _ _|exact intToString_ok _|exact runesToString_ok _|exact stringToBytes_ok _ _|exact stringToRunes_ok _ _|exact unsafePointer_ok _ _ _|refine Ok.bindT ?_ fun _=>?_)|split|intro _|dsimp only|exact trivial
theorem sureAddr_ok (v:Value):Ok P T (Instr.sureAddr v):=by
 unfold Instr.sureAddr;repeat' first|(with_reducible first|exact Ok.pureT _|exact stuck_ok _|refine Ok.bindT ?_ fun _=>?_)|split|intro _|dsimp only|exact trivial
theorem loadAt_ok (t:TypeId) (v:Value):Ok P T (Instr.loadAt t v):=by
 unfold Instr.loadAt;repeat' first|(with_reducible first|exact Ok.pureT _|exact loadVar_ok _ _|exact sureAddr_ok _|refine Ok.bindT ?_ fun _=>?_)|split|intro _|dsimp only|exact trivial
theorem storeAt_ok (t:TypeId) (v x:Value):Ok P T (Instr.storeAt t v x):=by
 unfold Instr.storeAt;repeat' first|(with_reducible first|exact Ok.pureT _|exact storeVar_ok _ _ _|exact sureAddr_ok _|refine Ok.bindT ?_ fun _=>?_)|split|intro _|dsimp only|exact trivial
theorem fieldAt_ok (t:TypeId) (v:Value) (n:Nat):Ok P T (Instr.fieldAt t v n):=by
 unfold Instr.fieldAt;repeat' first|(with_reducible first|exact Ok.pureT _|exact stuck_ok _|exact underlying_ok _|exact fieldPlace_ok _ _|exact sureAddr_ok _|refine Ok.bindT ?_ fun _=>?_)|split|intro _|dsimp only|exact trivial
theorem indexAt_ok (t:TypeId) (v x:Value):Ok P T (Instr.indexAt t v x):=by
 unfold Instr.indexAt;repeat' first|(with_reducible first|exact Ok.pureT _|exact stuck_ok _|exact unsupported_ok _|exact underlying_ok _|exact sizeOf_ok _|exact boundsPanic_ok _ _ _ _|exact asIntOf_ok _|exact cadd_ok _ _|exact sureAddr_ok _|refine Ok.bindT ?_ fun _=>?_|refine ite_ok ?_ ?_)|split|intro _|dsimp only|exact trivial
theorem sliceBound_ok (x:Value) (y:Nat) (c:BoundsCode):Ok P T (Instr.sliceBound x y c):=by
 unfold Instr.sliceBound;repeat' first|(with_reducible first|exact Ok.pureT _|exact boundsPanic_ok _ _ _ _|exact asIntOf_ok _|refine Ok.bindT ?_ fun _=>?_|refine ite_ok ?_ ?_)|split|intro _|dsimp only|exact trivial
theorem sliceBounds_ok (b:Bool) (l c:Nat) (x y z:Option Value):Ok P T (Instr.sliceBounds b l c x y z):=by
 unfold Instr.sliceBounds;repeat' first|(with_reducible first|exact Ok.pureT _|exact stuck_ok _|exact sliceBound_ok _ _ _|refine Ok.bindT ?_ fun _=>?_|refine ite_ok ?_ ?_)|split|intro _|dsimp only|exact trivial
theorem slice_ok (t:TypeId) (v:Value) (x y z:Option Value):Ok P T (Instr.slice t v x y z):=by
 unfold Instr.slice;repeat' first|(with_reducible first|exact Ok.pureT _|exact stuck_ok _|exact underlying_ok _|exact sizeOf_ok _|exact asAddr_ok _|exact cadd_ok _ _|exact sliceBounds_ok _ _ _ _ _ _|refine Ok.bindT ?_ fun _=>?_|exact Ok.map _ (by assumption)|refine ite_ok ?_ ?_)|split|intro _|dsimp only|exact trivial
theorem sliceAt_ok (t:TypeId) (v:Value) (x y z:Option Value):Ok P T (Instr.sliceAt t v x y z):=by
 unfold Instr.sliceAt;repeat' first|(with_reducible first|exact Ok.pureT _|exact underlying_ok _|exact sizeOf_ok _|exact cadd_ok _ _|exact sureAddr_ok _|exact sliceBounds_ok _ _ _ _ _ _|exact slice_ok _ _ _ _ _|refine Ok.bindT ?_ fun _=>?_|refine ite_ok ?_ ?_)|split|intro _|dsimp only|exact trivial
theorem arrayAt_ok (t:TypeId) (v:Value):Ok P T (Instr.arrayAt t v):=by
 unfold Instr.arrayAt;repeat' first|(with_reducible first|exact Ok.pureT _|exact stuck_ok _|exact underlying_ok _|exact runtimePanic_ok _|exact convert_ok _ _ _|exact slice_ok _ _ _ _ _|refine Ok.bindT ?_ fun _=>?_|refine ite_ok ?_ ?_)|split|intro _|dsimp only|exact trivial
theorem alloc_ok (t:TypeId) (b:Bool) (v:Value):Ok P T (Instr.alloc t b v):=by
 unfold Instr.alloc;repeat' first|(with_reducible first|exact Ok.pureT _|exact zeroValue_ok _|exact storeVar_ok _ _ _|exact newVar_ok _ _|refine Ok.bindT ?_ fun _=>?_)|split|intro _|dsimp only|exact trivial
theorem box_ok (t:TypeId) (v:Value):Ok P T (Instr.box t v):=by
 unfold Instr.box;repeat' first|(with_reducible first|exact Ok.pureT _|exact newVar_ok _ _|refine Ok.bindT ?_ fun _=>?_)|split|intro _|dsimp only|exact trivial
theorem build_ok (t:TypeId) (xs:Array (Nat×Value)):Ok P T (Instr.build t xs):=by
 unfold Instr.build;repeat' first|(with_reducible first|exact Ok.pureT _|exact stuck_ok _|exact underlying_ok _|exact zeroValue_ok _|exact sizeOf_ok _|exact part_ok _ _ _|refine Ok.bindT ?_ fun _=>?_|refine mapMArray_ok _ (fun _=>?_) _|exact Ok.map _ (by assumption))|split|intro _|dsimp only|exact trivial
theorem buildSlice_ok (t:TypeId) (n:Nat) (xs:Array (Nat×Value)):Ok P T (Instr.buildSlice t n xs):=by
 unfold Instr.buildSlice;repeat' first|(with_reducible first|exact Ok.pureT _|exact stuck_ok _|exact unsupported_ok _|exact underlying_ok _|exact zeroValue_ok _|exact sizeOf_ok _|exact newRow_ok _ _|exact part_ok _ _ _|exact slice_ok _ _ _ _ _|refine Ok.bindT ?_ fun _=>?_|exact Ok.map _ (by assumption)|refine ite_ok ?_ ?_)|split|intro _|dsimp only|exact trivial
theorem extract_ok (v:Value) (n:Nat):Ok P T (Instr.extract v n):=by
 unfold Instr.extract;repeat' first|(with_reducible first|exact Ok.pureT _|exact stuck_ok _|refine Ok.bindT ?_ fun _=>?_)|split|intro _|dsimp only|exact trivial
theorem field_ok (t:TypeId) (v:Value) (n:Nat):Ok P T (Instr.field t v n):=by
 unfold Instr.field;repeat' first|(with_reducible first|exact Ok.pureT _|exact stuck_ok _|exact underlying_ok _|exact part_ok _ _ _|exact asAgg_ok _|refine Ok.bindT ?_ fun _=>?_)|split|intro _|dsimp only|exact trivial
theorem index_ok (t:TypeId) (v x:Value):Ok P T (Instr.index t v x):=by
 unfold Instr.index;repeat' first|(with_reducible first|exact Ok.pureT _|exact stuck_ok _|exact underlying_ok _|exact sizeOf_ok _|exact part_ok _ _ _|exact boundsPanic_ok _ _ _ _|exact asIntOf_ok _|refine Ok.bindT ?_ fun _=>?_|refine ite_ok ?_ ?_)|split|intro _|dsimp only|exact trivial
theorem checkKey_ok (b:Bool):∀(n:Nat) (t:TypeId) (x:Value),Ok P T (Instr.checkKey b n t x):=by
 intro n;induction n with
 |zero=>intros;unfold Instr.checkKey;repeat' first|(with_reducible first|exact Ok.pureT _|exact stuck_ok _|exact unsupported_ok _|exact typeInfo_ok _|exact underlying_ok _|exact typeStr_ok _|exact sizeOf_ok _|exact part_ok _ _ _|exact runtimePanic_ok _|refine Ok.bindT ?_ fun _=>?_|refine forInArray_ok _ (fun _ _=>?_) _ _|refine forInRange_ok _ (fun _ _=>?_) _ _|exact Ok.map _ (by assumption)|refine ite_ok ?_ ?_)|split|intro _|dsimp only|exact trivial
 |succ n ih=>intros;unfold Instr.checkKey;repeat' first|with_reducible exact ih _ _ _|with_reducible exact ih _ _|(with_reducible first|exact Ok.pureT _|exact stuck_ok _|exact unsupported_ok _|exact typeInfo_ok _|exact underlying_ok _|exact typeStr_ok _|exact sizeOf_ok _|exact part_ok _ _ _|exact runtimePanic_ok _|refine Ok.bindT ?_ fun _=>?_|refine forInArray_ok _ (fun _ _=>?_) _ _|refine forInRange_ok _ (fun _ _=>?_) _ _|exact Ok.map _ (by assumption)|refine ite_ok ?_ ?_)|split|intro _|dsimp only|exact trivial
theorem findAsking_ok (t:TypeId) (k:Value):∀(l:List MapEntry) (i:Nat),Ok P T (Instr.findAsking t k l i)
 | [],_=>trivial
 |e::es,i=>Ok.bindT (equal_ok _ _ _) fun b=>by
  cases b
  ·exact findAsking_ok t k es (i+1)
  ·exact trivial
theorem findKey_ok (t:TypeId) (k:Value) (l:List MapEntry):Ok P T (Instr.findKey t k l):=by
 unfold Instr.findKey;repeat' first|(with_reducible first|exact Ok.pureT _|exact underlying_ok _|exact findAsking_ok _ _ _ _|refine Ok.bindT ?_ fun _=>?_)|split|intro _|dsimp only|exact trivial
theorem lookup_ok (t:TypeId) (x y:Value) (b:Bool):Ok P T (Instr.lookup t x y b):=by
 unfold Instr.lookup;repeat' first|(with_reducible first|exact Ok.pureT _|exact stuck_ok _|exact getObj_ok _|exact underlying_ok _|exact zeroValue_ok _|exact index_ok _ _ _|exact checkKey_ok _ _ _ _|exact findKey_ok _ _ _|refine Ok.bindT ?_ fun _=>?_|exact Ok.map _ (by assumption)|refine ite_ok ?_ ?_)|split|intro _|dsimp only|exact trivial
theorem makeChan_ok (t:TypeId) (x:Value):Ok P T (Instr.makeChan t x):=by
 unfold Instr.makeChan;repeat' first|(with_reducible first|exact Ok.pureT _|exact stuck_ok _|exact newObj_ok _|exact typeInfo_ok _|exact underlying_ok _|exact runtimePanic_ok _|exact asInt_ok _|refine Ok.bindT ?_ fun _=>?_|refine ite_ok ?_ ?_)|split|intro _|dsimp only|exact trivial
theorem makeMap_ok (t:TypeId) (x:Option Value):Ok P T (Instr.makeMap t x):=by
 unfold Instr.makeMap;repeat' first|(with_reducible first|exact Ok.pureT _|exact stuck_ok _|exact newObj_ok _|exact underlying_ok _|exact asInt_ok _|refine Ok.bindT ?_ fun _=>?_|exact Ok.map _ (by assumption)|refine ite_ok ?_ ?_)|split|intro _|dsimp only|exact trivial
theorem makeSlice_ok (t:TypeId) (x y:Value):Ok P T (Instr.makeSlice t x y):=by
 unfold Instr.makeSlice;repeat' first|(with_reducible first|exact Ok.pureT _|exact stuck_ok _|exact choose_ok _|exact askRoom_ok _|exact typeInfo_ok _|exact underlying_ok _|exact zeroValue_ok _|exact sizeOf_ok _|exact newRow_ok _ _|exact runtimePanic_ok _|exact asInt_ok _|exact slice_ok _ _ _ _ _|refine Ok.bindT ?_ fun _=>?_|exact Ok.map _ (by assumption)|refine ite_ok ?_ ?_)|split|intro _|dsimp only|exact trivial
theorem keyThatStays_ok (x y:Value):Ok P T (Instr.keyThatStays x y):=by
 unfold Instr.keyThatStays;repeat' first|(with_reducible first|exact Ok.pureT _|exact choose_ok _|refine Ok.bindT ?_ fun _=>?_|exact Ok.map _ (by assumption)|refine ite_ok ?_ ?_)|split|intro _|dsimp only|exact trivial
theorem mapUpdate_ok (t:TypeId) (x y z:Value):Ok P T (Instr.mapUpdate t x y z):=by
 unfold Instr.mapUpdate;repeat' first|(with_reducible first|exact Ok.pureT _|exact stuck_ok _|exact getObj_ok _|exact setObj_ok _ _|exact underlying_ok _|exact runtimePanic_ok _|exact checkKey_ok _ _ _ _|exact findKey_ok _ _ _|exact keyThatStays_ok _ _|refine Ok.bindT ?_ fun _=>?_|exact Ok.map _ (by assumption))|split|intro _|dsimp only|exact trivial
theorem mapEntry_ok (t:TypeId) (x y:Value):Ok P T (Instr.mapEntry t x y):=by
 unfold Instr.mapEntry;repeat' first|(with_reducible first|exact Ok.pureT _|exact stuck_ok _|exact getObj_ok _|exact setObj_ok _ _|exact underlying_ok _|exact zeroValue_ok _|exact runtimePanic_ok _|exact checkKey_ok _ _ _ _|exact findKey_ok _ _ _|exact keyThatStays_ok _ _|refine Ok.bindT ?_ fun _=>?_|exact Ok.map _ (by assumption))|split|intro _|dsimp only|exact trivial
theorem entryStore_ok (t:TypeId) (x y z:Value):Ok P T (Instr.entryStore t x y z):=by
 unfold Instr.entryStore;repeat' first|(with_reducible first|exact Ok.pureT _|exact stuck_ok _|exact unsupported_ok _|exact getObj_ok _|exact setObj_ok _ _|exact asInt_ok _|refine Ok.bindT ?_ fun _=>?_|exact Ok.map _ (by assumption))|split|intro _|dsimp only|exact trivial
theorem range_ok (t:TypeId) (x:Value):Ok P T (Instr.range t x):=by
 unfold Instr.range;repeat' first|(with_reducible first|exact Ok.pureT _|exact stuck_ok _|exact newObj_ok _|exact getObj_ok _|exact underlying_ok _|refine Ok.bindT ?_ fun _=>?_|exact Ok.map _ (by assumption))|split|intro _|dsimp only|exact trivial
theorem next_ok (x:Value) (b:Bool) (t:TypeId):Ok P T (Instr.next x b t):=by
 unfold Instr.next;repeat' first|(with_reducible first|exact Ok.pureT _|exact stuck_ok _|exact unsupported_ok _|exact getObj_ok _|exact setObj_ok _ _|exact choose_ok _|refine Ok.bindT ?_ fun _=>?_|exact Ok.map _ (by assumption)|refine ite_ok ?_ ?_)|split|intro _|dsimp only|exact trivial
theorem entry_ok (x:Value):Ok P T (Instr.entry x):=by
 unfold Instr.entry;repeat' first|(with_reducible first|exact Ok.pureT _|exact stuck_ok _|exact unsupported_ok _|exact getObj_ok _|refine Ok.bindT ?_ fun _=>?_|exact Ok.map _ (by assumption)|refine ite_ok ?_ ?_)|split|intro _|dsimp only|exact trivial
theorem typeAssert_ok (x:Value) (s t:TypeId) (b:Bool):Ok P T (Instr.typeAssert x s t b):=by
 unfold Instr.typeAssert;repeat' first|(with_reducible first|exact Ok.pureT _|exact stuck_ok _|exact typeInfo_ok _|exact underlying_ok _|exact zeroValue_ok _|exact runtimePanic_ok _|refine Ok.bindT ?_ fun _=>?_|refine ite_ok ?_ ?_)|split|intro _|dsimp only|exact trivial
theorem holdsCells_ok (a:Addr) (n:Nat):Ok P T (Builtin.holdsCells a n):=by
 unfold Builtin.holdsCells;repeat' first|(with_reducible first|exact Ok.pureT _|exact shape_ok _|refine Ok.bindT ?_ fun _=>?_)|split|intro _|dsimp only|exact trivial
theorem mayShare_ok (a b c:Nat) (x:Option Addr) (v:Value):Ok P T (Builtin.mayShare a b c x v):=by
 unfold Builtin.mayShare;repeat' first|(with_reducible first|exact Ok.pureT _|exact frozen_ok _|exact cadd_ok _ _|exact slice_ok _ _ _ _ _|exact holdsCells_ok _ _|refine Ok.bindT ?_ fun _=>?_|refine ite_ok ?_ ?_)|split|intro _|dsimp only|exact trivial
theorem lenOf_ok (v:Value):Ok P T (Builtin.lenOf v):=by
 unfold Builtin.lenOf;repeat' first|(with_reducible first|exact Ok.pureT _|exact stuck_ok _|exact slice_ok _ _ _ _ _|refine Ok.bindT ?_ fun _=>?_)|split|intro _|dsimp only|exact trivial
theorem firstCells_ok (a b:Nat) (v:Value):Ok P T (Builtin.firstCells a b v):=by
 unfold Builtin.firstCells;repeat' first|(with_reducible first|exact Ok.pureT _|exact stuck_ok _|exact loadCells_ok _ _|exact slice_ok _ _ _ _ _|exact extract_ok _ _|refine Ok.bindT ?_ fun _=>?_|exact Ok.map _ (by assumption))|split|intro _|dsimp only|exact trivial
theorem bappend_ok (ts:Array TypeId) (t:TypeId) (xs:Array Value):Ok P T (Builtin.append_ ts t xs):=by
 unfold Builtin.append_;repeat' first|(with_reducible first|exact Ok.pureT _|exact stuck_ok _|exact unsupported_ok _|exact choose_ok _|exact askRoom_ok _|exact typeInfo_ok _|exact underlying_ok _|exact zeroValue_ok _|exact sizeOf_ok _|exact storeCells_ok _ _ _|exact newRow_ok _ _|exact runtimePanic_ok _|exact asInt_ok _|exact cadd_ok _ _|exact slice_ok _ _ _ _ _|exact range_ok _ _|exact mayShare_ok _ _ _ _ _|exact lenOf_ok _|exact firstCells_ok _ _ _|refine Ok.bindT ?_ fun _=>?_|refine ite_ok ?_ ?_|exact mark_noRoom_ok)|split|intro _|dsimp only|exact trivial
theorem bcap_ok (ts:Array TypeId) (t:TypeId) (xs:Array Value):Ok P T (Builtin.cap_ ts t xs):=by
 unfold Builtin.cap_;repeat' first|(with_reducible first|exact Ok.pureT _|exact stuck_ok _|exact getObj_ok _|exact underlying_ok _|exact slice_ok _ _ _ _ _|refine Ok.bindT ?_ fun _=>?_|refine ite_ok ?_ ?_)|split|intro _|dsimp only|exact trivial
theorem bclose_ok (ts:Array TypeId) (t:TypeId) (xs:Array Value):Ok P T (Builtin.close_ ts t xs):=by
 unfold Builtin.close_;obtain ⟨l⟩:=xs;rcases l with _|⟨v,_|⟨u,l⟩⟩
 ·exact stuck_ok _
 ·cases v with
  |chan c=>
   cases c with
   |none=>exact runtimePanic_ok _
   |some r=>
    refine Ok.bindT (s:=getObj r) (getObj_ok _) (fun _=>?_);repeat' first|(with_reducible first|exact Ok.pureT _|exact stuck_ok _|exact getObj_ok _|exact setObj_ok _ _|exact runtimePanic_ok _|refine Ok.bindT ?_ fun _=>?_|refine ite_ok ?_ ?_)|split|intro _|dsimp only|exact trivial
  |_=>exact stuck_ok _
 ·exact stuck_ok _
theorem bcopy_ok (ts:Array TypeId) (t:TypeId) (xs:Array Value):Ok P T (Builtin.copy_ ts t xs):=by
 unfold Builtin.copy_;repeat' first|(with_reducible first|exact Ok.pureT _|exact stuck_ok _|exact underlying_ok _|exact sizeOf_ok _|exact storeCells_ok _ _ _|exact slice_ok _ _ _ _ _|exact lenOf_ok _|exact firstCells_ok _ _ _|refine Ok.bindT ?_ fun _=>?_|refine ite_ok ?_ ?_)|split|intro _|dsimp only|exact trivial
theorem bdelete_ok (ts:Array TypeId) (t:TypeId) (xs:Array Value):Ok P T (Builtin.delete_ ts t xs):=by
 unfold Builtin.delete_;repeat' first|(with_reducible first|exact Ok.pureT _|exact stuck_ok _|exact getObj_ok _|exact setObj_ok _ _|exact underlying_ok _|exact checkKey_ok _ _ _ _|exact findKey_ok _ _ _|refine Ok.bindT ?_ fun _=>?_|exact Ok.map _ (by assumption))|split|intro _|dsimp only|exact trivial
theorem blen_ok (ts:Array TypeId) (t:TypeId) (xs:Array Value):Ok P T (Builtin.len_ ts t xs):=by
 unfold Builtin.len_;repeat' first|(with_reducible first|exact Ok.pureT _|exact stuck_ok _|exact getObj_ok _|exact underlying_ok _|exact slice_ok _ _ _ _ _|refine Ok.bindT ?_ fun _=>?_|exact Ok.map _ (by assumption)|refine ite_ok ?_ ?_)|split|intro _|dsimp only|exact trivial
theorem followBlind_ok:∀(l:List FieldStep) (t:TypeId) (x:Option Value),Ok P T (followBlind l t x):=by
 intro n;induction n with
 |nil=>intros;unfold followBlind;repeat' first|(with_reducible first|exact Ok.pureT _|exact stuck_ok _|exact underlying_ok _|exact part_ok _ _ _|exact field_ok _ _ _|exact index_ok _ _ _|refine Ok.bindT ?_ fun _=>?_)|split|intro _|dsimp only|exact trivial
 |cons a l ih=>intros;unfold followBlind;repeat' first|with_reducible exact ih _ _|(with_reducible first|exact Ok.pureT _|exact stuck_ok _|exact underlying_ok _|exact part_ok _ _ _|exact field_ok _ _ _|exact index_ok _ _ _|refine Ok.bindT ?_ fun _=>?_)|split|intro _|dsimp only|exact trivial
theorem nilAhead_ok:∀(n:Nat) (t:TypeId) (x:Value) (s:String),Ok P T (nilAhead n t x s):=by
 intro n;induction n with
 |zero=>intros;unfold nilAhead;repeat' first|(with_reducible first|exact Ok.pureT _|exact stuck_ok _|exact typeInfo_ok _|exact underlying_ok _|exact followBlind_ok _ _ _|refine Ok.bindT ?_ fun _=>?_)|split|intro _|dsimp only|exact trivial
 |succ n ih=>intros;unfold nilAhead;repeat' first|with_reducible exact ih _ _ _|with_reducible exact ih _ _|(with_reducible first|exact Ok.pureT _|exact stuck_ok _|exact typeInfo_ok _|exact underlying_ok _|exact followBlind_ok _ _ _|refine Ok.bindT ?_ fun _=>?_)|split|intro _|dsimp only|exact trivial
end
end Go.Proofs.Ytdoghgnifkgfdaa.Mute
