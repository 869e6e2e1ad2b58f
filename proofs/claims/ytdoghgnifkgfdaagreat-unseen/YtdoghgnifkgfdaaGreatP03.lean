import Derived.Conc.LoneCalls
import Derived.Test.YtdoghgnifkgfdaaGreatP02
set_option maxRecDepth 100000
set_option maxHeartbeats 16000000
namespace Go.Proofs.YtdoghgnifkgfdaaGreat.Mute
open Go Go.Conc
section
variable {P:Program} {A:Plan} {fr:Frame} {top:List Frame} {w:World}
theorem Y10 (hm:fr.mode=.run) (main:Bool) (cs:List Frame) (w:World):stepG P main (G fr cs) w=stepG.exec P main true fr cs none w:=by
 unfold stepG G;simp only [hm]
theorem Z6 (hm:fr.mode≠.run) (main:Bool) (cs:List Frame) (w:World):stepG P main (G fr cs) w=unwind P main fr cs none w:=by
 unfold stepG G;cases hx:fr.mode with
 |run=>exact absurd hx hm
 |returning=>simp only [hx]
 |panicking c=>simp only [hx]
theorem Yb7 {d:Deferred} (H:X4 P A) (hd:Jd P A d):Ok P (fun n=>(∃v,n=.value v)∨∃f args,n=.enter f args∧Xn P A f args) (invoke d.target d.args):=by
 rcases hd with ⟨b,ts,t,cs,e,hb⟩|⟨f,c,e,hb,hn⟩
 ·rw [e];exact Ok.mono (fun _ h=>.inl h) (Y3Y hb _ _ _ _)
 ·rw [e];obtain ⟨fn,_,hf,_⟩:=Y0m hb;exact Ok.mono (fun n h=>.inr ⟨f,_,h,hb,Yi H hf hn _⟩) (Y1E (args:=d.args++c) hb)
theorem notNil {d:Deferred} (hd:Jd P A d):(match d.target with|.nil=>true|_=>false)=false:=by
 rcases hd with ⟨b,ts,t,cs,e,_⟩|⟨f,c,e,_⟩<;>rw [e]
theorem Y62 {d:Deferred} {ds:List Deferred} (H:X4 P A) (h:FrOk P A fr) (hst:Xy P A fr.kind top) (hm:fr.mode≠.run) (hds:fr.defers=d::ds):YK P A fr top w:=by
 have hd:Jd P A d:=h.defers d (by rw [hds];exact List.mem_cons_self);have hi:=Yb7 H hd;obtain ⟨n,h1,h2,h3⟩:=Y0v P _ w #[] hi;obtain ⟨s1,s2⟩:=J4 P _ w #[] hi (by simp);have h':FrOk P A {fr with defers:=ds}:=⟨h.fn,h.round,h.kind,h.todo,h.slots,fun x hx=>h.defers x (by rw [hds];exact List.mem_cons_of_mem _ hx)⟩;have heq:∀w main cs,stepG P main (G fr (top++cs)) w=callDeferred P {fr with defers:=ds} (top++cs) none d w:=fun w main cs=>by
  rw [Z6 hm];unfold unwind;rw [hds];rcases hd with ⟨b,ts,t,cs,e,_⟩|⟨f,c,e,_⟩
  ·obtain ⟨tg,ar⟩:=d;simp only at e;subst e;rfl
  ·obtain ⟨tg,ar⟩:=d;simp only at e;subst e;rfl
 have hnil:∀(X:Prop),(match d.target with|.nil=>true|_=>false)=true→X:=fun X hx=>by
  rcases hd with ⟨b,ts,t,cs,e,_⟩|⟨f,c,e,_⟩<;>rw [e] at hx<;>cases hx
 cases hr:((invoke d.target d.args).runT P w #[]).1 with
 |ok a w'=>
  rw [hr] at h1 h2 h3 s1;have e3:∀τ dd,Agree w τ dd n→(invoke d.target d.args).runT P (reW w τ dd) #[]=(.ok a (reW w' τ (dd+n)),((invoke d.target d.args).runT P w #[]).2):=fun τ dd hA=>h3 τ dd hA;rcases s1 with ⟨v,rfl⟩|⟨f,args,rfl,hen⟩
  ·refine ⟨n,.inl ⟨{fr with defers:=ds},top,w',seen P fr.fn ((invoke d.target d.args).runT P w #[]).2,h',hst,Xw s2,h1,h2,fun τ dd hA main cs=>?_⟩⟩;rw [heq];simp only [callDeferred,e3 τ dd hA,GStep.after];simp [G];exact hnil _
  ·refine ⟨n,.inl ⟨Frame.enter P f args .deferred,{fr with defers:=ds}::top,w',seen P fr.fn ((invoke d.target d.args).runT P w #[]).2,hen.frame H (.inr rfl),⟨h',fun e=>(by cases e),hst⟩,Xw s2,h1,h2,fun τ dd hA main cs=>?_⟩⟩;rw [heq];simp only [callDeferred,e3 τ dd hA,GStep.after];simp [G];exact hnil _
 |halt hh w'=>
  rw [hr] at h1 h2 h3 s1;have e3:∀τ dd,Agree w τ dd n→(invoke d.target d.args).runT P (reW w τ dd) #[]=(.halt hh (reW w' τ (dd+n)),((invoke d.target d.args).runT P w #[]).2):=fun τ dd hA=>h3 τ dd hA;cases hh with
  |panic v=>
   refine ⟨n,.inl ⟨({fr with defers:=ds}:Frame).raise [{v,recovered:=false}],top,w',seen P fr.fn ((invoke d.target d.args).runT P w #[]).2,h'.raise _,by rw [JO];exact hst,Xw s2,h1,h2,fun τ dd hA main cs=>?_⟩⟩;rw [heq];simp only [callDeferred,e3 τ dd hA,GStep.after];simp [G];exact hnil _
  |stuck m=>
   refine ⟨n,.inr (fun τ dd hA main cs=>?_)⟩;rw [heq];simp only [callDeferred,e3 τ dd hA,GStep.after];repeat' split
   all_goals exact ⟨_,_,_,rfl⟩
  |unsupported u=>
   refine ⟨n,.inr (fun τ dd hA main cs=>?_)⟩;rw [heq];simp only [callDeferred,e3 τ dd hA,GStep.after];repeat' split
   all_goals exact ⟨_,_,_,rfl⟩
  |_=>exact s1.elim
theorem Y0c (fn:Func) (tmps:Array Value):Ok P T (results fn tmps):=by
 unfold results;refine Ok.bindT (Y2E _ (fun x=>?_) _) fun _=>trivial;cases x with
 |tmp t=>exact trivial
 |cell a t=>exact Ok.bindT (Y3X _) fun _=>Y3T _ _
theorem Y5v (h:FrOk P A fr) {c:Frame} {rest:List Frame} (hst:Xy P A fr.kind (c::rest)) (v:Value):∃c',FrOk P A c'∧Xy P A c'.kind rest∧
  ∀main cs (w:World),doReturn P main fr (c::(rest++cs)) none v w=.go (G c' (rest++cs)) w:=by
 rcases h.kind with hk|hk
 ·refine ⟨c.finish v,hst.2.1 hk v,by rw [Z5];exact hst.2.2,fun main cs w=>?_⟩;unfold doReturn;simp only [hk];rfl
 ·have hb:∀m,FrOk P A {c with mode:=m}:=fun m=>hst.1.mode m;unfold doReturn;simp only [hk];cases hm:c.mode with
  |panicking chain=>
   cases chain with
   |nil=>exact ⟨c,hst.1,hst.2.2,fun _ _ _=>rfl⟩
   |cons x older=>
    obtain ⟨xv,xr,xg⟩:=x;cases xr with
    |false=>exact ⟨c,hst.1,hst.2.2,fun _ _ _=>rfl⟩
    |true=>
     cases hold:older.dropWhile (!·.goexit) with
     |nil=>exact ⟨{c with mode:=.returning},hb _,hst.2.2,fun _ _ _=>by simp only [hold];rfl⟩
     |cons y l=>exact ⟨{c with mode:=.panicking (y::l)},hb _,hst.2.2,fun _ _ _=>by simp only [hold];rfl⟩
  |_=>exact ⟨c,hst.1,hst.2.2,fun _ _ _=>rfl⟩
theorem Y0H (h:FrOk P A fr):fr.catches P=false:=by
 obtain ⟨fn,hf⟩:=h.fn;unfold Frame.catches;rw [hf]
theorem Y4P (h:FrOk P A fr) {c:Frame} {rest:List Frame} (hst:Xy P A fr.kind (c::rest)) (hm:fr.mode≠.run) (hds:fr.defers=[]):YK P A fr (c::rest) w:=by
 have heq:∀w main cs,stepG P main (G fr ((c::rest)++cs)) w=unwind P main fr (c::(rest++cs)) none w:=fun w main cs=>Z6 hm _ _ _;cases hx:fr.mode with
 |run=>exact absurd hx hm
 |panicking chain=>
  refine ⟨0,.inl ⟨c.raise chain,rest,w,#[],hst.1.raise _,by rw [JO];exact hst.2.2,by simp,rfl,rfl,fun τ d _ main cs=>?_⟩⟩;rw [heq];unfold unwind;simp only [hds,hx,Y0H h];rfl
 |returning=>
  obtain ⟨fn,hf⟩:=h.fn;have ho:=Y0c (P:=P) fn fr.tmps;obtain ⟨n,h1,h2,h3⟩:=Y0v P _ w #[] ho;obtain ⟨s1,s2⟩:=J4 P _ w #[] ho (by simp);cases hr:((results fn fr.tmps).runT P w #[]).1 with
  |ok v w'=>
   rw [hr] at h1 h2 h3;obtain ⟨c',hc1,hc2,hc3⟩:=Y5v h hst v;refine ⟨n,.inl ⟨c',rest,w',seen P fr.fn ((results fn fr.tmps).runT P w #[]).2,hc1,hc2,Xw s2,h1,h2,fun τ d hA main cs=>?_⟩⟩;have e3:(results fn fr.tmps).runT P (reW w τ d) #[]=(.ok v (reW w' τ (d+n)),((results fn fr.tmps).runT P w #[]).2):=h3 τ d hA;rw [heq];unfold unwind;simp only [hds,hx,hf,e3,hc3,GStep.after];simp
  |halt hh w'=>
   rw [hr] at h1 h2 h3;refine ⟨n,.inr (fun τ d hA main cs=>?_)⟩;have e3:(results fn fr.tmps).runT P (reW w τ d) #[]=(.halt hh (reW w' τ (d+n)),((results fn fr.tmps).runT P w #[]).2):=h3 τ d hA;rw [heq];unfold unwind;simp only [hds,hx,hf,e3];cases hh<;>exact ⟨_,_,_,rfl⟩
theorem Y1T {id:Nat}:∀{k l:List Item} {h:Nat},(∀it∈k,Xp P A h it)→exitTo id k=some l→∀it∈l,Xp P A h it
 | [],l,h,_,e=>by simp [exitTo] at e
 |x::k,l,h,hk,e=>by
  have hk':∀it∈k,Xp P A h it:=fun it hit=>hk it (List.mem_cons_of_mem _ hit);cases x with
  |inBlock id'=>
   unfold exitTo at e;split at e
   ·cases e;exact hk'
   ·exact Y1T hk' e
  |_=>exact Y1T hk' (by simpa [exitTo] using e)
theorem Y2M (P:Program) (q:Question) (w:World):∃n t,∃w':World,w'.tape=w.tape∧w'.drawn=w.drawn+n∧∀τ d,Agree w τ d n→(choose q).run P (reW w τ d)=.ok t (reW w' τ (d+n)):=by
 unfold choose;by_cases hq:q.forced=true
 ·exact ⟨0,0,w,rfl,rfl,fun τ d _=>by simp [Sem.run,hq]⟩
 ·refine ⟨1,q.cut (w.tape w.drawn q),{w with drawn:=w.drawn+1},rfl,rfl,fun τ d hA=>?_⟩;have h0:=hA 0 (by omega);simp only [Nat.add_zero] at h0;have e:(reW w τ d).tape (reW w τ d).drawn q=w.tape w.drawn q:=congrFun h0 q;simp only [Sem.run,hq];rw [e];rfl
theorem Y7J (H:X4 P A) (hstep:∀g,P.stepOf g=none) (h:FrOk P A fr) (hst:Xy P A fr.kind top) (hm:fr.mode=.run):YK P A fr top w:=by
 have heq:∀w main cs,stepG P main (G fr (top++cs)) w=stepG.exec P main true fr (top++cs) none w:=fun w main cs=>Y10 hm _ _ _;have hto:=h.todo;have hrd:=h.round;cases ht:fr.todo with
 |nil=>
  refine ⟨0,.inl ⟨{fr with mode:=.returning},top,w,#[],h.mode _,hst,by simp,rfl,rfl,fun τ d _ main cs=>?_⟩⟩;rw [heq];simp only [stepG.exec,ht,hrd];simp [G]
 |cons it k=>
  rw [ht] at hto;have hk:∀x∈k,Xp P A fr.fn x:=fun x hx=>hto x (List.mem_cons_of_mem _ hx);have hit:=hto it List.mem_cons_self;have two:∀{a b:Item},Xp P A fr.fn a→Xp P A fr.fn b→∀x∈a::b::k,Xp P A fr.fn x:=fun ha hb x hx=>by
   rcases List.mem_cons.1 hx with rfl|hx
   ·exact ha
   ·rcases List.mem_cons.1 hx with rfl|hx
    ·exact hb
    ·exact hk x hx
  have one:∀{a:Item},Xp P A fr.fn a→∀x∈a::k,Xp P A fr.fn x:=fun ha x hx=>by
   rcases List.mem_cons.1 hx with rfl|hx
   ·exact ha
   ·exact hk x hx
  cases it with
  |inBlock id=>exact YK.to h hst hk fun w main cs=>by rw [heq];simp only [stepG.exec,ht];simp [G]
  |inScope c=>exact YK.to h hst hk fun w main cs=>by rw [heq];simp only [stepG.exec,ht];simp [G]
  |inLoop c=>exact YK.to h hst (two (a:=.code c) (b:=.inLoop c) hit hit) fun w main cs=>by rw [heq];simp only [stepG.exec,ht];simp [G]
  |inRegion ops l=>
   cases l with
   |nil=>exact YK.to h hst hk fun w main cs=>by rw [heq];simp only [stepG.exec,ht];simp [G]
   |cons i rest=>
    cases hwant:((ops[i]?).map (Region.wanted · (yielded ops fr.tmps))).getD false with
    |true=>
     obtain ⟨o,ho⟩:∃o,ops[i]?=some o:=by
      cases hx:ops[i]? with
      |none=>rw [hx] at hwant;cases hwant
      |some o=>exact ⟨o,rfl⟩
     have hpl:Yk P A fr.fn o=true:=by
      have:ops.all (Yk P A fr.fn)=true:=hit;rw [Array.all_eq_true_iff_forall_mem] at this;exact this o (Array.mem_of_getElem? ho)
     refine Y6i H h hst ht ho (Y1V (ρ:=fr.eval) H h.slots (fun _=>rfl) hpl) (fun w main cs=>?_) hstep;rw [heq];rw [ho] at hwant;simp only [stepG.exec,ht,stepG.oper,Frame.oper?,ho,hrd];rw [if_pos hwant]
    |false=>
     by_cases hn:∃o,ops[i]?=some o
     ·obtain ⟨o,ho⟩:=hn;refine ⟨0,.inl ⟨fr.finish undef,top,w,#[],h.finish ht ho YV.undef,by rw [Z5];exact hst,by simp,rfl,rfl,fun τ d _ main cs=>?_⟩⟩;rw [heq];simp only [stepG.exec,ht,hwant];simp [G]
     ·have hno:ops[i]?=none:=by
       cases hx:ops[i]? with
       |none=>rfl
       |some o=>exact absurd ⟨o,hx⟩ hn
      have e:fr.finish undef={fr with todo:=.inRegion ops rest::k}:=by
       unfold Frame.finish;rw [ht];simp [hno]
      refine YK.to h hst (one (a:=.inRegion ops rest) hit) fun w main cs=>?_;rw [heq,←e];simp only [stepG.exec,ht,hwant];simp [G]
  |code c=>
   cases c with
   |skip=>exact YK.to h hst hk fun w main cs=>by rw [heq];simp only [stepG.exec,ht];simp [G]
   |label l=>exact YK.to h hst hk fun w main cs=>by rw [heq];simp only [stepG.exec,ht];simp [G]
   |seq a b=>
    have hp:YH P A fr.fn a=true∧YH P A fr.fn b=true:=by
     have:YH P A fr.fn (.seq a b)=true:=hit;simpa [YH] using this
    exact YK.to h hst (two (a:=.code a) (b:=.code b) hp.1 hp.2) fun w main cs=>by rw [heq];simp only [stepG.exec,ht];simp [G]
   |cond x a b=>
    have hp:YH P A fr.fn a=true∧YH P A fr.fn b=true:=by
     have:YH P A fr.fn (.cond x a b)=true:=hit;simpa [YH] using this
    cases hx:fr.eval x with
    |bool bb=>
     cases bb with
     |true=>exact YK.to h hst (one (a:=.code a) hp.1) fun w main cs=>by rw [heq];simp only [stepG.exec,ht,hx];simp [G]
     |false=>exact YK.to h hst (one (a:=.code b) hp.2) fun w main cs=>by rw [heq];simp only [stepG.exec,ht,hx];simp [G]
    |_=>exact YK.ended fun w main cs=>by rw [heq];simp only [stepG.exec,ht,hx];exact ⟨_,_,_,rfl⟩
   |block id c=>
    have hp:YH P A fr.fn c=true:=by
     have:YH P A fr.fn (.block id c)=true:=hit;simpa [YH] using this
    exact YK.to h hst (two (a:=.code c) (b:=.inBlock id) hp trivial) fun w main cs=>by rw [heq];simp only [stepG.exec,ht];simp [G]
   |loop c=>
    have hp:YH P A fr.fn c=true:=by
     have:YH P A fr.fn (.loop c)=true:=hit;simpa [YH] using this
    exact YK.to h hst (two (a:=.code c) (b:=.inLoop c) hp hp) fun w main cs=>by rw [heq];simp only [stepG.exec,ht];simp [G]
   |scope c=>
    have hp:YH P A fr.fn c=true:=by
     have:YH P A fr.fn (.scope c)=true:=hit;simpa [YH] using this
    exact YK.to h hst (two (a:=.code c) (b:=.inScope c) hp hp) fun w main cs=>by rw [heq];simp only [stepG.exec,ht];simp [G]
   |ret=>
    refine ⟨0,.inl ⟨{fr with mode:=.returning},top,w,#[],h.mode _,hst,by simp,rfl,rfl,fun τ d _ main cs=>?_⟩⟩;rw [heq];simp only [stepG.exec,ht,hrd];simp [G]
   |exit id=>
    cases hx:exitTo id k with
    |some l=>exact YK.to h hst (Y1T hk hx) fun w main cs=>by rw [heq];simp only [stepG.exec,ht,hx];simp [G]
    |none=>exact YK.ended fun w main cs=>by rw [heq];simp only [stepG.exec,ht,hx,hrd];exact ⟨_,_,_,rfl⟩
   |region id ops draw=>
    have hp:ops.all (Yk P A fr.fn)=true:=by
     have:YH P A fr.fn (.region id ops draw)=true:=hit;simpa [YH] using this
    cases draw with
    |false=>exact YK.to h hst (one (a:=.inRegion ops (List.range ops.size)) hp) fun w main cs=>by rw [heq];simp only [stepG.exec,ht];simp [G]
    |true=>
     obtain ⟨n,t,w',q1,q2,q3⟩:=Y2M P (.order fr.fn id) w;refine ⟨n,.inl ⟨{fr with todo:=.inRegion ops (Region.schedule (P.follows .mixedOrders) ops t)::k},top,w',#[],h.upd (one (a:=.inRegion ops _) hp),hst,by simp,q1,q2,fun τ d hA main cs=>?_⟩⟩;rw [heq];simp only [stepG.exec,ht,q3 τ d hA];simp [G]
   |_=>
    exfalso;simp [Xp,YH] at hit
  |_=>exact (hit:False).elim
theorem Y24 (H:X4 P A) (hstep:∀g,P.stepOf g=none) (h:FrOk P A fr) (hst:Xy P A fr.kind top) (hl:fr.mode=.run∨fr.defers≠[]∨top≠[]) (w:World):YK P A fr top w:=by
 by_cases hm:fr.mode=.run
 ·exact Y7J H hstep h hst hm
 ·cases hd:fr.defers with
  |cons d ds=>exact Y62 H h hst hm hd
  |nil=>
   cases top with
   |nil=>rcases hl with e|e|e
         ·exact absurd e hm
         ·exact absurd hd e
         ·exact absurd rfl e
   |cons c rest=>exact Y4P h hst hm hd
end
structure St where
 fr:Frame
 top:List Frame
 w:World
inductive Safe (P:Program) (Q:Frame→World→Prop):Frame→List Frame→World→Prop
 |stop {fr:Frame} {w:World}:Q fr w→Safe P Q fr [] w
 |step {fr:Frame} {top:List Frame} {w:World} (nx:(Nat→Question→Nat)→Nat→St) (ev:(Nat→Question→Nat)→Nat→Array Event) (n:(Nat→Question→Nat)→Nat→Nat) (h1:∀τ d,∀e∈ev τ d,EvOk e)
   (h2:∀τ d main cs,stepG P main (G fr (top++cs)) (reW w τ d)=.go (G (nx τ d).fr ((nx τ d).top++cs)) (reW (nx τ d).w τ (d+n τ d)) (ev τ d)) (h3:∀τ d,Safe P Q (nx τ d).fr (nx τ d).top (nx τ d).w):Safe P Q fr top w
theorem Safe.step' {P:Program} {Q:Frame→World→Prop} {fr:Frame} {top:List Frame} {w:World} (h:∀τ d,∃fr' top' w' es n,(∀e∈es,EvOk e)∧
   (∀main cs,stepG P main (G fr (top++cs)) (reW w τ d)=.go (G fr' (top'++cs)) (reW w' τ (d+n)) es)∧Safe P Q fr' top' w'):Safe P Q fr top w:=by
 have h':∀τ d,∃x:St×Array Event×Nat,(∀e∈x.2.1,EvOk e)∧(∀main cs,stepG P main (G fr (top++cs)) (reW w τ d)=.go (G x.1.fr (x.1.top++cs)) (reW x.1.w τ (d+x.2.2)) x.2.1)∧Safe P Q x.1.fr x.1.top x.1.w:=fun τ d=>by
  obtain ⟨fr',top',w',es,n,a,b,c⟩:=h τ d;exact ⟨(⟨fr',top',w'⟩,es,n),a,b,c⟩
 exact .step (fun τ d=>(Classical.choose (h' τ d)).1) (fun τ d=>(Classical.choose (h' τ d)).2.1) (fun τ d=>(Classical.choose (h' τ d)).2.2) (fun τ d=>(Classical.choose_spec (h' τ d)).1) (fun τ d=>(Classical.choose_spec (h' τ d)).2.1) (fun τ d=>(Classical.choose_spec (h' τ d)).2.2)
def YE : Frame := { fn := 0, tmps := #[], todo := [.code (.refuse "")], defers := [{ target := .nil, args := #[] }], mode := .run, kind := .normal }
theorem Y8a {P:Program} (v:Value) (w:World):∃o w' es,stepG P true (G (YE.finish v) []) w=.ended o w' es:=by
 have:YE.finish v=YE:=rfl;rw [this];exact ⟨_,_,_,rfl⟩
theorem Y6W {P:Program} (c:List PanicEntry) (w:World):∃o w' es,stepG P true (G (YE.raise c) []) w=.ended o w' es:=⟨_,_,_,rfl⟩
section
variable {P:Program} {A:Plan} {Q:Frame→World→Prop}
def St.ok (P:Program) (A:Plan) (x:St):Prop:=FrOk P A x.fr∧Xy P A x.fr.kind x.top
def St.bad (P:Program) (A:Plan) (Q:Frame→World→Prop) (x:St):Prop:=x.ok P A∧¬Safe P Q x.fr x.top x.w
def St.leaves (x:St):Prop:=x.fr.mode≠.run∧x.fr.defers=[]∧x.top=[]
def St.goes (P:Program) (x y:St) (vals:Nat→Question→Nat) (n:Nat):Prop:=
 ∀τ d,(∀k,k<n→τ (d+k)=vals k)→∀main cs,∃es,stepG P main (G x.fr (x.top++cs)) (reW x.w τ d)=.go (G y.fr (y.top++cs)) (reW y.w τ (d+n)) es
def St.ends (P:Program) (x:St) (vals:Nat→Question→Nat) (n:Nat):Prop:=
 ∀τ d,(∀k,k<n→τ (d+k)=vals k)→∀main cs,∃o w' es,stepG P main (G x.fr (x.top++cs)) (reW x.w τ d)=.ended o w' es
theorem St.bad_next (H:X4 P A) (hstep:∀g,P.stepOf g=none) {x:St} (hx:x.bad P A Q) (hl:¬x.leaves):
  ∃vals n,x.ends P vals n∨∃y:St,y.bad P A Q∧x.goes P y vals n:=by
 obtain ⟨⟨hf,hs⟩,hns⟩:=hx;have hl':x.fr.mode=.run∨x.fr.defers≠[]∨x.top≠[]:=by
  by_cases h1:x.fr.mode=.run
  ·exact .inl h1
  ·by_cases h2:x.fr.defers=[]
   ·by_cases h3:x.top=[]
    ·exact absurd ⟨h1,h2,h3⟩ hl
    ·exact .inr (.inr h3)
   ·exact .inr (.inl h2)
 have hex:∃τ d,¬∃fr' top' w' es n,(∀e∈es,EvOk e)∧(∀main cs,stepG P main (G x.fr (x.top++cs)) (reW x.w τ d)=.go (G fr' (top'++cs)) (reW w' τ (d+n)) es)∧Safe P Q fr' top' w':=by
  apply Classical.byContradiction;intro hno;refine hns (.step' fun τ d=>?_);apply Classical.byContradiction;intro hh;exact hno ⟨τ,d,hh⟩
 obtain ⟨τ₀,d₀,hno⟩:=hex;obtain ⟨n,hr⟩:=Y24 H hstep hf hs hl' (reW x.w τ₀ d₀);refine ⟨fun k=>τ₀ (d₀+k),n,?_⟩;rcases hr with ⟨fr',top',w',es,h1,h2,h3,h4,h5,h6⟩|h6
 ·refine .inr ⟨⟨fr',top',w'⟩,⟨⟨h1,h2⟩,fun hsafe=>hno ⟨fr',top',w',es,n,h3,fun main cs=>?_,hsafe⟩⟩,fun τ d ha main cs=>⟨es,?_⟩⟩
  ·exact h6 τ₀ d₀ (fun k _=>rfl) main cs
  ·exact h6 τ d ha main cs
 ·exact .inl fun τ d ha main cs=>h6 τ d ha main cs
theorem Y1L {a b:Frame} {la lb:List Frame} {w w':World} {es:Array Event} (h:stepG P true (G a la) w=.go (G b lb) w' es):step P (solo (G a la) w)=.next (solo (G b lb) w'):=step_solo_go rfl h
theorem step_end {a:Frame} {la:List Frame} {w w':World} {o:Outcome} {es:Array Event} (h:stepG P true (G a la) w=.ended o w' es):step P (solo (G a la) w)=.ended o w':=by
 have:=step_lone_ended (P:=P) (fr:=a) (cs:=la) (w:=w) (w':=w') (o:=o) (by
  show (stepG P true (G a la) w).bare=_;rw [h];rfl)
 exact this
theorem Y7j (x:St) (hx:x.ok P A) (hl:x.leaves) (τ:Nat→Question→Nat) (d:Nat):(∃o w',step P (solo (G x.fr (x.top++[YE])) (reW x.w τ d))=.ended o w')∨
  ∃c w' o w'',step P (solo (G x.fr (x.top++[YE])) (reW x.w τ d))=.next (solo (G c []) w')∧step P (solo (G c []) w')=.ended o w'':=by
 obtain ⟨hm,hd,ht⟩:=hl;have hk:x.fr.kind=.normal:=by
  have:=hx.2;rw [ht] at this;exact this
 rw [ht];cases hmode:x.fr.mode with
 |run=>exact absurd hmode hm
 |panicking chain=>
  obtain ⟨o,w',es,he⟩:=Y6W (P:=P) chain (reW x.w τ d);refine .inr ⟨YE.raise chain,reW x.w τ d,o,w',Y1L (es:=#[]) ?_,step_end he⟩;show stepG P true (G x.fr [YE]) _=_;rw [Z6 hm];unfold unwind;simp only [hd,hmode,Y0H hx.1];rfl
 |returning=>
  obtain ⟨fn,hf⟩:=hx.1.fn;have hu:stepG P true (G x.fr [YE]) (reW x.w τ d)=unwind P true x.fr [YE] none (reW x.w τ d):=Z6 hm _ _ _;cases hr:((results fn x.fr.tmps).runT P (reW x.w τ d) #[]) with
  |mk r es=>
   cases r with
   |ok v w'=>
    obtain ⟨o,w'',es',he⟩:=Y8a (P:=P) v w';refine .inr ⟨YE.finish v,w',o,w'',Y1L (es:=seen P x.fr.fn es) ?_,step_end he⟩;show stepG P true (G x.fr [YE]) _=_;rw [hu];unfold unwind;simp only [hd,hmode,hf,hr,doReturn,hk,GStep.after];simp [G]
   |halt hh w'=>
    have:∃o,stepG P true (G x.fr [YE]) (reW x.w τ d)=.ended o w' (seen P x.fr.fn es):=by
     rw [hu];unfold unwind;simp only [hd,hmode,hf,hr];cases hh<;>exact ⟨_,by simp [GStep.after];rfl⟩
    obtain ⟨o,ho⟩:=this;exact .inl ⟨o,w',step_end ho⟩
theorem Y3E {m:Nat} {x y:Machine} (h:runN P m x=.next y):∀k,runN P (m+k) x=runN P k y:=by
 induction m generalizing x with
 |zero=>intro k;simp only [runN,Stepped.next.injEq] at h;rw [Nat.zero_add,h]
 |succ m ih=>
  intro k;rw [show m+1+k=(m+k)+1 by omega];simp only [runN] at h ⊢;cases hs:step P x with
  |next z=>rw [hs] at h;exact ih h k
  |ended o w=>rw [hs] at h;cases h
theorem Y1d (p:Nat→Prop):∀N,(∀j,j<N→p j)∨∃j,j<N∧¬p j∧∀i,i<j→p i
 |0=>.inl fun j hj=>absurd hj (by omega)
 |N+1=>by
  rcases Y1d p N with h|⟨j,hj,h1,h2⟩
  ·by_cases hN:p N
   ·exact .inl fun j hj=>by
     rcases Nat.lt_succ_iff_lt_or_eq.1 hj with h'|rfl
     ·exact h j h'
     ·exact hN
   ·exact .inr ⟨N,by omega,hN,h⟩
  ·exact .inr ⟨j,by omega,h1,h2⟩
section glue
variable (data:{x:St // x.bad P A Q}→(Nat→Question→Nat)×Nat×Option {x:St // x.bad P A Q}) (b₀:{x:St // x.bad P A Q})
def seqX:Nat→{x:St // x.bad P A Q}
 |0=>b₀
 |k+1=>((data (seqX k)).2.2).getD (seqX k)
def seqD:Nat→Nat
 |0=>0
 |k+1=>seqD k+(data (seqX data b₀ k)).2.1
def seqT:Nat→Nat→Question→Nat
 |0,_,_=>0
 |k+1,i,q=>if i<seqD data b₀ k then seqT k i q else (data (seqX data b₀ k)).1 (i-seqD data b₀ k) q
theorem Y8h {a b:Nat} (h:a≤b):seqD data b₀ a≤seqD data b₀ b:=by
 induction h with
 |refl=>exact Nat.le_refl _
 |step _ ih=>exact Nat.le_trans ih (Nat.le_add_right _ _)
theorem Y2m {k m i:Nat} (hk:i<seqD data b₀ k) (hm:k≤m):seqT data b₀ m i=seqT data b₀ k i:=by
 induction hm with
 |refl=>rfl
 | @step m hm ih=>
  have:i<seqD data b₀ m:=Nat.lt_of_lt_of_le hk (Y8h data b₀ hm);funext q
  show (if i<seqD data b₀ m then seqT data b₀ m i q else _)=_;rw [if_pos this,ih]
theorem Yb0:∃T:Nat→Question→Nat,∀k j,j<(data (seqX data b₀ k)).2.1→T (seqD data b₀ k+j)=(data (seqX data b₀ k)).1 j:=by
 have key:∀i,∃v:Question→Nat,∀k,i<seqD data b₀ k→v=seqT data b₀ k i:=fun i=>by
  by_cases h:∃k,i<seqD data b₀ k
  ·obtain ⟨k₀,hk₀⟩:=h;refine ⟨seqT data b₀ k₀ i,fun k hk=>?_⟩;rcases Nat.le_total k₀ k with h|h
   ·exact (Y2m data b₀ hk₀ h).symm
   ·exact Y2m data b₀ hk h
  ·exact ⟨fun _=>0,fun k hk=>absurd ⟨k,hk⟩ h⟩
 refine ⟨fun i=>Classical.choose (key i),fun k j hj=>?_⟩;have hlt:seqD data b₀ k+j<seqD data b₀ (k+1):=by
  show _<seqD data b₀ k+(data (seqX data b₀ k)).2.1;omega
 refine (Classical.choose_spec (key (seqD data b₀ k+j)) (k+1) hlt).trans ?_;funext q
 show (if seqD data b₀ k+j<seqD data b₀ k then _ else _)=_;rw [if_neg (by omega),show seqD data b₀ k+j-seqD data b₀ k=j by omega]
end glue
theorem Y2G (H:X4 P A) (hstep:∀g,P.stepOf g=none) {x:St} (hok:x.ok P A) (QQ:(Nat→Question→Nat)→Frame→World→Prop) (hQ:∀τ fr w d,QQ τ fr (reW w τ d)→Q fr w)
  (hruns:∀τ,∃N fr' w',runN P N (solo (G x.fr (x.top++[YE])) (reW x.w τ 0))=.next (solo (G fr' [YE]) w')∧QQ τ fr' w'):Safe P Q x.fr x.top x.w:=by
 apply Classical.byContradiction;intro hns;have hex:∀b:{x:St // x.bad P A Q},∃r:(Nat→Question→Nat)×Nat×Option {x:St // x.bad P A Q},
   (b.1.leaves∧r.2.2=none)∨(b.1.ends P r.1 r.2.1∧r.2.2=none)∨∃y,r.2.2=some y∧b.1.goes P y.1 r.1 r.2.1:=fun b=>by
  by_cases hl:b.1.leaves
  ·exact ⟨(fun _ _=>0,0,none),.inl ⟨hl,rfl⟩⟩
  ·obtain ⟨vals,n,h|⟨y,hy,hg⟩⟩:=St.bad_next H hstep b.2 hl
   ·exact ⟨(vals,n,none),.inr (.inl ⟨h,rfl⟩)⟩
   ·exact ⟨(vals,n,some ⟨y,hy⟩),.inr (.inr ⟨⟨y,hy⟩,rfl,hg⟩)⟩
 let data:{x:St // x.bad P A Q}→(Nat→Question→Nat)×Nat×Option {x:St // x.bad P A Q}:=fun b=>Classical.choose (hex b)
 have hdata:∀b,(b.1.leaves∧(data b).2.2=none)∨(b.1.ends P (data b).1 (data b).2.1∧(data b).2.2=none)∨∃y,(data b).2.2=some y∧b.1.goes P y.1 (data b).1 (data b).2.1:=fun b=>Classical.choose_spec (hex b)
 let b₀:{x:St // x.bad P A Q}:=⟨x,hok,hns⟩
 obtain ⟨T,hT⟩:=Yb0 data b₀;obtain ⟨N,fr',w',hN,hq⟩:=hruns T;have hrun:∀m,(∀j,j<m→((data (seqX data b₀ j)).2.2).isSome=true)→runN P m (solo (G x.fr (x.top++[YE])) (reW x.w T 0))=
   .next (solo (G (seqX data b₀ m).1.fr ((seqX data b₀ m).1.top++[YE])) (reW (seqX data b₀ m).1.w T (seqD data b₀ m))):=by
  intro m;induction m with
  |zero=>intro _;rfl
  |succ m ih=>
   intro hj;have h0:=ih fun j hjm=>hj j (by omega);have hsome:=hj m (by omega);rcases hdata (seqX data b₀ m) with ⟨_,e⟩|⟨_,e⟩|⟨y,hy,hg⟩
   ·rw [e] at hsome;cases hsome
   ·rw [e] at hsome;cases hsome
   ·have e1:seqX data b₀ (m+1)=y:=by
     show ((data (seqX data b₀ m)).2.2).getD _=y;rw [hy];rfl
    obtain ⟨es,hes⟩:=hg T (seqD data b₀ m) (fun k hk=>hT _ k hk) true [YE];have:=Y3E h0 1;rw [this,e1];simp only [runN,Y1L hes];rfl
 rcases Y1d (fun j=>((data (seqX data b₀ j)).2.2).isSome=true) N with hall|⟨j,hjN,hj,hbelow⟩
 ·have h1:=hrun N hall;rw [hN] at h1;simp only [Stepped.next.injEq] at h1;have h2:G fr' [YE]=G (seqX data b₀ N).1.fr ((seqX data b₀ N).1.top++[YE]):=by
   have:=congrArg (fun m:Machine=>m.gs[0]?) h1;simpa [solo] using this
  have h3:w'=reW (seqX data b₀ N).1.w T (seqD data b₀ N):=congrArg Machine.world h1;have h4:fr'=(seqX data b₀ N).1.fr:=congrArg Goroutine.frame h2;have h5:[YE]=(seqX data b₀ N).1.top++[YE]:=congrArg Goroutine.callers h2;have h6:(seqX data b₀ N).1.top=[]:=by
   have:=congrArg List.length h5;simp at this;exact this
  have hbad:=(seqX data b₀ N).2.2;rw [h3,h4] at hq;apply hbad;rw [h6];exact .stop (hQ _ _ _ _ hq)
 ·have h0:=hrun j hbelow;have hk:=Y3E h0 (N-j);rw [show j+(N-j)=N by omega,hN] at hk;obtain ⟨r,hr⟩:∃r,N-j=r+1:=⟨N-j-1,by omega⟩;rw [hr] at hk;have hend:∀{o w'},step P (solo (G (seqX data b₀ j).1.fr ((seqX data b₀ j).1.top++[YE])) (reW (seqX data b₀ j).1.w T (seqD data b₀ j)))=.ended o w'→False:=fun he=>by
   simp only [runN,he] at hk;cases hk
  rcases hdata (seqX data b₀ j) with ⟨hl,_⟩|⟨he,_⟩|⟨y,hy,_⟩
  ·rcases Y7j _ (seqX data b₀ j).2.1 hl T (seqD data b₀ j) with ⟨o,w'',h⟩|⟨c,w1,o,w2,h1,h2⟩
   ·exact hend h
   ·simp only [runN,h1] at hk;cases r with
    |zero=>
     simp only [runN,Stepped.next.injEq] at hk;have:=congrArg (fun m:Machine=>(m.gs[0]?).map (·.callers)) hk;simp [solo,G] at this
    |succ r=>
     simp only [runN,h2] at hk;cases hk
  ·obtain ⟨o,w'',es,h⟩:=he T (seqD data b₀ j) (fun k hk'=>hT _ k hk') true [YE];exact hend (step_end h)
  ·apply hj;rw [hy];rfl
end
end Go.Proofs.YtdoghgnifkgfdaaGreat.Mute
