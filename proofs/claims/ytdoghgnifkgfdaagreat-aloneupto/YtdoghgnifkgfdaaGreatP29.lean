import Derived.Test.YtdoghgnifkgfdaaGreatP19
set_option maxRecDepth 100000
set_option maxHeartbeats 4000000
namespace Go.Proofs.YtdoghgnifkgfdaaGreat.Mute
open Go Go.Conc
open Go.ConcN (sumTo upd sumTo_upd upd_ne upd_same)
def Y3 (P:Program) (Post:Goroutine→World→Prop) (a:Goroutine) (w:World):Prop:=
 ∀(gs:Array Goroutine) (sl:Option (Nat×Nat)) (t:Trace) (q:Nat→Nat) (d:Nat),gs[0]?=some a→Leavers P t gs q→YL t→
  ∃N gs' a' w' sl' t' q',runNT P N (crowd gs (w.at d) sl) t=(.next (crowd gs' w' sl'),t')∧gs.size≤gs'.size∧gs'[0]?=some a'∧Post a' w'∧Leavers P t' gs' q'∧YL t'
section
variable {P:Program} {Post Q:Goroutine→World→Prop} {a:Goroutine} {w:World}
theorem Y0i {m m' m'':Machine} {t t' t'':Trace} {N K:Nat} (h:runNT P N m t=(.next m',t')) (hk:runNT P K m' t'=(.next m'',t'')):runNT P (N+K) m t=(.next m'',t''):=by
 induction N generalizing m t with
 |zero=>
  simp only [runNT] at h;cases h;rw [Nat.zero_add];exact hk
 |succ N ih=>
  rw [show N+1+K=(N+K)+1 by omega];simp only [runNT] at h ⊢;split at h
  ·exact ih h
  ·rename_i hx _
   simp only [Prod.mk.injEq] at h;exact absurd h.1 (hx _)
theorem Y3.done (h:∀d,Post a (w.at d)):Y3 P Post a w:=fun gs sl t q d h0 hL hP=>⟨0,gs,a,w.at d,sl,t,q,rfl,Nat.le_refl _,h0,h d,hL,hP⟩
theorem Y3.at (h:Y3 P Post a w) (d:Nat):Y3 P Post a (w.at d):=fun gs sl t q d' h0 hL hP=>h gs sl t q d' h0 hL hP
theorem Y3.bind (h:Y3 P Q a w) (hm:∀a' w',Q a' w'→Y3 P Post a' w'):Y3 P Post a w:=fun gs sl t q d h0 hL hP=>by
 obtain ⟨N,gs',a',w',sl',t',q',h1,h2,h3,h4,h5,h6⟩:=h gs sl t q d h0 hL hP;obtain ⟨M,gs2,a2,w2,sl2,t2,q2,k1,k2,k3⟩:=hm _ _ h4 gs' sl' t' q' w'.drawn h3 h5 h6;exact ⟨N+M,gs2,a2,w2,sl2,t2,q2,Y0i h1 k1,Nat.le_trans h2 k2,k3⟩
theorem Y3s {gs:Array Goroutine} {t:Trace} {q:Nat→Nat} (hL:Leavers P t gs q) (ha:gs[0]?=some a) (hr:a.status=.running):∀g∈gs,awake g:=by
 intro g hg;obtain ⟨i,hi,rfl⟩:=Array.mem_iff_getElem.1 hg;rcases Nat.eq_zero_or_pos i with rfl|hpos
 ·have:gs[0]=a:=by simpa [Array.getElem?_eq_getElem hi] using ha
  rw [this];exact awake_of (.inl hr)
 ·exact awake_of ((hL.old i _ hpos (Array.getElem?_eq_getElem hi)).status.elim .inl fun x=>.inr (.inr x))
theorem Y4E {gs:Array Goroutine} {t:Trace} {q:Nat→Nat} {g:Goroutine} {i:Nat} {sl:Option (Nat×Nat)} (hL:Leavers P t gs q) (hP:YL t) (ha:gs[0]?=some a) (hr:a.status=.running) (hi:gs[i]?=some g) (hg:g.status=.running) (hpos:0<i):
  ∃gs' ops q',runT P (crowd gs w sl) i=(.next (crowd gs' w sl),ops)∧gs'.size=gs.size∧gs'[0]?=some a∧Leavers P (t++ops) gs' q'∧YL (t++ops)∧sumTo gs'.size q'<sumTo gs.size q:=by
 have hq:=hL.old i g hpos hi;have hi0:i≠0:=by omega
 have hlt:i<gs.size:=(Array.getElem?_eq_some_iff.1 hi).1;have hi0':(i==0)=false:=by simp;omega
 cases hqi:q i with
 |zero=>rw [hqi] at hq;rw [hq.1] at hg;cases hg
 |succ m=>
  rw [hqi] at hq;rcases hq with ⟨hf,_⟩|⟨_,g',es,hm,hstp,hq'⟩
  ·rw [hf] at hg;cases hg
  have hrunT:=runT_crowd_go (P:=P) (sl:=sl) (i:=i) hi (by rw [hi0'];exact hstp w);have hsz:((gs.map (woken P g g' w)).setIfInBounds i g').size=gs.size:=by simp
  have hsum:sumTo gs.size (upd q i m)+(m+1)=sumTo gs.size q+m:=by
   have:=sumTo_upd q m id hlt;simpa [hqi] using this
  refine ⟨_,_,upd q i m,hrunT,hsz,?_,⟨fun j x hj hx=>?_,fun j hj=>?_⟩,hP.mute hi0 hm,by rw [hsz];omega⟩
  ·rw [Array.getElem?_setIfInBounds_ne hi0,Array.getElem?_map,ha];simp [woken_running hr]
  ·by_cases hji:i=j
   ·subst hji;rw [Array.getElem?_setIfInBounds_self_of_lt (by simpa using hlt)] at hx;obtain rfl:=Option.some.inj hx;rw [upd_same,Deaf_own];exact hq'
   ·rw [Array.getElem?_setIfInBounds_ne hji,Array.getElem?_map] at hx;obtain ⟨y,hy,rfl⟩:=Option.map_eq_some_iff.1 hx;have hqj:=hL.old j y hj hy;rw [woken_quitsD hqj,upd_ne q m (Ne.symm hji),Deaf_other t hji _ ofEvents_g];exact hqj
  ·rw [Deaf_other t (g':=i) (by simp at hj;omega) _ ofEvents_g];exact hL.above j (by simpa using hj)
theorem Y3.picked (hr:a.status=.running) (H:∀(gs:Array Goroutine) (sl:Option (Nat×Nat)) (t:Trace) (q:Nat→Nat) (d:Nat),gs[0]?=some a→Leavers P t gs q→YL t→
   ∃gs1 w1 sl1 ops q1 N gs' a' w' sl' t' q',runT P (crowd gs (w.at d) sl) 0=(.next (crowd gs1 w1 sl1),ops)∧q1=q∧runNT P N (crowd gs1 w1 sl1) (t++ops)=(.next (crowd gs' w' sl'),t')∧gs.size≤gs'.size∧gs'[0]?=some a'∧Post a' w'∧Leavers P t' gs' q'∧YL t'):Y3 P Post a w:=by
 intro gs sl t q;generalize hM:sumTo gs.size q=M;induction M using Nat.strongRecOn generalizing gs sl t q with
 |_ M ihM=>
  intro d h0 hL hP;obtain ⟨i,g,d',sl',hi,hg,hst⟩:=crowd_pick (P:=P) (w:=w.at d) (sl:=sl) (Y3s hL h0 hr) ⟨0,_,h0,hr⟩;by_cases hi0:i=0
  ·subst hi0;obtain ⟨gs1,w1,sl1,ops,q1,N,gs',a',w',sl2,t',q',e1,_,e2,e3⟩:=H gs sl' t q d' h0 hL hP;exact ⟨N+1,gs',a',w',sl2,t',q',by simp only [runNT,hst];rw [show ((w.at d).at d')=w.at d' from rfl,e1];exact e2,e3⟩
  ·obtain ⟨gs',ops,q',e1,e2,e3,e4,e5,e6⟩:=Y4E (w:=(w.at d).at d') (sl:=sl') hL hP h0 hr hi hg (by omega);obtain ⟨N,gs2,a2,w2,sl2,t2,q2,k1,k2,k3⟩:=ihM _ (by omega) gs' sl' (t++ops) q' rfl d' e3 e4 e5;exact ⟨N+1,gs2,a2,w2,sl2,t2,q2,by simp only [runNT,hst,e1];exact k1,by omega,k3⟩
theorem Y3.step (hr:a.status=.running) (h:∀d,∃a' w' es,stepG P true a (w.at d)=.go a' w' es∧(∀e∈es,EvOk e)∧Y3 P Post a' w'):Y3 P Post a w:=by
 refine .picked hr fun gs sl t q d h0 hL hP=>?_;obtain ⟨a',w',es,hgo,hes,hR⟩:=h d;have hlt:0<gs.size:=(Array.getElem?_eq_some_iff.1 h0).1;have hrunT:=runT_crowd_go (P:=P) (sl:=sl) (i:=0) h0 (show stepG P (0==0) a (w.at d)=_ from hgo);obtain ⟨N,gs2,a2,w2,sl2,t2,q2,k1,k2,k3⟩:=hR ((gs.map (woken P a a' w')).setIfInBounds 0 a') sl (t++MemOp.ofEvents 0 a.frame.fn a.frame.place es) q w'.drawn (by simp [hlt])
  ⟨fun j x hj hx=>by
   rw [Array.getElem?_setIfInBounds_ne (by omega),Array.getElem?_map] at hx;obtain ⟨y,hy,rfl⟩:=Option.map_eq_some_iff.1 hx;have hqj:=hL.old j y hj hy;rw [woken_quitsD hqj,Deaf_other t (by omega) _ ofEvents_g];exact hqj,fun j hj=>by
   rw [Deaf_other t (g':=0) (by simp at hj;omega) _ ofEvents_g];exact hL.above j (by simpa using hj)⟩ (hP.own hes)
 exact ⟨_,_,_,_,q,N,gs2,a2,w2,sl2,t2,q2,hrunT,rfl,k1,by simpa using k2,k3⟩
theorem Y3.of_callsB {f:FuncId} {args:Array Value} {R:Ending→World→Prop} (cs:List Frame) (h:Y2O P f args w R)
  (hp:∀fr e w' d',fr.fn=f→(∀τ d,fr.leaving P (reW w' τ d) e)→R e w'→Y3 P Post (G fr cs) (reW w' w.tape d')):Y3 P Post (G (Frame.enter P f args .normal) cs) w:=by
 intro gs sl t q d h0 hL hP;obtain ⟨N,gs',fr',w',d',sl',t',q',e,h1,h2,h3,h4,h5,h6,h7,h8⟩:=h gs sl t q cs w.tape d h0 hL hP;obtain ⟨M,gs2,a2,w2,sl2,t2,q2,k1,k2,k3⟩:=hp fr' e w' d' h4 h5 h6 gs' sl' t' q' d' h3 h7 h8;exact ⟨N+M,gs2,a2,w2,sl2,t2,q2,Y0i (show runNT P N (crowd gs (w.at d) sl) t=_ from h1) k1,Nat.le_trans h2 k2,k3⟩
end
section
variable {P:Program} {c:Nat} {z:Value} {R0 R1:World→World→Prop} {D0 D1:World→World→Array Event→Prop} {SL ML:World→Touch→Prop} {FS:World→Prop} {Fin Post:Goroutine→World→Prop}
theorem Y3.fork (U:YS c R0 R1 D0 D1 SL ML FS) {vs:List Value} {a:Goroutine} {w:World} (hr:a.status=.running)
  (h:∀d,∃a' b w' es,stepG P true a (w.at d)=.spawn a' b w' es∧(∀e∈es,EvOk e)∧(∃s r tm,w'.heap[c]?=some (.chan 0 #[] false s r tm))∧Y1 P true R0 D0 (StopA P c z R0 D0 ML Fin vs) a' w'∧Y1 P false R1 D1 (StopB P c R1 D1 SL FS vs) b w')
  (hp:∀a' w',Fin a' w'→FS w'→Y3 P Post a' w'):Y3 P Post a w:=by
 refine Y3.bind (Q:=fun a' w'=>Fin a' w'∧FS w') (.picked hr fun gs sl t q d h0 hL hP=>?_) fun a' w' ⟨x,y⟩=>hp a' w' x y;obtain ⟨a',b,w',es,hsp,hes,hc,hA,hB⟩:=h d;have hlt:0<gs.size:=(Array.getElem?_eq_some_iff.1 h0).1;have hrunT:=runT_crowd_spawn (P:=P) (sl:=sl) (i:=0) h0 (show stepG P (0==0) a (w.at d)=_ from hsp);have hk0:gs.size≠0:=by omega
 have e2:∀x y,(((MemOp.ofEvents 0 a.frame.fn a.frame.place es).push x).push y:Trace)=MemOp.ofEvents 0 a.frame.fn a.frame.place es++#[x,y]:=fun x y=>Array.ext' (by simp);rw [e2] at hrunT;have hq:∀(j:Nat) (op:MemOp),op∈(#[{g:=0,fn:=a.frame.fn,pos:=a.frame.place,act:=.go gs.size},{g:=gs.size,fn:=b.frame.fn,pos:=a.frame.place,act:=.start}]:Trace)→∀d,deafStep j d op=d:=fun j op hop=>by
  simp only [List.mem_toArray,List.mem_cons,List.not_mem_nil,or_false] at hop;rcases hop with rfl|rfl<;>exact fun _=>rfl
 have hd:∀j,j≠0→Deaf (t++(MemOp.ofEvents 0 a.frame.fn a.frame.place es++#[{g:=0,fn:=a.frame.fn,pos:=a.frame.place,act:=.go gs.size},{g:=gs.size,fn:=b.frame.fn,pos:=a.frame.place,act:=.start}])) j=Deaf t j:=fun j hj=>Y04 ofEvents_g (Ne.symm hj) (hq j);have hC:Ctx P c gs.size SL ML ((gs.setIfInBounds 0 a').push b) w' (t++(MemOp.ofEvents 0 a.frame.fn a.frame.place es++#[{g:=0,fn:=a.frame.fn,pos:=a.frame.place,act:=.go gs.size},{g:=gs.size,fn:=b.frame.fn,pos:=a.frame.place,act:=.start}])) q:=by
  refine ⟨hk0,hc,fun i g hi0 hik hi=>?_,fun j hj=>?_,?_⟩
  ·have hi':gs[i]?=some g:=by
    rw [Array.getElem?_push] at hi;simp only [Array.size_setIfInBounds,hik,if_false] at hi;rw [Array.getElem?_setIfInBounds_ne (Ne.symm hi0)] at hi;exact hi
   rw [hd i hi0];exact hL.old i g (by omega) hi'
  ·have hj':gs.size+1≤j:=by simpa using hj
   rw [hd j (by omega)];exact hL.above j (by omega)
  ·rw [←Array.append_assoc];exact X9.fork (hP.own hes) (by rw [Deaf_other t (Ne.symm hk0) _ ofEvents_g];exact hL.above _ (Nat.le_refl _)) _ _ _
 obtain ⟨N,gs2,a2,w2,sl2,t2,q2,k1,k2,k3,k4,k5,k6,k7⟩:=phase U vs a' b w' _ sl _ q hA hB (by rw [Array.getElem?_push,if_neg (by simp;omega),Array.getElem?_setIfInBounds_self_of_lt hlt]) (by rw [Array.getElem?_push,if_pos (by simp)]) hC;exact ⟨_,_,_,_,q,N,gs2,a2,w2,sl2,t2,q2,hrunT,rfl,k1,by rw [k2];simp,k3,⟨k4,k5⟩,k6,k7⟩
end
def Xm:Code→Bool
 |.region _ ops _=>ops.all fun o=>!Y0D o
 |.seq a b|.cond _ a b=>Xm a && Xm b
 |.block _ c|.loop c|.scope c=>Xm c
 |_=>true
def Xa:Item→Prop
 |.code c|.inLoop c|.inScope c=>Xm c=true
 |.inRegion ops _=>(ops.all fun o=>!Y0D o)=true
 |_=>True
def sfx (s:List Item) (fr:Frame):Frame:={fr with todo:=fr.todo++s}
section
variable {P:Program} {A:Plan} {fr:Frame} {w:World}
def Ways (P:Program) (fr:Frame) (s:List Item) (x y:List Frame→GStep):Prop:=
 (∃fr' w' es,((∀it∈fr.todo,Xa it)→∀it∈fr'.todo,Xa it)∧fr'.defers=fr.defers∧fr'.kind=fr.kind∧∀cs,x cs=.go (G fr' cs) w' es∧y cs=.go (G (sfx s fr') cs) w' es)∨
 (∃f args w' es ops i rest k,fr.todo=.inRegion ops (i::rest)::k∧∀cs,x cs=.go (G (Frame.enter P f args .normal) (fr::cs)) w' es∧y cs=.go (G (Frame.enter P f args .normal) (sfx s fr::cs)) w' es)∨
 (∀cs,∃o w' es,x cs=.ended o w' es)
theorem Y8l {sm:Sem Next} {ops:Array Oper} {i:Nat} {rest:List Nat} {k:List Item} {o:Oper} (h:FrOk P A fr) (hkn:fr.kind=.normal) (ht:fr.todo=.inRegion ops (i::rest)::k) (hnd:Y0D o=false) (hs:Ok P (ZV P A fr.fn o) sm) (hstep:∀g,P.stepOf g=none) (s:List Item) (w:World):
  Ways P fr s (fun cs=>stepG.apply P true fr cs none sm w) (fun cs=>stepG.apply P true (sfx s fr) cs none sm w):=by
 obtain ⟨s1,_⟩:=J4 P sm w #[] hs (by simp);have hke:(fr.kind==.early)=false:=by rw [hkn];rfl
 have hks:((sfx s fr).kind==.early)=false:=hke;have hts:(sfx s fr).todo=.inRegion ops (i::rest)::(k++s):=by show fr.todo++s=_;rw [ht];rfl
 have hfn:(sfx s fr).fn=fr.fn:=rfl;have hrd:fr.roundOf=none:=h.round;have hrs:(sfx s fr).roundOf=none:=h.round;have hfin:∀v,(sfx s fr).finish v=sfx s (fr.finish v):=fun v=>by
  unfold Frame.finish;rw [hts,ht];simp [sfx]
 have hcalm:∀v,(∀it∈fr.todo,Xa it)→∀it∈(fr.finish v).todo,Xa it:=fun v hc it hit=>by
  unfold Frame.finish at hit;rw [ht] at hc hit;simp only [List.mem_cons] at hit;rcases hit with rfl|hit
  ·exact hc (.inRegion ops (i::rest)) List.mem_cons_self
  ·exact hc it (List.mem_cons_of_mem _ hit)
 have hdef:∀v,(fr.finish v).defers=fr.defers:=fun v=>by unfold Frame.finish;split<;>rfl
 have hra:∀c,(sfx s fr).raise c=sfx s (fr.raise c):=fun c=>by
  unfold Frame.raise sfx;cases fr.mode<;>rfl
 have hrt:∀c,(fr.raise c).todo=fr.todo∧(fr.raise c).defers=fr.defers:=fun c=>by
  unfold Frame.raise;cases fr.mode<;>exact ⟨rfl,rfl⟩
 have hrec:∀cs,tryRecover fr cs=none:=fun cs=>by unfold tryRecover;simp [hkn]
 have hrecs:∀cs,tryRecover (sfx s fr) cs=none:=fun cs=>by
  have:(sfx s fr).kind=.normal:=hkn;unfold tryRecover;simp [this]
 cases hr:sm.runT P w #[] with
 |mk r es=>
  rw [hr] at s1;cases r with
  |ok a w'=>
   cases a with
   |value v=>
    refine .inl ⟨fr.finish v,w',seen P fr.fn es,hcalm v,hdef v,Z5 fr v,fun cs=>⟨?_,?_⟩⟩
    ·simp only [stepG.apply,if_true,hr,hke,GStep.after];simp [G]
    ·simp only [stepG.apply,if_true,hr,hks,GStep.after,hfin,hfn];simp [G]
   |skip=>
    refine .inl ⟨fr.finish undef,w',seen P fr.fn es,hcalm undef,hdef undef,Z5 fr _,fun cs=>⟨?_,?_⟩⟩
    ·simp only [stepG.apply,if_true,hr,hke,GStep.after];simp [G]
    ·simp only [stepG.apply,if_true,hr,hks,GStep.after,hfin,hfn];simp [G]
   |enter f args=>
    refine .inr (.inl ⟨f,args,w',seen P fr.fn es,ops,i,rest,k,ht,fun cs=>⟨?_,?_⟩⟩)
    ·simp only [stepG.apply,if_true,hr,hke,GStep.after,ht];simp [G]
    ·simp only [stepG.apply,if_true,hr,hks,GStep.after,hts,hfn];simp [G]
   |defer df=>
    rw [s1.2] at hnd;cases hnd
   |recover=>
    refine .inl ⟨fr.finish .nilIface,w',seen P fr.fn es,hcalm _,hdef _,Z5 fr _,fun cs=>⟨?_,?_⟩⟩
    ·simp only [stepG.apply,if_true,hr,hke,GStep.after,hrd,hrec];simp [G]
    ·simp only [stepG.apply,if_true,hr,hks,GStep.after,hrs,hrecs,hfin,hfn];simp [G]
   |_=>exact s1.elim
  |halt hh w'=>
   cases hh with
   |panic v=>
    refine .inl ⟨fr.raise [{v,recovered:=false}],w',seen P fr.fn es,fun hc=>by rw [(hrt _).1];exact hc,(hrt _).2,JO fr _,fun cs=>⟨?_,?_⟩⟩
    ·simp only [stepG.apply,if_true,hr,hke,GStep.after];simp [G]
    ·simp only [stepG.apply,if_true,hr,hks,GStep.after,hra,hfn];simp [G]
   |stuck m=>
    refine .inr (.inr fun cs=>?_);simp only [stepG.apply,if_true,hr,hke,GStep.after];exact ⟨_,_,_,rfl⟩
   |unsupported u=>
    cases u with
    |initOrder g=>
     cases hfo:P.follows .staticDataAhead with
     |true=>
      refine .inr (.inr fun cs=>?_);simp only [stepG.apply,if_true,hr,hke,GStep.after,early,hfo,hstep];exact ⟨_,_,_,rfl⟩
     |false=>
      cases hg:w'.heap[g]? with
      |none=>
       refine .inr (.inr fun cs=>?_);simp only [stepG.apply,if_true,hr,hke,GStep.after,early,hfo,hg];exact ⟨_,_,_,rfl⟩
      |some ob=>
       cases ob with
       |pending c e=>
        refine .inl ⟨fr,{w' with heap:=w'.heap.setIfInBounds g (.cells c e)},seen P fr.fn #[],id,rfl,rfl,fun cs=>⟨?_,?_⟩⟩
        ·simp only [stepG.apply,if_true,hr,hke,GStep.after,early,hfo,hg];simp [G]
        ·simp only [stepG.apply,if_true,hr,hks,GStep.after,early,hfo,hg,hfn];simp [G]
       |_=>
        refine .inr (.inr fun cs=>?_);simp only [stepG.apply,if_true,hr,hke,GStep.after,early,hfo,hg];exact ⟨_,_,_,rfl⟩
    |_=>
     refine .inr (.inr fun cs=>?_);simp only [stepG.apply,if_true,hr,hke,GStep.after];exact ⟨_,_,_,rfl⟩
   |_=>exact s1.elim
theorem Y28 {id:Nat} (s:List Item):∀{k l:List Item},exitTo id k=some l→exitTo id (k++s)=some (l++s)
 | [],_,e=>by simp [exitTo] at e
 |x::k,l,e=>by
  cases x with
  |inBlock id'=>
   rw [List.cons_append];unfold exitTo at e ⊢;split at e
   ·rename_i hh
    cases e;rw [if_pos hh]
   ·rename_i hh
    rw [if_neg hh];exact Y28 s e
  |_=>rw [List.cons_append];exact Y28 s (by simpa [exitTo] using e) |> fun z=>by simpa [exitTo] using z
theorem Y1w {id:Nat}:∀{k l:List Item},exitTo id k=some l→(∀it∈k,Xa it)→∀it∈l,Xa it
 | [],_,e,_=>by simp [exitTo] at e
 |x::k,l,e,hk=>by
  have hk':∀it∈k,Xa it:=fun it hit=>hk it (List.mem_cons_of_mem _ hit);cases x with
  |inBlock id'=>
   unfold exitTo at e;split at e
   ·cases e;exact hk'
   ·exact Y1w e hk'
  |_=>exact Y1w (by simpa [exitTo] using e) hk'
theorem XB {s l:List Item} {x y:List Frame→GStep} (hc:(∀it∈fr.todo,Xa it)→∀it∈l,Xa it) (hx:∀cs,x cs=.go (G {fr with todo:=l} cs) w #[]) (hy:∀cs,y cs=.go (G {fr with todo:=l++s} cs) w #[]):Ways P fr s x y:=
 .inl ⟨{fr with todo:=l},w,#[],hc,rfl,rfl,fun cs=>⟨hx cs,hy cs⟩⟩
theorem Y6r (H:X4 P A) (hstep:∀g,P.stepOf g=none) (h:FrOk P A fr) (hkn:fr.kind=.normal) (hm:fr.mode=.run) (hne:fr.todo≠[]) (hcalm:∀it∈fr.todo,Xa it) (main:Bool) (s:List Item) (w:World):
  Ways P fr s (fun cs=>stepG P main (G fr cs) w) (fun cs=>stepG P main (G (sfx s fr) cs) w):=by
 have heq:∀cs,stepG P main (G fr cs) w=stepG.exec P main true fr cs none w:=fun cs=>Y10 hm _ _ _;have hes:∀cs,stepG P main (G (sfx s fr) cs) w=stepG.exec P main true (sfx s fr) cs none w:=fun cs=>Y10 (fr:=sfx s fr) hm _ _ _;have hrd:fr.roundOf=none:=h.round;have hrs:(sfx s fr).roundOf=none:=h.round;have hto:=h.todo;cases ht:fr.todo with
 |nil=>exact absurd ht hne
 |cons it k=>
  have hts:(sfx s fr).todo=it::(k++s):=by show fr.todo++s=_;rw [ht];rfl
  rw [ht] at hto hcalm;have hit:=hto it List.mem_cons_self;have cit:=hcalm it List.mem_cons_self;have ck:∀x∈k,Xa x:=fun x hx=>hcalm x (List.mem_cons_of_mem _ hx);have one:∀{a:Item},Xa a→∀x∈a::k,Xa x:=fun ha x hx=>by
   rcases List.mem_cons.1 hx with rfl|hx
   ·exact ha
   ·exact ck x hx
  have two:∀{a b:Item},Xa a→Xa b→∀x∈a::b::k,Xa x:=fun ha hb x hx=>by
   rcases List.mem_cons.1 hx with rfl|hx
   ·exact ha
   ·rcases List.mem_cons.1 hx with rfl|hx
    ·exact hb
    ·exact ck x hx
  cases it with
  |inBlock id=>exact XB (w:=w) (fun _=>ck) (fun cs=>by rw [heq];simp only [stepG.exec,ht];simp [G]) (fun cs=>by rw [hes];simp only [stepG.exec,hts];simp [G,sfx])
  |inScope c=>exact XB (w:=w) (fun _=>ck) (fun cs=>by rw [heq];simp only [stepG.exec,ht];simp [G]) (fun cs=>by rw [hes];simp only [stepG.exec,hts];simp [G,sfx])
  |inLoop c=>exact XB (w:=w) (fun _=>two (a:=.code c) (b:=.inLoop c) cit cit) (fun cs=>by rw [heq];simp only [stepG.exec,ht];simp [G]) (fun cs=>by rw [hes];simp only [stepG.exec,hts];simp [G,sfx])
  |inRegion ops l=>
   cases l with
   |nil=>exact XB (w:=w) (fun _=>ck) (fun cs=>by rw [heq];simp only [stepG.exec,ht];simp [G]) (fun cs=>by rw [hes];simp only [stepG.exec,hts];simp [G,sfx])
   |cons i rest=>
    cases hwant:((ops[i]?).map (Region.wanted · (yielded ops fr.tmps))).getD false with
    |true=>
     obtain ⟨o,ho⟩:∃o,ops[i]?=some o:=by
      cases hx:ops[i]? with
      |none=>rw [hx] at hwant;cases hwant
      |some o=>exact ⟨o,rfl⟩
     have hpl:Yk P A fr.fn o=true:=by
      have:ops.all (Yk P A fr.fn)=true:=hit;rw [Array.all_eq_true_iff_forall_mem] at this;exact this o (Array.mem_of_getElem? ho)
     have hnd:Y0D o=false:=by
      have:(ops.all fun o=>!Y0D o)=true:=cit;rw [Array.all_eq_true_iff_forall_mem] at this;simpa using this o (Array.mem_of_getElem? ho)
     have hwant':(Option.map (fun x=>Region.wanted x (yielded ops fr.tmps)) (some o)).getD false=true:=by rw [ho] at hwant;exact hwant
     have e1:∀cs,stepG P main (G fr cs) w=stepG.apply P true fr cs none (execOp fr.eval o) w:=fun cs=>by
      rw [heq];simp only [stepG.exec,ht,stepG.oper,Frame.oper?,ho,hrd];rw [if_pos hwant']
     have e2:∀cs,stepG P main (G (sfx s fr) cs) w=stepG.apply P true (sfx s fr) cs none (execOp fr.eval o) w:=fun cs=>by
      rw [hes];simp only [stepG.exec,hts,stepG.oper,Frame.oper?,ho,hrs];exact if_pos hwant'
     have:=Y8l h hkn ht hnd (Y1V (ρ:=fr.eval) H h.slots (fun _=>rfl) hpl) hstep s w;rw [show (fun cs=>stepG P main (G fr cs) w)=fun cs=>stepG.apply P true fr cs none (execOp fr.eval o) w from funext e1,show (fun cs=>stepG P main (G (sfx s fr) cs) w)=fun cs=>stepG.apply P true (sfx s fr) cs none (execOp fr.eval o) w from funext e2];exact this
    |false=>
     have hws:((ops[i]?).map (Region.wanted · (yielded ops (sfx s fr).tmps))).getD false=false:=hwant;have hcf:∀it∈(fr.finish undef).todo,Xa it:=fun x hx=>by
      unfold Frame.finish at hx;rw [ht] at hx;exact one (a:=.inRegion ops rest) cit x hx
     have hfin:(sfx s fr).finish undef=sfx s (fr.finish undef):=by
      unfold Frame.finish;rw [hts,ht];simp [sfx]
     refine .inl ⟨fr.finish undef,w,#[],fun _=>hcf,by unfold Frame.finish;split<;>rfl,Z5 _ _,fun cs=>⟨?_,?_⟩⟩
     ·refine (heq cs).trans ?_;simp only [stepG.exec,ht,hwant];simp [G]
     ·refine (hes cs).trans ?_;simp only [stepG.exec,hts,hws,hfin];simp [G]
  |code c=>
   cases c with
   |skip=>exact XB (w:=w) (fun _=>ck) (fun cs=>by rw [heq];simp only [stepG.exec,ht];simp [G]) (fun cs=>by rw [hes];simp only [stepG.exec,hts];simp [G,sfx])
   |label l=>exact XB (w:=w) (fun _=>ck) (fun cs=>by rw [heq];simp only [stepG.exec,ht];simp [G]) (fun cs=>by rw [hes];simp only [stepG.exec,hts];simp [G,sfx])
   |seq a b=>
    have hp:Xm a=true∧Xm b=true:=by
     have:Xm (.seq a b)=true:=cit;simpa [Xm] using this
    exact XB (w:=w) (fun _=>two (a:=.code a) (b:=.code b) hp.1 hp.2) (fun cs=>by rw [heq];simp only [stepG.exec,ht];simp [G]) (fun cs=>by rw [hes];simp only [stepG.exec,hts];simp [G,sfx])
   |cond x a b=>
    have hp:Xm a=true∧Xm b=true:=by
     have:Xm (.cond x a b)=true:=cit;simpa [Xm] using this
    cases hx:fr.eval x with
    |bool bb=>
     have hxs:(sfx s fr).eval x=.bool bb:=hx;cases bb with
     |true=>exact XB (w:=w) (fun _=>one (a:=.code a) hp.1) (fun cs=>by rw [heq];simp only [stepG.exec,ht,hx];simp [G]) (fun cs=>by rw [hes];simp only [stepG.exec,hts,hxs];simp [G,sfx])
     |false=>exact XB (w:=w) (fun _=>one (a:=.code b) hp.2) (fun cs=>by rw [heq];simp only [stepG.exec,ht,hx];simp [G]) (fun cs=>by rw [hes];simp only [stepG.exec,hts,hxs];simp [G,sfx])
    |_=>exact .inr (.inr fun cs=>by show ∃o w' es,stepG P main (G fr cs) w=_;rw [heq];simp only [stepG.exec,ht,hx];exact ⟨_,_,_,rfl⟩)
   |block id c=>
    have hp:Xm c=true:=cit;exact XB (w:=w) (fun _=>two (a:=.code c) (b:=.inBlock id) hp trivial) (fun cs=>by rw [heq];simp only [stepG.exec,ht];simp [G]) (fun cs=>by rw [hes];simp only [stepG.exec,hts];simp [G,sfx])
   |loop c=>
    have hp:Xm c=true:=cit;exact XB (w:=w) (fun _=>two (a:=.code c) (b:=.inLoop c) hp hp) (fun cs=>by rw [heq];simp only [stepG.exec,ht];simp [G]) (fun cs=>by rw [hes];simp only [stepG.exec,hts];simp [G,sfx])
   |scope c=>
    have hp:Xm c=true:=cit;exact XB (w:=w) (fun _=>two (a:=.code c) (b:=.inScope c) hp hp) (fun cs=>by rw [heq];simp only [stepG.exec,ht];simp [G]) (fun cs=>by rw [hes];simp only [stepG.exec,hts];simp [G,sfx])
   |ret=>
    refine .inl ⟨{fr with mode:=.returning},w,#[],fun hc=>hc,rfl,rfl,fun cs=>⟨?_,?_⟩⟩
    ·refine (heq cs).trans ?_;simp only [stepG.exec,ht,hrd];simp [G]
    ·refine (hes cs).trans ?_;simp only [stepG.exec,hts,hrs];simp [G,sfx,ht,hrd]
   |exit id=>
    cases hx:exitTo id k with
    |some l=>exact XB (w:=w) (fun _=>Y1w hx ck) (fun cs=>by rw [heq];simp only [stepG.exec,ht,hx];simp [G]) (fun cs=>by rw [hes];simp only [stepG.exec,hts,Y28 s hx];simp [G,sfx])
    |none=>exact .inr (.inr fun cs=>by show ∃o w' es,stepG P main (G fr cs) w=_;rw [heq];simp only [stepG.exec,ht,hx,hrd];exact ⟨_,_,_,rfl⟩)
   |region id ops draw=>
    have hp:(ops.all fun o=>!Y0D o)=true:=cit;cases draw with
    |false=>exact XB (w:=w) (fun _=>one (a:=.inRegion ops (List.range ops.size)) hp) (fun cs=>by rw [heq];simp only [stepG.exec,ht];simp [G]) (fun cs=>by rw [hes];simp only [stepG.exec,hts];simp [G,sfx])
    |true=>
     obtain ⟨n,t,w',_,_,q3⟩:=Y2M P (.order fr.fn id) w;have q4:=q3 w.tape w.drawn (fun _ _=>rfl);refine .inl ⟨{fr with todo:=.inRegion ops (Region.schedule (P.follows .mixedOrders) ops t)::k},reW w' w.tape (w.drawn+n),#[],fun _=>one (a:=.inRegion ops _) hp,rfl,rfl,fun cs=>⟨?_,?_⟩⟩
     ·refine (heq cs).trans ?_;simp only [stepG.exec,ht,show (choose (.order fr.fn id)).run P w=_ from q4];simp [G]
     ·refine (hes cs).trans ?_;simp only [stepG.exec,hts,show (choose (.order (sfx s fr).fn id)).run P w=_ from q4];simp [G,sfx]
   |_=>
    exfalso;simp [Xp,YH] at hit
  |_=>exact (hit:False).elim
end
end Go.Proofs.YtdoghgnifkgfdaaGreat.Mute
