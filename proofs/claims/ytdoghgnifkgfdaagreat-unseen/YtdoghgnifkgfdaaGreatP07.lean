import Derived.Test.YtdoghgnifkgfdaaGreatP06
set_option maxRecDepth 100000
set_option maxHeartbeats 16000000
namespace Go.Proofs.YtdoghgnifkgfdaaGreat.Mute
open Go Go.Conc
def Xm:Code→Bool
 |.region _ ops _=>ops.all fun o=>!Y0D o
 |.seq a b|.cond _ a b=>Xm a && Xm b
 |.block _ c|.loop c|.scope c=>Xm c
 |_=>true
def Xa:Item→Prop
 |.code c|.inLoop c|.inScope c=>Xm c=true
 |.inRegion ops _=>(ops.all fun o=>!Y0D o)=true
 |_=>True
def sfx (s:List Item) (fr:Frame):Frame:={fr with todo:=fr.todo++s}
section
variable {P:Program} {A:Plan} {fr:Frame} {w:World}
def Ways (P:Program) (fr:Frame) (s:List Item) (x y:List Frame→GStep):Prop:=
 (∃fr' w' es,((∀it∈fr.todo,Xa it)→∀it∈fr'.todo,Xa it)∧fr'.defers=fr.defers∧fr'.kind=fr.kind∧∀cs,x cs=.go (G fr' cs) w' es∧y cs=.go (G (sfx s fr') cs) w' es)∨
 (∃f args w' es ops i rest k,fr.todo=.inRegion ops (i::rest)::k∧∀cs,x cs=.go (G (Frame.enter P f args .normal) (fr::cs)) w' es∧y cs=.go (G (Frame.enter P f args .normal) (sfx s fr::cs)) w' es)∨
 (∀cs,∃o w' es,x cs=.ended o w' es)
theorem Y8l {sm:Sem Next} {ops:Array Oper} {i:Nat} {rest:List Nat} {k:List Item} {o:Oper} (h:FrOk P A fr) (hkn:fr.kind=.normal) (ht:fr.todo=.inRegion ops (i::rest)::k) (hnd:Y0D o=false) (hs:Ok P (ZV P A fr.fn o) sm) (hstep:∀g,P.stepOf g=none) (s:List Item) (w:World):
  Ways P fr s (fun cs=>stepG.apply P true fr cs none sm w) (fun cs=>stepG.apply P true (sfx s fr) cs none sm w):=by
 obtain ⟨s1,_⟩:=J4 P sm w #[] hs (by simp);have hke:(fr.kind==.early)=false:=by rw [hkn];rfl
 have hks:((sfx s fr).kind==.early)=false:=hke;have hts:(sfx s fr).todo=.inRegion ops (i::rest)::(k++s):=by show fr.todo++s=_;rw [ht];rfl
 have hfn:(sfx s fr).fn=fr.fn:=rfl;have hrd:fr.roundOf=none:=h.round;have hrs:(sfx s fr).roundOf=none:=h.round;have hfin:∀v,(sfx s fr).finish v=sfx s (fr.finish v):=fun v=>by
  unfold Frame.finish;rw [hts,ht];simp [sfx]
 have hcalm:∀v,(∀it∈fr.todo,Xa it)→∀it∈(fr.finish v).todo,Xa it:=fun v hc it hit=>by
  unfold Frame.finish at hit;rw [ht] at hc hit;simp only [List.mem_cons] at hit;rcases hit with rfl|hit
  ·exact hc (.inRegion ops (i::rest)) List.mem_cons_self
  ·exact hc it (List.mem_cons_of_mem _ hit)
 have hdef:∀v,(fr.finish v).defers=fr.defers:=fun v=>by unfold Frame.finish;split<;>rfl
 have hra:∀c,(sfx s fr).raise c=sfx s (fr.raise c):=fun c=>by
  unfold Frame.raise sfx;cases fr.mode<;>rfl
 have hrt:∀c,(fr.raise c).todo=fr.todo∧(fr.raise c).defers=fr.defers:=fun c=>by
  unfold Frame.raise;cases fr.mode<;>exact ⟨rfl,rfl⟩
 have hrec:∀cs,tryRecover fr cs=none:=fun cs=>by unfold tryRecover;simp [hkn]
 have hrecs:∀cs,tryRecover (sfx s fr) cs=none:=fun cs=>by
  have:(sfx s fr).kind=.normal:=hkn;unfold tryRecover;simp [this]
 cases hr:sm.runT P w #[] with
 |mk r es=>
  rw [hr] at s1;cases r with
  |ok a w'=>
   cases a with
   |value v=>
    refine .inl ⟨fr.finish v,w',seen P fr.fn es,hcalm v,hdef v,Z5 fr v,fun cs=>⟨?_,?_⟩⟩
    ·simp only [stepG.apply,if_true,hr,hke,GStep.after];simp [G]
    ·simp only [stepG.apply,if_true,hr,hks,GStep.after,hfin,hfn];simp [G]
   |skip=>
    refine .inl ⟨fr.finish undef,w',seen P fr.fn es,hcalm undef,hdef undef,Z5 fr _,fun cs=>⟨?_,?_⟩⟩
    ·simp only [stepG.apply,if_true,hr,hke,GStep.after];simp [G]
    ·simp only [stepG.apply,if_true,hr,hks,GStep.after,hfin,hfn];simp [G]
   |enter f args=>
    refine .inr (.inl ⟨f,args,w',seen P fr.fn es,ops,i,rest,k,ht,fun cs=>⟨?_,?_⟩⟩)
    ·simp only [stepG.apply,if_true,hr,hke,GStep.after,ht];simp [G]
    ·simp only [stepG.apply,if_true,hr,hks,GStep.after,hts,hfn];simp [G]
   |defer df=>
    rw [s1.2] at hnd;cases hnd
   |recover=>
    refine .inl ⟨fr.finish .nilIface,w',seen P fr.fn es,hcalm _,hdef _,Z5 fr _,fun cs=>⟨?_,?_⟩⟩
    ·simp only [stepG.apply,if_true,hr,hke,GStep.after,hrd,hrec];simp [G]
    ·simp only [stepG.apply,if_true,hr,hks,GStep.after,hrs,hrecs,hfin,hfn];simp [G]
   |_=>exact s1.elim
  |halt hh w'=>
   cases hh with
   |panic v=>
    refine .inl ⟨fr.raise [{v,recovered:=false}],w',seen P fr.fn es,fun hc=>by rw [(hrt _).1];exact hc,(hrt _).2,JO fr _,fun cs=>⟨?_,?_⟩⟩
    ·simp only [stepG.apply,if_true,hr,hke,GStep.after];simp [G]
    ·simp only [stepG.apply,if_true,hr,hks,GStep.after,hra,hfn];simp [G]
   |stuck m=>
    refine .inr (.inr fun cs=>?_);simp only [stepG.apply,if_true,hr,hke,GStep.after];exact ⟨_,_,_,rfl⟩
   |unsupported u=>
    cases u with
    |initOrder g=>
     cases hfo:P.follows .staticDataAhead with
     |true=>
      refine .inr (.inr fun cs=>?_);simp only [stepG.apply,if_true,hr,hke,GStep.after,early,hfo,hstep];exact ⟨_,_,_,rfl⟩
     |false=>
      cases hg:w'.heap[g]? with
      |none=>
       refine .inr (.inr fun cs=>?_);simp only [stepG.apply,if_true,hr,hke,GStep.after,early,hfo,hg];exact ⟨_,_,_,rfl⟩
      |some ob=>
       cases ob with
       |pending c e=>
        refine .inl ⟨fr,{w' with heap:=w'.heap.setIfInBounds g (.cells c e)},seen P fr.fn #[],id,rfl,rfl,fun cs=>⟨?_,?_⟩⟩
        ·simp only [stepG.apply,if_true,hr,hke,GStep.after,early,hfo,hg];simp [G]
        ·simp only [stepG.apply,if_true,hr,hks,GStep.after,early,hfo,hg,hfn];simp [G]
       |_=>
        refine .inr (.inr fun cs=>?_);simp only [stepG.apply,if_true,hr,hke,GStep.after,early,hfo,hg];exact ⟨_,_,_,rfl⟩
    |_=>
     refine .inr (.inr fun cs=>?_);simp only [stepG.apply,if_true,hr,hke,GStep.after];exact ⟨_,_,_,rfl⟩
   |_=>exact s1.elim
theorem Y28 {id:Nat} (s:List Item):∀{k l:List Item},exitTo id k=some l→exitTo id (k++s)=some (l++s)
 | [],_,e=>by simp [exitTo] at e
 |x::k,l,e=>by
  cases x with
  |inBlock id'=>
   rw [List.cons_append];unfold exitTo at e ⊢;split at e
   ·rename_i hh
    cases e;rw [if_pos hh]
   ·rename_i hh
    rw [if_neg hh];exact Y28 s e
  |_=>rw [List.cons_append];exact Y28 s (by simpa [exitTo] using e) |> fun z=>by simpa [exitTo] using z
theorem Y1w {id:Nat}:∀{k l:List Item},exitTo id k=some l→(∀it∈k,Xa it)→∀it∈l,Xa it
 | [],_,e,_=>by simp [exitTo] at e
 |x::k,l,e,hk=>by
  have hk':∀it∈k,Xa it:=fun it hit=>hk it (List.mem_cons_of_mem _ hit);cases x with
  |inBlock id'=>
   unfold exitTo at e;split at e
   ·cases e;exact hk'
   ·exact Y1w e hk'
  |_=>exact Y1w (by simpa [exitTo] using e) hk'
theorem XB {s l:List Item} {x y:List Frame→GStep} (hc:(∀it∈fr.todo,Xa it)→∀it∈l,Xa it) (hx:∀cs,x cs=.go (G {fr with todo:=l} cs) w #[]) (hy:∀cs,y cs=.go (G {fr with todo:=l++s} cs) w #[]):Ways P fr s x y:=
 .inl ⟨{fr with todo:=l},w,#[],hc,rfl,rfl,fun cs=>⟨hx cs,hy cs⟩⟩
theorem Y6r (H:X4 P A) (hstep:∀g,P.stepOf g=none) (h:FrOk P A fr) (hkn:fr.kind=.normal) (hm:fr.mode=.run) (hne:fr.todo≠[]) (hcalm:∀it∈fr.todo,Xa it) (main:Bool) (s:List Item) (w:World):
  Ways P fr s (fun cs=>stepG P main (G fr cs) w) (fun cs=>stepG P main (G (sfx s fr) cs) w):=by
 have heq:∀cs,stepG P main (G fr cs) w=stepG.exec P main true fr cs none w:=fun cs=>Y10 hm _ _ _;have hes:∀cs,stepG P main (G (sfx s fr) cs) w=stepG.exec P main true (sfx s fr) cs none w:=fun cs=>Y10 (fr:=sfx s fr) hm _ _ _;have hrd:fr.roundOf=none:=h.round;have hrs:(sfx s fr).roundOf=none:=h.round;have hto:=h.todo;cases ht:fr.todo with
 |nil=>exact absurd ht hne
 |cons it k=>
  have hts:(sfx s fr).todo=it::(k++s):=by show fr.todo++s=_;rw [ht];rfl
  rw [ht] at hto hcalm;have hit:=hto it List.mem_cons_self;have cit:=hcalm it List.mem_cons_self;have ck:∀x∈k,Xa x:=fun x hx=>hcalm x (List.mem_cons_of_mem _ hx);have one:∀{a:Item},Xa a→∀x∈a::k,Xa x:=fun ha x hx=>by
   rcases List.mem_cons.1 hx with rfl|hx
   ·exact ha
   ·exact ck x hx
  have two:∀{a b:Item},Xa a→Xa b→∀x∈a::b::k,Xa x:=fun ha hb x hx=>by
   rcases List.mem_cons.1 hx with rfl|hx
   ·exact ha
   ·rcases List.mem_cons.1 hx with rfl|hx
    ·exact hb
    ·exact ck x hx
  cases it with
  |inBlock id=>exact XB (w:=w) (fun _=>ck) (fun cs=>by rw [heq];simp only [stepG.exec,ht];simp [G]) (fun cs=>by rw [hes];simp only [stepG.exec,hts];simp [G,sfx])
  |inScope c=>exact XB (w:=w) (fun _=>ck) (fun cs=>by rw [heq];simp only [stepG.exec,ht];simp [G]) (fun cs=>by rw [hes];simp only [stepG.exec,hts];simp [G,sfx])
  |inLoop c=>exact XB (w:=w) (fun _=>two (a:=.code c) (b:=.inLoop c) cit cit) (fun cs=>by rw [heq];simp only [stepG.exec,ht];simp [G]) (fun cs=>by rw [hes];simp only [stepG.exec,hts];simp [G,sfx])
  |inRegion ops l=>
   cases l with
   |nil=>exact XB (w:=w) (fun _=>ck) (fun cs=>by rw [heq];simp only [stepG.exec,ht];simp [G]) (fun cs=>by rw [hes];simp only [stepG.exec,hts];simp [G,sfx])
   |cons i rest=>
    cases hwant:((ops[i]?).map (Region.wanted · (yielded ops fr.tmps))).getD false with
    |true=>
     obtain ⟨o,ho⟩:∃o,ops[i]?=some o:=by
      cases hx:ops[i]? with
      |none=>rw [hx] at hwant;cases hwant
      |some o=>exact ⟨o,rfl⟩
     have hpl:Yk P A fr.fn o=true:=by
      have:ops.all (Yk P A fr.fn)=true:=hit;rw [Array.all_eq_true_iff_forall_mem] at this;exact this o (Array.mem_of_getElem? ho)
     have hnd:Y0D o=false:=by
      have:(ops.all fun o=>!Y0D o)=true:=cit;rw [Array.all_eq_true_iff_forall_mem] at this;simpa using this o (Array.mem_of_getElem? ho)
     have hwant':(Option.map (fun x=>Region.wanted x (yielded ops fr.tmps)) (some o)).getD false=true:=by rw [ho] at hwant;exact hwant
     have e1:∀cs,stepG P main (G fr cs) w=stepG.apply P true fr cs none (execOp fr.eval o) w:=fun cs=>by
      rw [heq];simp only [stepG.exec,ht,stepG.oper,Frame.oper?,ho,hrd];rw [if_pos hwant']
     have e2:∀cs,stepG P main (G (sfx s fr) cs) w=stepG.apply P true (sfx s fr) cs none (execOp fr.eval o) w:=fun cs=>by
      rw [hes];simp only [stepG.exec,hts,stepG.oper,Frame.oper?,ho,hrs];exact if_pos hwant'
     have:=Y8l h hkn ht hnd (Y1V (ρ:=fr.eval) H h.slots (fun _=>rfl) hpl) hstep s w;rw [show (fun cs=>stepG P main (G fr cs) w)=fun cs=>stepG.apply P true fr cs none (execOp fr.eval o) w from funext e1,show (fun cs=>stepG P main (G (sfx s fr) cs) w)=fun cs=>stepG.apply P true (sfx s fr) cs none (execOp fr.eval o) w from funext e2];exact this
    |false=>
     have hws:((ops[i]?).map (Region.wanted · (yielded ops (sfx s fr).tmps))).getD false=false:=hwant;have hcf:∀it∈(fr.finish undef).todo,Xa it:=fun x hx=>by
      unfold Frame.finish at hx;rw [ht] at hx;exact one (a:=.inRegion ops rest) cit x hx
     have hfin:(sfx s fr).finish undef=sfx s (fr.finish undef):=by
      unfold Frame.finish;rw [hts,ht];simp [sfx]
     refine .inl ⟨fr.finish undef,w,#[],fun _=>hcf,by unfold Frame.finish;split<;>rfl,Z5 _ _,fun cs=>⟨?_,?_⟩⟩
     ·refine (heq cs).trans ?_;simp only [stepG.exec,ht,hwant];simp [G]
     ·refine (hes cs).trans ?_;simp only [stepG.exec,hts,hws,hfin];simp [G]
  |code c=>
   cases c with
   |skip=>exact XB (w:=w) (fun _=>ck) (fun cs=>by rw [heq];simp only [stepG.exec,ht];simp [G]) (fun cs=>by rw [hes];simp only [stepG.exec,hts];simp [G,sfx])
   |label l=>exact XB (w:=w) (fun _=>ck) (fun cs=>by rw [heq];simp only [stepG.exec,ht];simp [G]) (fun cs=>by rw [hes];simp only [stepG.exec,hts];simp [G,sfx])
   |seq a b=>
    have hp:Xm a=true∧Xm b=true:=by
     have:Xm (.seq a b)=true:=cit;simpa [Xm] using this
    exact XB (w:=w) (fun _=>two (a:=.code a) (b:=.code b) hp.1 hp.2) (fun cs=>by rw [heq];simp only [stepG.exec,ht];simp [G]) (fun cs=>by rw [hes];simp only [stepG.exec,hts];simp [G,sfx])
   |cond x a b=>
    have hp:Xm a=true∧Xm b=true:=by
     have:Xm (.cond x a b)=true:=cit;simpa [Xm] using this
    cases hx:fr.eval x with
    |bool bb=>
     have hxs:(sfx s fr).eval x=.bool bb:=hx;cases bb with
     |true=>exact XB (w:=w) (fun _=>one (a:=.code a) hp.1) (fun cs=>by rw [heq];simp only [stepG.exec,ht,hx];simp [G]) (fun cs=>by rw [hes];simp only [stepG.exec,hts,hxs];simp [G,sfx])
     |false=>exact XB (w:=w) (fun _=>one (a:=.code b) hp.2) (fun cs=>by rw [heq];simp only [stepG.exec,ht,hx];simp [G]) (fun cs=>by rw [hes];simp only [stepG.exec,hts,hxs];simp [G,sfx])
    |_=>exact .inr (.inr fun cs=>by show ∃o w' es,stepG P main (G fr cs) w=_;rw [heq];simp only [stepG.exec,ht,hx];exact ⟨_,_,_,rfl⟩)
   |block id c=>
    have hp:Xm c=true:=cit;exact XB (w:=w) (fun _=>two (a:=.code c) (b:=.inBlock id) hp trivial) (fun cs=>by rw [heq];simp only [stepG.exec,ht];simp [G]) (fun cs=>by rw [hes];simp only [stepG.exec,hts];simp [G,sfx])
   |loop c=>
    have hp:Xm c=true:=cit;exact XB (w:=w) (fun _=>two (a:=.code c) (b:=.inLoop c) hp hp) (fun cs=>by rw [heq];simp only [stepG.exec,ht];simp [G]) (fun cs=>by rw [hes];simp only [stepG.exec,hts];simp [G,sfx])
   |scope c=>
    have hp:Xm c=true:=cit;exact XB (w:=w) (fun _=>two (a:=.code c) (b:=.inScope c) hp hp) (fun cs=>by rw [heq];simp only [stepG.exec,ht];simp [G]) (fun cs=>by rw [hes];simp only [stepG.exec,hts];simp [G,sfx])
   |ret=>
    refine .inl ⟨{fr with mode:=.returning},w,#[],fun hc=>hc,rfl,rfl,fun cs=>⟨?_,?_⟩⟩
    ·refine (heq cs).trans ?_;simp only [stepG.exec,ht,hrd];simp [G]
    ·refine (hes cs).trans ?_;simp only [stepG.exec,hts,hrs];simp [G,sfx,ht,hrd]
   |exit id=>
    cases hx:exitTo id k with
    |some l=>exact XB (w:=w) (fun _=>Y1w hx ck) (fun cs=>by rw [heq];simp only [stepG.exec,ht,hx];simp [G]) (fun cs=>by rw [hes];simp only [stepG.exec,hts,Y28 s hx];simp [G,sfx])
    |none=>exact .inr (.inr fun cs=>by show ∃o w' es,stepG P main (G fr cs) w=_;rw [heq];simp only [stepG.exec,ht,hx,hrd];exact ⟨_,_,_,rfl⟩)
   |region id ops draw=>
    have hp:(ops.all fun o=>!Y0D o)=true:=cit;cases draw with
    |false=>exact XB (w:=w) (fun _=>one (a:=.inRegion ops (List.range ops.size)) hp) (fun cs=>by rw [heq];simp only [stepG.exec,ht];simp [G]) (fun cs=>by rw [hes];simp only [stepG.exec,hts];simp [G,sfx])
    |true=>
     obtain ⟨n,t,w',_,_,q3⟩:=Y2M P (.order fr.fn id) w;have q4:=q3 w.tape w.drawn (fun _ _=>rfl);refine .inl ⟨{fr with todo:=.inRegion ops (Region.schedule (P.follows .mixedOrders) ops t)::k},reW w' w.tape (w.drawn+n),#[],fun _=>one (a:=.inRegion ops _) hp,rfl,rfl,fun cs=>⟨?_,?_⟩⟩
     ·refine (heq cs).trans ?_;simp only [stepG.exec,ht,show (choose (.order fr.fn id)).run P w=_ from q4];simp [G]
     ·refine (hes cs).trans ?_;simp only [stepG.exec,hts,show (choose (.order (sfx s fr).fn id)).run P w=_ from q4];simp [G,sfx]
   |_=>
    exfalso;simp [Xp,YH] at hit
  |_=>exact (hit:False).elim
end
section
variable {P:Program} {A:Plan} {fr:Frame} {w:World} {Q Q':Frame→World→Prop}
structure Bot (P:Program) (A:Plan) (fr:Frame):Prop where
 ok:FrOk P A fr
 kind:fr.kind=.normal
 mode:fr.mode=.run
 defers:fr.defers=[]
 calm:∀it∈fr.todo,Xa it
theorem XH {f f':Frame} {l l':List Frame} {w w':World} {es es':Array Event} (h:GStep.go (G f l) w es=GStep.go (G f' l') w' es'):f=f'∧l=l'∧w=w'∧es=es':=by
 simp only [GStep.go.injEq,G,Goroutine.mk.injEq] at h;exact ⟨h.1.1,h.1.2.1,h.2.1,h.2.2⟩
theorem not_safe (hQ:∀fr w,Q fr w→fr.mode=.run) (h:Safe P Q fr [] w) (ho:FrOk P A fr) (hk:fr.kind=.normal) (hm:fr.mode≠.run) (hd:fr.defers=[]):False:=by
 cases h with
 |stop hq=>exact hm (hQ _ _ hq)
 |step nx ev n h1 h2 h3=>
  have e:=h2 (fun _ _=>0) 0 true [YE];rw [show ([]:List Frame)++[YE]=[YE] from rfl,Z6 hm] at e;obtain ⟨fn,hf⟩:=ho.fn;cases hmode:fr.mode with
  |run=>exact hm hmode
  |panicking chain=>
   unfold unwind at e;simp only [hd,hmode,Y0H ho] at e;have:=(XH (show GStep.go (G (YE.raise chain) []) _ #[]=_ from e)).2.1;simp at this
  |returning=>
   unfold unwind at e;simp only [hd,hmode,hf] at e;cases hr:(results fn fr.tmps).runT P (reW w (fun _ _=>0) 0) #[] with
   |mk r es=>
    rw [hr] at e;cases r with
    |ok v w'=>
     simp only [doReturn,hk,GStep.after] at e;have:=(XH (show GStep.go (G (YE.finish v) []) w' _=_ from e)).2.1;simp at this
    |halt hh w'=>
     simp only [GStep.after] at e;cases hh<;>simp at e
def At (P:Program) (A:Plan) (s:List Item) (fr:Frame) (top:List Frame) (fr₂:Frame) (top₂:List Frame):Prop:=
 (top=[]∧Bot P A fr∧sfx s fr=fr₂∧[]=top₂)∨
 (∃t1 bot,top=t1++[bot]∧FrOk P A fr∧Xy P A fr.kind t1∧Bot P A bot∧(∃ops i rest k,bot.todo=.inRegion ops (i::rest)::k)∧(∀v,FrOk P A (bot.finish v))∧fr=fr₂∧t1++[sfx s bot]=top₂)
theorem JC (w:World) (τ:Nat→Question→Nat) (d n:Nat):Agree (reW w τ d) τ d n:=fun _ _=>rfl
theorem Y70 {bot:Frame} {ops:Array Oper} {i:Nat} {rest:List Nat} {k:List Item} (hb:Bot P A bot) (ht:bot.todo=.inRegion ops (i::rest)::k) (v:Value) (ho:FrOk P A (bot.finish v)):Bot P A (bot.finish v):=by
 refine ⟨ho,(Z5 bot v).trans hb.kind,?_,?_,fun it hit=>?_⟩
 ·have:(bot.finish v).mode=bot.mode:=by unfold Frame.finish;split<;>rfl
  exact this.trans hb.mode
 ·have:(bot.finish v).defers=bot.defers:=by unfold Frame.finish;split<;>rfl
  exact this.trans hb.defers
 ·have hc:=hb.calm;unfold Frame.finish at hit;rw [ht] at hc hit;simp only [List.mem_cons] at hit;rcases hit with rfl|hit
  ·exact hc (.inRegion ops (i::rest)) List.mem_cons_self
  ·exact hc it (List.mem_cons_of_mem _ hit)
theorem Y5y {bot:Frame} {ops:Array Oper} {i:Nat} {rest:List Nat} {k:List Item} (s:List Item) (ht:bot.todo=.inRegion ops (i::rest)::k) (v:Value):(sfx s bot).finish v=sfx s (bot.finish v):=by
 have hts:(sfx s bot).todo=.inRegion ops (i::rest)::(k++s):=by show bot.todo++s=_;rw [ht];rfl
 unfold Frame.finish;rw [hts,ht];simp [sfx]
theorem Ya2 (H:X4 P A) (hstep:∀g,P.stepOf g=none) (s:List Item) (hQ:∀fr w,Q fr w→fr.mode=.run∧fr.todo=[]) (hQ':∀fr w,Q fr w→Q' (sfx s fr) w) {top:List Frame} (h:Safe P Q fr top w):
  ∀fr₂ top₂,At P A s fr top fr₂ top₂→Safe P Q' fr₂ top₂ w:=by
 induction h with
 | @stop fr w hq=>
  rintro fr₂ top₂ (⟨_,_,rfl,rfl⟩|⟨t1,bot,e,_⟩)
  ·exact .stop (hQ' _ _ hq)
  ·simp at e
 | @step fr top w nx ev n h1 h2 h3 ih=>
  rintro fr₂ top₂ (⟨rfl,hb,rfl,rfl⟩|⟨t1,bot,rfl,hf,hst,hb,⟨ops,i,rest,k,ht⟩,hfin,rfl,rfl⟩)
  ·
   refine Safe.step' fun τ d=>?_;have hn:∀fr',nx τ d=⟨fr',[],(nx τ d).w⟩→FrOk P A fr'→fr'.kind=.normal→fr'.mode≠.run→fr'.defers=[]→False:=fun fr' e ho hk hm hd=>by
    have h3':=h3 τ d;rw [e] at h3';exact not_safe (fun fr w hq=>(hQ fr w hq).1) h3' ho hk hm hd
   by_cases hne:fr.todo=[]
   ·exfalso;have e:=h2 τ d true [];rw [show ([]:List Frame)++[]=[] from rfl,Y10 hb.mode] at e;simp only [stepG.exec,hne,hb.ok.round] at e;obtain ⟨e1,e2,_,_⟩:=XH (show GStep.go (G {fr with mode:=.returning} []) _ #[]=_ from by simpa [G,hne,hb.ok.round] using e);refine hn {fr with mode:=.returning} ?_ (hb.ok.mode _) hb.kind (by simp) hb.defers;have e3:(nx τ d).top=[]:=by simpa using e2.symm
    rw [←e3,e1]
   ·have hw:∀main,Ways P fr s (fun cs=>stepG P main (G fr cs) (reW w τ d)) (fun cs=>stepG P main (G (sfx s fr) cs) (reW w τ d)):=fun main=>Y6r H hstep hb.ok hb.kind hb.mode hne hb.calm main s _;obtain ⟨n',hres⟩:=Y24 H hstep hb.ok (top:=[]) (show Xy P A fr.kind [] from hb.kind) (.inl hb.mode) (reW w τ d);rcases hres with ⟨fr1,top1,w1,es1,ho1,hs1,_,_,_,heq1⟩|hend
    rotate_left
    ·obtain ⟨o,w',es,he⟩:=hend τ d (JC w τ d n') true [];have:=h2 τ d true [];rw [show reW (reW w τ d) τ d=reW w τ d from rfl] at he;rw [he] at this;cases this
    have e1:=heq1 τ d (JC w τ d n') true [];rw [show reW (reW w τ d) τ d=reW w τ d from rfl,h2 τ d true []] at e1;obtain ⟨f1,f2,_,_⟩:=XH e1;have f2':top1=(nx τ d).top:=by simpa using f2.symm
    subst f1 f2';rcases hw true with ⟨fr',w',es,hc,hdf,hkd,hxy⟩|⟨f,args,w',es,ops,i,rest,k,ht,hxy⟩|hx
    ·
     obtain ⟨g1,g2,g3,g4⟩:=XH ((h2 τ d true []).symm.trans (hxy []).1);have htop:(nx τ d).top=[]:=by simpa using g2
     subst g1;have hrun:(nx τ d).fr.mode=.run:=by
      apply Classical.byContradiction;intro hm;exact hn (nx τ d).fr (by rw [←htop]) ho1 (hkd.trans hb.kind) hm (hdf.trans hb.defers)
     refine ⟨sfx s (nx τ d).fr,[],(nx τ d).w,ev τ d,n τ d,h1 τ d,fun main cs=>?_,ih τ d _ _ (.inl ⟨htop,⟨ho1,hkd.trans hb.kind,hrun,hdf.trans hb.defers,hc hb.calm⟩,rfl,rfl⟩)⟩;rcases hw main with ⟨fr',w',es,_,_,_,hxy⟩|⟨f,args,w',es,_,_,_,_,_,hxy⟩|hx
     ·obtain ⟨g1,g2,g3,g4⟩:=XH ((h2 τ d main cs).symm.trans (hxy cs).1);have:=(hxy cs).2;rw [←g1,←g3,←g4] at this;exact this
     ·obtain ⟨g1,g2,g3,g4⟩:=XH ((h2 τ d main cs).symm.trans (hxy cs).1);rw [htop] at g2;have:=congrArg List.length g2;simp at this
     ·obtain ⟨o,w',es,he⟩:=hx cs;have:=(h2 τ d main cs).symm.trans he;cases this
    ·
     obtain ⟨g1,g2,g3,g4⟩:=XH ((h2 τ d true []).symm.trans (hxy []).1);have htop:(nx τ d).top=[fr]:=by simpa using g2
     rw [htop] at hs1;refine ⟨(nx τ d).fr,[sfx s fr],(nx τ d).w,ev τ d,n τ d,h1 τ d,fun main cs=>?_,ih τ d _ _ (.inr ⟨[],fr,by rw [htop];rfl,ho1,by rw [g1];rfl,hb,⟨ops,i,rest,k,ht⟩,hs1.2.1 (by rw [g1];rfl),rfl,rfl⟩)⟩;rcases hw main with ⟨fr',w',es,_,_,_,hxy⟩|⟨f,args,w',es,_,_,_,_,_,hxy⟩|hx
     ·obtain ⟨g1,g2,g3,g4⟩:=XH ((h2 τ d main cs).symm.trans (hxy cs).1);rw [htop] at g2;have:=congrArg List.length g2;simp at this
     ·obtain ⟨g1,g2,g3,g4⟩:=XH ((h2 τ d main cs).symm.trans (hxy cs).1);have:=(hxy cs).2;rw [←g1,←g3,←g4] at this;exact this
     ·obtain ⟨o,w',es,he⟩:=hx cs;have:=(h2 τ d main cs).symm.trans he;cases this
    ·obtain ⟨o,w',es,he⟩:=hx [];have:=(h2 τ d true []).symm.trans he;cases this
  ·
   refine Safe.step' fun τ d=>?_;have app:∀(t:List Frame) (x:Frame) (cs:List Frame),(t++[x])++cs=t++(x::cs):=fun t x cs=>by simp
   by_cases hl:fr.mode=.run∨fr.defers≠[]∨t1≠[]
   ·obtain ⟨n',hres⟩:=Y24 H hstep hf hst hl (reW w τ d);rcases hres with ⟨fr1,top1,w1,es1,ho1,hs1,_,_,_,heq1⟩|hend
    rotate_left
    ·obtain ⟨o,w',es,he⟩:=hend τ d (JC w τ d n') true (bot::[]);have:=h2 τ d true [];rw [app,show reW w τ d=reW (reW w τ d) τ d from rfl,he] at this;cases this
    have key:(nx τ d).fr=fr1∧(nx τ d).top=top1++[bot]:=by
     have e1:=heq1 τ d (JC w τ d n') true (bot::[]);have e2:=h2 τ d true [];rw [app] at e2;obtain ⟨g1,g2,_,_⟩:=XH (e2.symm.trans e1);exact ⟨g1,by simpa using g2⟩
    obtain ⟨k1,k2⟩:=key;subst k1;refine ⟨(nx τ d).fr,top1++[sfx s bot],(nx τ d).w,ev τ d,n τ d,h1 τ d,fun main cs=>?_,ih τ d _ _ (.inr ⟨top1,bot,k2,ho1,hs1,hb,⟨ops,i,rest,k,ht⟩,hfin,rfl,rfl⟩)⟩;have e1:=heq1 τ d (JC w τ d n') main (bot::cs);have e2:=h2 τ d main cs;rw [app] at e2;obtain ⟨_,_,g3,g4⟩:=XH (e2.symm.trans e1);have e3:=heq1 τ d (JC w τ d n') main (sfx s bot::cs);rw [app,app];refine (show stepG P main (G fr (t1++sfx s bot::cs)) (reW w τ d)=_ from e3).trans ?_;rw [g3,g4]
   ·have hm:fr.mode≠.run:=fun e=>hl (.inl e);have hd:fr.defers=[]:=by
     apply Classical.byContradiction;intro e;exact hl (.inr (.inl e))
    have ht1:t1=[]:=by
     apply Classical.byContradiction;intro e;exact hl (.inr (.inr e))
    subst ht1;have hkn:fr.kind=.normal:=hst;obtain ⟨fn,hfn⟩:=hf.fn;cases hmode:fr.mode with
    |run=>exact absurd hmode hm
    |panicking chain=>
     exfalso;have e:=h2 τ d true [];rw [show ([]++[bot]:List Frame)++[]=[bot] from rfl,Z6 hm] at e;unfold unwind at e;simp only [hd,hmode,Y0H hf] at e;obtain ⟨g1,g2,_,_⟩:=XH (show GStep.go (G (bot.raise chain) []) _ #[]=_ from e);have h3':=h3 τ d;rw [←g1,show (nx τ d).top=[] by simpa using g2.symm] at h3';refine not_safe (fun fr w hq=>(hQ fr w hq).1) h3' (hb.ok.raise _) ((JO _ _).trans hb.kind) ?_ ?_
     ·unfold Frame.raise;split<;>simp
     ·have:(bot.raise chain).defers=bot.defers:=by unfold Frame.raise;split<;>rfl
      exact this.trans hb.defers
    |returning=>
     have hu:∀main (x:Frame) cs,stepG P main (G fr (x::cs)) (reW w τ d)=unwind P main fr (x::cs) none (reW w τ d):=fun main x cs=>Z6 hm _ _ _;cases hr:(results fn fr.tmps).runT P (reW w τ d) #[] with
     |mk r es=>
      cases r with
      |ok v w'=>
       have hgo:∀main (x:Frame) cs,stepG P main (G fr (x::cs)) (reW w τ d)=.go (G (x.finish v) cs) w' (seen P fr.fn es):=fun main x cs=>by
        rw [hu];unfold unwind;simp only [hd,hmode,hfn,hr,doReturn,hkn,GStep.after];simp [G]
       have e:=h2 τ d true [];obtain ⟨g1,g2,g3,g4⟩:=XH (e.symm.trans (hgo true bot []));have htop:(nx τ d).top=[]:=by simpa using g2
       refine ⟨sfx s (bot.finish v),[],(nx τ d).w,ev τ d,n τ d,h1 τ d,fun main cs=>?_,?_⟩
       ·show stepG P main (G fr (sfx s bot::cs)) _=_;rw [hgo,Y5y s ht,g3,g4];rfl
       ·refine ih τ d _ _ (.inl ⟨htop,?_,by rw [g1],rfl⟩);rw [g1];exact Y70 hb ht v (hfin v)
      |halt hh w'=>
       exfalso;have e:=h2 τ d true [];rw [show ([]++[bot]:List Frame)++[]=[bot] from rfl,hu] at e;unfold unwind at e;simp only [hd,hmode,hfn,hr,GStep.after] at e;cases hh<;>simp at e
theorem Y3.of_safe {Post:Goroutine→World→Prop} {cs:List Frame} (h:Safe P Q fr [] w) (hp:∀fr' w' d',Q fr' w'→Y3 P Post (G fr' cs) (reW w' w.tape d')):Y3 P Post (G fr cs) w:=by
 intro gs sl t q d h0 hL hP;obtain ⟨N,gs',fr',w',d',sl',t',q',h1,h2,h3,h4,h5,h6⟩:=Y2s h gs sl t q cs w.tape d h0 hL hP;obtain ⟨M,gs2,a2,w2,sl2,t2,q2,k1,k2,k3⟩:=hp fr' w' d' h4 gs' sl' t' q' d' h3 h5 h6;exact ⟨N+M,gs2,a2,w2,sl2,t2,q2,Y0i (show runNT P N (crowd gs (w.at d) sl) t=_ from h1) k1,by omega,k3⟩
theorem Y3.piece (H:X4 P A) (hstep:∀g,P.stepOf g=none) {c:Code} {Qn:Act→World→Prop} {a:Act} {b:Frame} {k:List Item} {cs:List Frame} {Post:Goroutine→World→Prop}
  (hp:YH P A b.fn c=true) (hc:Xm c=true) (hfn:∃fn,P.funcs[b.fn]?=some fn) (hkind:b.kind=.normal) (hslots:Xv A b.fn (fun t=>a.tmps.getD t undef)) (hd:a.defers=[])
  (hwp:∀τ,c.wp P (fun e a' w'=>e=.normal∧Qn a' w') a (reW w τ 0))
  (hpost:∀a' w' τ' d' d,Qn a' (reW w' τ' d')→Y3 P Post (G (b.at a' k) cs) (reW w' w.tape d)):Y3 P Post (G (b.at a (.code c::k)) cs) w:=by
 have hok:FrOk P A (b.at a [.code c]):=⟨hfn,rfl,.inl hkind,fun it hit=>by
  have:it=.code c:=by simpa [Frame.at] using hit
  subst this;exact hp,hslots,fun d hdd=>by
  have:d∈a.defers:=hdd;rw [hd] at this;cases this⟩
 have hS:Safe P (fun fr w=>∃τ d a',fr=b.at a' []∧Qn a' (reW w τ d)) (b.at a [.code c]) [] w:=by
  refine Y2G (x:=⟨b.at a [.code c],[],w⟩) H hstep ⟨hok,hkind⟩ (fun _ fr w=>∃a',fr=b.at a' []∧Qn a' w) (fun τ fr w d ⟨a',e,h⟩=>⟨τ,d,a',e,h⟩) fun τ=>?_;obtain ⟨e,a',w',⟨rfl,hq⟩,N,hN⟩:=hwp τ b [] [YE];exact ⟨N,b.at a' [],w',hN,a',rfl,hq⟩
 have hS':=Ya2 (Q':=fun fr w=>∃τ d a',fr=b.at a' k∧Qn a' (reW w τ d)) H hstep k (fun fr w ⟨τ,d,a',e,_⟩=>by rw [e];exact ⟨rfl,rfl⟩) (fun fr w ⟨τ,d,a',e,h⟩=>⟨τ,d,a',by rw [e];rfl,h⟩) hS _ _
  (.inl ⟨rfl,⟨hok,hkind,rfl,hd,fun it hit=>by
   have:it=.code c:=by simpa [Frame.at] using hit
   subst this;exact hc⟩,rfl,rfl⟩)
 exact Y3.of_safe (fr:=sfx k (b.at a [.code c])) hS' fun fr' w' d' ⟨τ,dd,a',e,h⟩=>by
  rw [e];exact hpost a' w' τ dd d' h
end
section
variable {P:Program} {A:Plan} {fr:Frame} {w:World} {Q Q':Frame→World→Prop} {opsA opsB:Array Oper} {tail:List Nat} {s:List Item}
def Alike (opsA opsB:Array Oper):Prop:=∀(i:Nat) (o:Oper),opsA[i]?=some o→opsB[i]?=some o∧∀tmps,Region.wanted o (yielded opsB tmps)=Region.wanted o (yielded opsA tmps)
end
end Go.Proofs.YtdoghgnifkgfdaaGreat.Mute
