import Derived.Conc.Beside
import Derived.RunT
import Derived.Conc.TokenTrace
import Derived.Conc.Token
import Derived.Conc.CrowdComm
import Derived.Test.YtdoghgnifkgfdaaGreatP03
set_option maxRecDepth 100000
set_option maxHeartbeats 16000000
namespace Go.Proofs.YtdoghgnifkgfdaaGreat.Mute
open Go Go.Conc
open Go.ConcN (sumTo upd sumTo_upd upd_ne upd_same)
structure YL (t:Trace):Prop where
 clean:∀said,¬Race said t
 known:∀i a,touchAt t i=some a→a.loc.isMemory=true→Knows t 0 i
 over:t.HandedOver
 hears:Deaf t 0=0
theorem Ybe:YL #[]:=⟨past_nil.clean,fun i a ha=>by simp [touchAt,Trace.act?] at ha,past_nil.over,rfl⟩
section
variable {P:Program} {t u:Trace}
theorem YL.app0 (h:YL t) (hu:∀op∈u,op.g=0) (hd:Deaf (t++u) 0=Deaf t 0):YL (t++u):=by
 refine ⟨fun said=>noRace_append (h.clean said) hu fun i a ha op hop b hb hc=>h.known i a ha hc.2.1,fun i a ha hm=>?_,handedOver_app h.over fun op hop=>.inl (hu op hop),hd.trans h.hears⟩;obtain ⟨x,hx,hxa⟩:=touch_of ha;rcases getElem?_append_cases hx with ⟨_,hx'⟩|⟨_,hxu⟩
 ·exact (h.known i a (by rw [touchAt_of hx'];exact hxa) hm).app u
 ·have:=knows_own hx;rw [hu x hxu] at this;exact this
theorem YL.own (h:YL t) {fn:FuncId} {pos:String} {es:Array Event} (hes:∀e∈es,EvOk e):YL (t++MemOp.ofEvents 0 fn pos es):=by
 refine h.app0 (fun op hop=>by obtain ⟨e,_,rfl⟩:=Go.Conc.mem_ofEvents hop;rfl) ?_;rw [Deaf_own];exact deafBehind_still (fun e he=>hes e he) _
theorem YL.mute (h:YL t) {g:Nat} (hg:g≠0) {fn:FuncId} {pos:String} {es:Array Event} (hm:∀e∈es,e.mute=true):YL (t++MemOp.ofEvents g fn pos es):=by
 have hu:∀op∈MemOp.ofEvents g fn pos es,op.g=g:=fun op hop=>by obtain ⟨e,_,rfl⟩:=Go.Conc.mem_ofEvents hop;rfl
 have hn:∀op∈MemOp.ofEvents g fn pos es,op.act.touch?=none:=fun op hop=>by obtain ⟨e,he,rfl⟩:=Go.Conc.mem_ofEvents hop;exact touch_mute (hm e he)
 refine ⟨fun said=>noRace_append (h.clean said) hu fun i a _ op hop b hb _=>(by rw [hn op hop] at hb;cases hb),fun i a ha hma=>?_,handedOver_app h.over fun op hop=>.inr (hn op hop),(Deaf_other t hg _ hu).trans h.hears⟩;obtain ⟨x,hx,hxa⟩:=touch_of ha;rcases getElem?_append_cases hx with ⟨_,hx'⟩|⟨_,hxu⟩
 ·exact (h.known i a (by rw [touchAt_of hx'];exact hxa) hma).app _
 ·rw [hn x hxu] at hxa;cases hxa
end
section
variable {P:Program} {Q:Frame→World→Prop}
theorem Y2s {fr:Frame} {top:List Frame} {w:World} (h:Safe P Q fr top w):∀(gs:Array Goroutine) (sl:Option (Nat×Nat)) (t:Trace) (q:Nat→Nat) (cs:List Frame) (τ:Nat→Question→Nat) (d:Nat),
  gs[0]?=some (G fr (top++cs))→Leavers P t gs q→YL t→
  ∃N gs' fr' w' d' sl' t' q',runNT P N (crowd gs (reW w τ d) sl) t=(.next (crowd gs' (reW w' τ d') sl'),t')∧gs'.size=gs.size∧gs'[0]?=some (G fr' cs)∧Q fr' w'∧Leavers P t' gs' q'∧YL t':=by
 induction h with
 |stop hq=>exact fun gs sl t q cs τ d h0 hL hP=>⟨0,gs,_,_,d,sl,t,q,rfl,rfl,h0,hq,hL,hP⟩
 | @step fr top w nx ev n h1 h2 h3 ih=>
  intro gs sl t q cs τ d;have inner:∀(M:Nat) (gs:Array Goroutine) (sl:Option (Nat×Nat)) (t:Trace) (q:Nat→Nat) (d:Nat),sumTo gs.size q=M→gs[0]?=some (G fr (top++cs))→Leavers P t gs q→YL t→
    ∃N gs' fr' w' d' sl' t' q',runNT P N (crowd gs (reW w τ d) sl) t=(.next (crowd gs' (reW w' τ d') sl'),t')∧gs'.size=gs.size∧gs'[0]?=some (G fr' cs)∧Q fr' w'∧Leavers P t' gs' q'∧YL t':=by
   intro M;induction M using Nat.strongRecOn with
   |_ M ihM=>
    intro gs sl t q d hM h0 hL hP;have hrun:(G fr (top++cs)).status=.running:=rfl;have haw:∀g∈gs,awake g:=by
     intro g hg;obtain ⟨i,hi,rfl⟩:=Array.mem_iff_getElem.1 hg;rcases Nat.eq_zero_or_pos i with rfl|hpos
     ·have:gs[0]=G fr (top++cs):=by simpa [Array.getElem?_eq_getElem hi] using h0
      rw [this];exact awake_of (.inl hrun)
     ·exact awake_of ((hL.old i _ hpos (Array.getElem?_eq_getElem hi)).status.elim .inl fun x=>.inr (.inr x))
    obtain ⟨i,g,dd,sl',hi,hg,hst⟩:=crowd_pick (P:=P) (w:=reW w τ d) (sl:=sl) haw ⟨0,_,h0,hrun⟩;have eat:(reW w τ d).at dd=reW w τ dd:=rfl;rw [eat] at hst;rcases Nat.eq_zero_or_pos i with rfl|hpos
    ·obtain rfl:g=G fr (top++cs):=by rw [h0] at hi;exact (Option.some.inj hi).symm
     have hgo:=h2 τ dd true cs;have hrunT:=runT_crowd_go (P:=P) (sl:=sl') (i:=0) hi (show stepG P (0==0) (G fr (top++cs)) (reW w τ dd)=_ from hgo);have hsz:((gs.map (woken P (G fr (top++cs)) (G (nx τ dd).fr ((nx τ dd).top++cs)) (reW (nx τ dd).w τ (dd+n τ dd)))).setIfInBounds 0 (G (nx τ dd).fr ((nx τ dd).top++cs))).size=gs.size:=by simp
     have hlt:0<gs.size:=(Array.getElem?_eq_some_iff.1 h0).1;obtain ⟨N,gs',fr',w',d',sl'',t',q',hr,hs',h0',hS,hL',hP'⟩:=ih τ dd ((gs.map (woken P (G fr (top++cs)) (G (nx τ dd).fr ((nx τ dd).top++cs)) (reW (nx τ dd).w τ (dd+n τ dd)))).setIfInBounds 0 (G (nx τ dd).fr ((nx τ dd).top++cs))) sl' (t++MemOp.ofEvents 0 (G fr (top++cs)).frame.fn (G fr (top++cs)).frame.place (ev τ dd)) q cs τ (dd+n τ dd) (by simp [hlt])
      ⟨fun j x hj hx=>by
       have hne:0≠j:=by omega
       rw [Array.getElem?_setIfInBounds_ne hne,Array.getElem?_map] at hx;obtain ⟨y,hy,rfl⟩:=Option.map_eq_some_iff.1 hx;have hq:=hL.old j y hj hy;rw [woken_quitsD hq,Deaf_other t (by omega) _ (fun op hop=>by obtain ⟨e,_,rfl⟩:=Go.Conc.mem_ofEvents hop;rfl)];exact hq,fun j hj=>by
       rw [Deaf_other t (g':=0) (by simp at hj;omega) _ (fun op hop=>by obtain ⟨e,_,rfl⟩:=Go.Conc.mem_ofEvents hop;rfl)];exact hL.above j (by simpa using hj)⟩
      (hP.own (h1 τ dd))
     exact ⟨N+1,gs',fr',w',d',sl'',t',q',by simp only [runNT,hst,hrunT];exact hr,hs'.trans hsz,h0',hS,hL',hP'⟩
    ·have hq:=hL.old i g hpos hi;have hi0:(i==0)=false:=by simp;omega
     have hlt:i<gs.size:=(Array.getElem?_eq_some_iff.1 hi).1;cases hqi:q i with
     |zero=>rw [hqi] at hq;rw [hq.1] at hg;cases hg
     |succ k=>
      rw [hqi] at hq;rcases hq with ⟨hf,_⟩|⟨_,g',es,hm,hstp,hq'⟩
      ·rw [hf] at hg;cases hg
      have hrunT:=runT_crowd_go (P:=P) (sl:=sl') (i:=i) hi (by rw [hi0];exact hstp (reW w τ dd));have hsz:((gs.map (woken P g g' (reW w τ dd))).setIfInBounds i g').size=gs.size:=by simp
      have hsum:sumTo gs.size (upd q i k)+(k+1)=sumTo gs.size q+k:=by
       have:=sumTo_upd q k id hlt;simpa [hqi] using this
      obtain ⟨N,gs',fr',w',d',sl'',t',q',hr,hs',h0',hS,hL',hP'⟩:=ihM (sumTo gs.size (upd q i k)) (by omega) ((gs.map (woken P g g' (reW w τ dd))).setIfInBounds i g') sl' (t++MemOp.ofEvents i g.frame.fn g.frame.place es) (upd q i k) dd (by rw [hsz])
       (by
        have hne:i≠0:=by omega
        rw [Array.getElem?_setIfInBounds_ne hne,Array.getElem?_map,h0];simp [woken_run hrun])
       ⟨fun j x hj hx=>by
        by_cases hji:i=j
        ·subst hji;rw [Array.getElem?_setIfInBounds_self_of_lt (by simpa using hlt)] at hx;obtain rfl:=Option.some.inj hx;rw [upd_same,Deaf_own];exact hq'
        ·rw [Array.getElem?_setIfInBounds_ne hji,Array.getElem?_map] at hx;obtain ⟨y,hy,rfl⟩:=Option.map_eq_some_iff.1 hx;have hqj:=hL.old j y hj hy;rw [woken_quitsD hqj,upd_ne q k (Ne.symm hji),Deaf_other t hji _ (fun op hop=>by obtain ⟨e,_,rfl⟩:=Go.Conc.mem_ofEvents hop;rfl)];exact hqj,fun j hj=>by
        rw [Deaf_other t (g':=i) (by simp at hj;omega) _ (fun op hop=>by obtain ⟨e,_,rfl⟩:=Go.Conc.mem_ofEvents hop;rfl)];exact hL.above j (by simpa using hj)⟩
       (hP.mute (by omega) hm)
      exact ⟨N+1,gs',fr',w',d',sl'',t',q',by simp only [runNT,hst,hrunT];exact hr,hs'.trans hsz,h0',hS,hL',hP'⟩
  exact inner _ gs sl t q d rfl
variable {A:Plan}
theorem Ybm (H:X4 P A) (hstep:∀g,P.stepOf g=none) {f:FuncId} {args:Array Value} {w:World} (hen:Xn P A f args) (R:World→Ending→World→Prop)
  (hc:∀τ,Calls P f args (reW w τ 0) (R (reW w τ 0))) (hno:∀a b,¬R a .outgrown b):
  Safe P (fun fr w'=>∃τ d' e,R (reW w τ 0) e (reW w' τ d')∧fr.fn=f∧fr.leaving P (reW w' τ d') e) (Frame.enter P f args .normal) [] w:=by
 refine Y2G (x:=⟨Frame.enter P f args .normal,[],w⟩) H hstep ⟨hen.frame H (.inl rfl),rfl⟩
  (fun τ fr' w'=>∃e,R (reW w τ 0) e w'∧fr'.fn=f∧fr'.leaving P w' e) (fun τ fr w' d ⟨e,h⟩=>⟨τ,d,e,h⟩) fun τ=>?_
 obtain ⟨e,w',fr',hR,hcm,hf,hl⟩:=hc τ [YE];cases e with
 |outgrown=>exact absurd hR (hno _ _)
 |returned v=>
  obtain ⟨N,hN⟩:=hcm;exact ⟨N,fr',w',hN,_,hR,hf,hl⟩
 |panicked c=>
  obtain ⟨N,hN⟩:=hcm;exact ⟨N,fr',w',hN,_,hR,hf,hl⟩
theorem Y6V (w:World) (τ τ':Nat→Question→Nat) (d d':Nat):reW (reW w τ d) τ' d'=reW w τ' d':=rfl
theorem Y6L {fr:Frame} {w:World} {e:Ending} {τ:Nat→Question→Nat} {d:Nat} (h:fr.leaving P (reW w τ d) e) (τ':Nat→Question→Nat) (d':Nat):fr.leaving P (reW w τ' d') e:=by
 cases e with
 |outgrown=>trivial
 |panicked c=>exact h
 |returned v=>
  obtain ⟨h1,h2,h3,fn,hf,hr⟩:=h;refine ⟨h1,h2,h3,fn,hf,?_⟩;have ho:=Y0c (P:=P) fn fr.tmps;obtain ⟨n,l1,l2,l3⟩:=Y0v P _ (reW w τ d) #[] ho;have e0:((results fn fr.tmps).runT P (reW w τ d) #[]).1=.ok v (reW w τ d):=by rw [Sem.runT_fst];exact hr
  rw [e0] at l1 l2 l3;have hn:n=0:=by
   have:d=d+n:=l2;omega
  subst hn;have:=l3 τ' d' (fun k hk=>absurd hk (by omega));rw [Y6V] at this;rw [←Sem.runT_fst P _ _ #[],this];rfl
def Y2O (P:Program) (f:FuncId) (args:Array Value) (w:World) (R:Ending→World→Prop):Prop:=
 ∀(gs:Array Goroutine) (sl:Option (Nat×Nat)) (t:Trace) (q:Nat→Nat) (cs:List Frame) (τ:Nat→Question→Nat) (d:Nat),
  gs[0]?=some (G (Frame.enter P f args .normal) cs)→Leavers P t gs q→YL t→
  ∃N gs' fr' w' d' sl' t' q' e,runNT P N (crowd gs (reW w τ d) sl) t=(.next (crowd gs' (reW w' τ d') sl'),t')∧gs.size≤gs'.size∧gs'[0]?=some (G fr' cs)∧fr'.fn=f∧(∀τ d,fr'.leaving P (reW w' τ d) e)∧R e w'∧Leavers P t' gs' q'∧YL t'
theorem Y8B (H:X4 P A) (hstep:∀g,P.stepOf g=none) {f:FuncId} {args:Array Value} {w:World} (hen:Xn P A f args) (R:World→Ending→World→Prop)
  (hc:∀τ,Calls P f args (reW w τ 0) (R (reW w τ 0))) (hno:∀a b,¬R a .outgrown b):Y2O P f args w (fun e w'=>∃τ d',R (reW w τ 0) e (reW w' τ d')):=by
 intro gs sl t q cs τ d h0 hL hP;obtain ⟨N,gs',fr',w',d',sl',t',q',hr,hs,h0',⟨τ',dd,e,hR,hf,hl⟩,hL',hP'⟩:=Y2s (Ybm H hstep hen R hc hno) gs sl t q cs τ d h0 hL hP;exact ⟨N,gs',fr',w',d',sl',t',q',e,hr,by omega,h0',hf,fun τ₁ d₁=>Y6L hl τ₁ d₁,⟨τ',dd,hR⟩,hL',hP'⟩
end
structure X9 (k:Nat) (S M:Touch→Prop) (t:Trace):Prop where
 clean:∀said,¬Race said t
 k0:∀i a,touchAt t i=some a→a.loc.isMemory=true→Knows t 0 i∨(Knows t k i∧S a)
 kk:∀i a,touchAt t i=some a→a.loc.isMemory=true→Knows t k i∨(Knows t 0 i∧M a)
 h0:Deaf t 0=0
 hk:Deaf t k=0
def Apart (S M:Touch→Prop):Prop:=∀a b,S a→M b→a.loc=b.loc→a.write=false∧b.write=false
structure PastS (c pc:Nat) (S:Touch→Prop) (t:Trace):Prop where
 clean:∀said,¬Race said t
 known:∀i a,touchAt t i=some a→a.loc.isMemory=true→Knows t 0 i∨(Before t i pc∧S a)
 close:t.act? pc=some (.close c)
 heard:t.heard pc
 h0:Deaf t 0=0
section
variable {k c pc:Nat} {S M S' M':Touch→Prop} {t u:Trace}
theorem X9.mono (h:X9 k S M t) (hS:∀a,S a→S' a) (hM:∀a,M a→M' a):X9 k S' M' t:=
 ⟨h.clean,fun i a x y=>(h.k0 i a x y).imp id fun z=>⟨z.1,hS a z.2⟩,fun i a x y=>(h.kk i a x y).imp id fun z=>⟨z.1,hM a z.2⟩,h.h0,h.hk⟩
theorem PastS.mono (h:PastS c pc S t) (hS:∀a,S a→S' a):PastS c pc S' t:=⟨h.clean,fun i a x y=>(h.known i a x y).imp id fun z=>⟨z.1,hS a z.2⟩,h.close,h.heard,h.h0⟩
theorem X9.own0 (h:X9 k S M t) (hk:k≠0) (ap:Apart S M) {fn:FuncId} {pos:String} {es:Array Event} (hes:∀e∈es,EvOk e) (hM:∀e∈es,∀x,(MemAct.ofEvent e).touch?=some x→x.loc.isMemory=true→M x):
  X9 k S M (t++MemOp.ofEvents 0 fn pos es):=by
 have hu:∀op∈MemOp.ofEvents 0 fn pos es,op.g=0:=fun op hop=>by obtain ⟨e,_,rfl⟩:=Go.Conc.mem_ofEvents hop;rfl
 have hMu:∀op∈MemOp.ofEvents 0 fn pos es,∀x,op.act.touch?=some x→x.loc.isMemory=true→M x:=fun op hop=>by obtain ⟨e,he,rfl⟩:=Go.Conc.mem_ofEvents hop;exact hM e he
 have hd0:Deaf (t++MemOp.ofEvents 0 fn pos es) 0=Deaf t 0:=by rw [Deaf_own];exact deafBehind_still (fun e he=>hes e he) _
 refine ⟨fun said=>noRace_append (h.clean said) hu fun i a ha op hop b hb hc=>?_,fun i a ha hm=>?_,fun i a ha hm=>?_,hd0.trans h.h0,(Deaf_other t (Ne.symm hk) _ hu).trans h.hk⟩
 ·rcases h.k0 i a ha hc.2.1 with hkn|⟨_,hS⟩
  ·exact hkn
  ·have:=ap a b hS (hMu op hop b hb (by rw [←hc.1];exact hc.2.1)) hc.1;rcases hc.2.2.1 with hw|hw
   ·rw [this.1] at hw;cases hw
   ·rw [this.2] at hw;cases hw
 ·obtain ⟨x,hx,hxa⟩:=touch_of ha;rcases getElem?_append_cases hx with ⟨_,hx'⟩|⟨_,hxu⟩
  ·exact (h.k0 i a (by rw [touchAt_of hx'];exact hxa) hm).imp (·.app _) fun z=>⟨z.1.app _,z.2⟩
  ·have:=knows_own hx;rw [hu x hxu] at this;exact .inl this
 ·obtain ⟨x,hx,hxa⟩:=touch_of ha;rcases getElem?_append_cases hx with ⟨_,hx'⟩|⟨_,hxu⟩
  ·exact (h.kk i a (by rw [touchAt_of hx'];exact hxa) hm).imp (·.app _) fun z=>⟨z.1.app _,z.2⟩
  ·have:=knows_own hx;rw [hu x hxu] at this;exact .inr ⟨this,hMu x hxu a hxa hm⟩
theorem X9.ownk (h:X9 k S M t) (hk:k≠0) (ap:Apart S M) {fn:FuncId} {pos:String} {es:Array Event} (hes:∀e∈es,EvOk e) (hS:∀e∈es,∀x,(MemAct.ofEvent e).touch?=some x→x.loc.isMemory=true→S x):
  X9 k S M (t++MemOp.ofEvents k fn pos es):=by
 have hu:∀op∈MemOp.ofEvents k fn pos es,op.g=k:=fun op hop=>by obtain ⟨e,_,rfl⟩:=Go.Conc.mem_ofEvents hop;rfl
 have hSu:∀op∈MemOp.ofEvents k fn pos es,∀x,op.act.touch?=some x→x.loc.isMemory=true→S x:=fun op hop=>by obtain ⟨e,he,rfl⟩:=Go.Conc.mem_ofEvents hop;exact hS e he
 have hdk:Deaf (t++MemOp.ofEvents k fn pos es) k=Deaf t k:=by rw [Deaf_own];exact deafBehind_still (fun e he=>hes e he) _
 refine ⟨fun said=>noRace_append (h.clean said) hu fun i a ha op hop b hb hc=>?_,fun i a ha hm=>?_,fun i a ha hm=>?_,(Deaf_other t hk _ hu).trans h.h0,hdk.trans h.hk⟩
 ·rcases h.kk i a ha hc.2.1 with hkn|⟨_,hM⟩
  ·exact hkn
  ·have:=ap b a (hSu op hop b hb (by rw [←hc.1];exact hc.2.1)) hM hc.1.symm;rcases hc.2.2.1 with hw|hw
   ·rw [this.2] at hw;cases hw
   ·rw [this.1] at hw;cases hw
 ·obtain ⟨x,hx,hxa⟩:=touch_of ha;rcases getElem?_append_cases hx with ⟨_,hx'⟩|⟨_,hxu⟩
  ·exact (h.k0 i a (by rw [touchAt_of hx'];exact hxa) hm).imp (·.app _) fun z=>⟨z.1.app _,z.2⟩
  ·have:=knows_own hx;rw [hu x hxu] at this;exact .inr ⟨this,hSu x hxu a hxa hm⟩
 ·obtain ⟨x,hx,hxa⟩:=touch_of ha;rcases getElem?_append_cases hx with ⟨_,hx'⟩|⟨_,hxu⟩
  ·exact (h.kk i a (by rw [touchAt_of hx'];exact hxa) hm).imp (·.app _) fun z=>⟨z.1.app _,z.2⟩
  ·have:=knows_own hx;rw [hu x hxu] at this;exact .inl this
theorem X9.mutes (h:X9 k S M t) (hn:∀op∈u,op.act.touch?=none) (hd0:Deaf (t++u) 0=Deaf t 0) (hdk:Deaf (t++u) k=Deaf t k):X9 k S M (t++u):=by
 refine ⟨fun said=>noRace_appendMute (h.clean said) hn,fun i a ha hm=>?_,fun i a ha hm=>?_,hd0.trans h.h0,hdk.trans h.hk⟩
 all_goals
  obtain ⟨x,hx,hxa⟩:=touch_of ha;rcases getElem?_append_cases hx with ⟨_,hx'⟩|⟨_,hxu⟩
 ·exact (h.k0 i a (by rw [touchAt_of hx'];exact hxa) hm).imp (·.app _) fun z=>⟨z.1.app _,z.2⟩
 ·rw [hn x hxu] at hxa;cases hxa
 ·exact (h.kk i a (by rw [touchAt_of hx'];exact hxa) hm).imp (·.app _) fun z=>⟨z.1.app _,z.2⟩
 ·rw [hn x hxu] at hxa;cases hxa
theorem X9.fork (h:YL t) (hk0:Deaf t k=0) (f0:FuncId) (p0:String) (fc:FuncId):X9 k S M (t++#[{g:=0,fn:=f0,pos:=p0,act:=.go k},{g:=k,fn:=fc,pos:=p0,act:=.start}]):=by
 generalize hu:(#[{g:=0,fn:=f0,pos:=p0,act:=.go k},{g:=k,fn:=fc,pos:=p0,act:=.start}]:Trace)=u;have hn:∀op∈u,op.act.touch?=none:=by
  intro op hop;subst hu;simp only [List.mem_toArray,List.mem_cons,List.not_mem_nil,or_false] at hop;rcases hop with rfl|rfl<;>rfl
 have hq:∀g,∀op∈u,∀d,deafStep g d op=d:=by
  intro g op hop d;subst hu;simp only [List.mem_toArray,List.mem_cons,List.not_mem_nil,or_false] at hop;rcases hop with rfl|rfl<;>rfl
 have e0:(t++u)[t.size]?=some {g:=0,fn:=f0,pos:=p0,act:=.go k}:=by subst hu;simp
 have e1:(t++u)[t.size+1]?=some {g:=k,fn:=fc,pos:=p0,act:=.start}:=by subst hu;simp
 have edge:HappensBefore (t++u) t.size (t.size+1):=
  Relation.TransGen.single (.inr ⟨.spawn (act?_of e0) (act?_of e1) (g?_of e1),⟨0,g?_of e0,by rw [deaf_old (Nat.le_refl _)];exact h.hears⟩,⟨k,g?_of e1,by rw [deaf_quiet (hq k) 1 (by subst hu;simp)];exact hk0⟩⟩)
 refine ⟨fun said=>noRace_appendMute (h.clean said) hn,fun i a ha hm=>?_,fun i a ha hm=>?_,(Deaf_quiet (hq 0)).trans h.hears,(Deaf_quiet (hq k)).trans hk0⟩
 all_goals
  obtain ⟨x,hx,hxa⟩:=touch_of ha;rcases getElem?_append_cases hx with ⟨_,hx'⟩|⟨_,hxu⟩
 ·exact .inl ((h.known i a (by rw [touchAt_of hx'];exact hxa) hm).app _)
 ·rw [hn x hxu] at hxa;cases hxa
 ·exact .inl ⟨t.size+1,_,e1,rfl,.inr (((h.known i a (by rw [touchAt_of hx'];exact hxa) hm).hb_new (Nat.le_refl _) e0 rfl).trans edge)⟩
 ·rw [hn x hxu] at hxa;cases hxa
theorem X9.shut (h:X9 k S M t) (hk:k≠0) (ap:Apart S M) (fn:FuncId) (pos:String) (c:Nat) (hS:S ⟨.obj c,false,.atomic⟩):PastS c (t.size+1) S (t++MemOp.ofEvents k fn pos (closeEvents c)):=by
 have hes:∀e∈closeEvents c,EvOk e:=fun e he=>by
  simp only [closeEvents,List.mem_toArray,List.mem_cons,List.not_mem_nil,or_false] at he;rcases he with rfl|rfl<;>exact Y1u _ _ _
 have hSe:∀e∈closeEvents c,∀x,(MemAct.ofEvent e).touch?=some x→x.loc.isMemory=true→S x:=fun e he x hx _=>by
  simp only [closeEvents,List.mem_toArray,List.mem_cons,List.not_mem_nil,or_false] at he;rcases he with rfl|rfl
  ·simp only [MemAct.ofEvent,MemAct.touch?,Option.some.injEq] at hx;subst hx;exact hS
  ·simp [MemAct.ofEvent,MemAct.touch?] at hx
 have h':=h.ownk hk ap (fn:=fn) (pos:=pos) hes hSe;have hm:(t++MemOp.ofEvents k fn pos (closeEvents c))[t.size+1]?=some {g:=k,fn:=fn,pos:=pos,act:=.close c}:=by rw [at_new,closeOps];rfl
 have hsz:(t++MemOp.ofEvents k fn pos (closeEvents c)).size=t.size+2:=by rw [closeOps];simp
 refine ⟨h'.clean,fun i a ha hmem=>?_,by rw [act?_of hm],⟨k,g?_of hm,?_⟩,h'.h0⟩
 ·rcases h'.k0 i a ha hmem with hkn|⟨⟨q,z,hq,hz,hb⟩,hSa⟩
  ·exact .inl hkn
  ·refine .inr ⟨hb.trans ?_,hSa⟩;have hqm:q≤t.size+1:=by have:=lt_size_of_getElem? hq;omega
   rcases Nat.lt_or_ge q (t.size+1) with hlt|hge
   ·exact .inr (hb_po hlt hq hm (by rw [hz]))
   ·exact .inl (by omega)
 ·have hq:∀op∈MemOp.ofEvents k fn pos (closeEvents c),∀d,deafStep k d op=d:=fun op hop d=>by
   rw [closeOps] at hop;simp only [List.mem_toArray,List.mem_cons,List.not_mem_nil,or_false] at hop;rcases hop with rfl|rfl<;>rfl
  rw [deaf_quiet hq 1 (by rw [closeOps];simp)];exact h.hk
theorem PastS.keep (h:PastS c pc S t):(t++u).act? pc=some (.close c)∧(t++u).heard pc:=by
 obtain ⟨z,hz,_⟩:=Option.map_eq_some_iff.1 (show (t[pc]?).map (·.act)=some (.close c) from h.close);have hlt:=lt_size_of_getElem? hz;obtain ⟨g',hg',hd'⟩:=h.heard;exact ⟨by simpa [Trace.act?,getElem?_append_old hlt] using h.close,g',by rw [g?_old hlt];exact hg',by rw [deaf_old (Nat.le_of_lt hlt)];exact hd'⟩
theorem PastS.own0 (h:PastS c pc S t) (ap:Apart S M) {fn:FuncId} {pos:String} {es:Array Event} (hes:∀e∈es,EvOk e) (hM:∀e∈es,∀x,(MemAct.ofEvent e).touch?=some x→x.loc.isMemory=true→M x):
  PastS c pc S (t++MemOp.ofEvents 0 fn pos es):=by
 have hu:∀op∈MemOp.ofEvents 0 fn pos es,op.g=0:=fun op hop=>by obtain ⟨e,_,rfl⟩:=Go.Conc.mem_ofEvents hop;rfl
 have hMu:∀op∈MemOp.ofEvents 0 fn pos es,∀x,op.act.touch?=some x→x.loc.isMemory=true→M x:=fun op hop=>by obtain ⟨e,he,rfl⟩:=Go.Conc.mem_ofEvents hop;exact hM e he
 have hd0:Deaf (t++MemOp.ofEvents 0 fn pos es) 0=Deaf t 0:=by rw [Deaf_own];exact deafBehind_still (fun e he=>hes e he) _
 refine ⟨fun said=>noRace_append (h.clean said) hu fun i a ha op hop b hb hc=>?_,fun i a ha hm=>?_,h.keep.1,h.keep.2,hd0.trans h.h0⟩
 ·rcases h.known i a ha hc.2.1 with hkn|⟨_,hS⟩
  ·exact hkn
  ·have:=ap a b hS (hMu op hop b hb (by rw [←hc.1];exact hc.2.1)) hc.1;rcases hc.2.2.1 with hw|hw
   ·rw [this.1] at hw;cases hw
   ·rw [this.2] at hw;cases hw
 ·obtain ⟨x,hx,hxa⟩:=touch_of ha;rcases getElem?_append_cases hx with ⟨_,hx'⟩|⟨_,hxu⟩
  ·exact (h.known i a (by rw [touchAt_of hx'];exact hxa) hm).imp (·.app _) fun z=>⟨z.1.app _,z.2⟩
  ·have:=knows_own hx;rw [hu x hxu] at this;exact .inl this
theorem PastS.mutes (h:PastS c pc S t) (hn:∀op∈u,op.act.touch?=none) (hd0:Deaf (t++u) 0=Deaf t 0):PastS c pc S (t++u):=by
 refine ⟨fun said=>noRace_appendMute (h.clean said) hn,fun i a ha hm=>?_,h.keep.1,h.keep.2,hd0.trans h.h0⟩;obtain ⟨x,hx,hxa⟩:=touch_of ha;rcases getElem?_append_cases hx with ⟨_,hx'⟩|⟨_,hxu⟩
 ·exact (h.known i a (by rw [touchAt_of hx'];exact hxa) hm).imp (·.app _) fun z=>⟨z.1.app _,z.2⟩
 ·rw [hn x hxu] at hxa;cases hxa
theorem PastS.take (h:PastS c pc S t) (f0:FuncId) (p0:String):YL (t++#[{g:=0,fn:=f0,pos:=p0,act:=.recvClosed c}]):=by
 generalize hu:(#[{g:=0,fn:=f0,pos:=p0,act:=.recvClosed c}]:Trace)=u;have hn:∀op∈u,op.act.touch?=none:=by
  intro op hop;subst hu;simp only [List.mem_toArray,List.mem_cons,List.not_mem_nil,or_false] at hop;subst hop;rfl
 have hq:∀g,∀op∈u,∀d,deafStep g d op=d:=by
  intro g op hop d;subst hu;simp only [List.mem_toArray,List.mem_cons,List.not_mem_nil,or_false] at hop;subst hop;rfl
 have e0:(t++u)[t.size]?=some {g:=0,fn:=f0,pos:=p0,act:=.recvClosed c}:=by subst hu;simp
 have edge:HappensBefore (t++u) pc t.size:=
  Relation.TransGen.single (.inr ⟨.closed h.keep.1 (act?_of e0),h.keep.2,⟨0,g?_of e0,by rw [deaf_old (Nat.le_refl _)];exact h.h0⟩⟩)
 have hk:∀i a,touchAt (t++u) i=some a→a.loc.isMemory=true→Knows (t++u) 0 i:=fun i a ha hm=>by
  obtain ⟨x,hx,hxa⟩:=touch_of ha;rcases getElem?_append_cases hx with ⟨_,hx'⟩|⟨_,hxu⟩
  ·rcases h.known i a (by rw [touchAt_of hx'];exact hxa) hm with hkn|⟨hb,_⟩
   ·exact hkn.app _
   ·exact ⟨t.size,_,e0,rfl,.inr ((hb.app u).hb edge)⟩
  ·rw [hn x hxu] at hxa;cases hxa
 refine ⟨fun said=>noRace_appendMute (h.clean said) hn,hk,fun i g hg hne ⟨x,hx,hm,_⟩=>?_,(Deaf_quiet (hq 0)).trans h.h0⟩;obtain ⟨q,z,hq',hz,hb⟩:=hk i x hx hm;rcases hb with rfl|hb
 ·rw [g?_of hq',hz] at hg;exact absurd (Option.some.inj hg).symm hne
 ·exact ⟨q,by rw [g?_of hq',hz],hb⟩
end
inductive Y1 (P:Program) (main:Bool) (R:World→World→Prop) (D:World→World→Array Event→Prop) (Stop:Goroutine→World→Prop):Goroutine→World→Prop
 |stop {g:Goroutine} {w:World} (hs:g.status=.running) (h:∀w₁,R w w₁→Stop g w₁):Y1 P main R D Stop g w
 |step {g:Goroutine} {w:World} (nx:World→Goroutine×World×Array Event) (hs:g.status=.running) (h1:∀w₁,R w w₁→stepG P main g w₁=.go (nx w₁).1 (nx w₁).2.1 (nx w₁).2.2∧D w₁ (nx w₁).2.1 (nx w₁).2.2)
   (h2:∀w₁,R w w₁→Y1 P main R D Stop (nx w₁).1 (nx w₁).2.1):Y1 P main R D Stop g w
section
variable {P:Program} {main:Bool} {R:World→World→Prop} {D:World→World→Array Event→Prop} {Stop:Goroutine→World→Prop} {g:Goroutine} {w w₁:World}
theorem Y1.running (h:Y1 P main R D Stop g w):g.status=.running:=by cases h<;>assumption
theorem Y1.rely (tr:∀a b c,R a b→R b c→R a c) (h:Y1 P main R D Stop g w) (hr:R w w₁):Y1 P main R D Stop g w₁:=by
 cases h with
 |stop hs h=>exact .stop hs fun w₂ h₂=>h w₂ (tr _ _ _ hr h₂)
 |step nx hs h1 h2=>exact .step nx hs (fun w₂ h₂=>h1 w₂ (tr _ _ _ hr h₂)) fun w₂ h₂=>h2 w₂ (tr _ _ _ hr h₂)
theorem Y1.mono {Stop':Goroutine→World→Prop} (hm:∀g w,Stop g w→Stop' g w) (h:Y1 P main R D Stop g w):Y1 P main R D Stop' g w:=by
 induction h with
 |stop hs h=>exact .stop hs fun w₂ h₂=>hm _ _ (h w₂ h₂)
 |step nx hs h1 _ ih=>exact .step nx hs h1 ih
theorem Y1.bind {Stop':Goroutine→World→Prop} (refl:∀w,R w w) (hm:∀g w,Stop g w→Y1 P main R D Stop' g w) (h:Y1 P main R D Stop g w):Y1 P main R D Stop' g w:=by
 induction h with
 | @stop g w hs h=>
  cases hm g w (h w (refl w)) with
  |stop _ hh=>exact .stop hs hh
  |step nx _ h1 h2=>exact .step nx hs h1 h2
 |step nx hs h1 _ ih=>exact .step nx hs h1 ih
theorem Y1.one (hs:g.status=.running) (h:∀w₁,R w w₁→∃g' w' es,stepG P main g w₁=.go g' w' es∧D w₁ w' es∧Y1 P main R D Stop g' w'):Y1 P main R D Stop g w:=by
 have hc:∀w₁,∃x:Goroutine×World×Array Event,R w w₁→stepG P main g w₁=.go x.1 x.2.1 x.2.2∧D w₁ x.2.1 x.2.2∧Y1 P main R D Stop x.1 x.2.1:=fun w₁=>by
  by_cases hr:R w w₁
  ·obtain ⟨g',w',es,a,b,c⟩:=h w₁ hr;exact ⟨(g',w',es),fun _=>⟨a,b,c⟩⟩
  ·exact ⟨(g,w,#[]),fun x=>absurd x hr⟩
 exact .step (fun w₁=>Classical.choose (hc w₁)) hs (fun w₁ hr=>⟨(Classical.choose_spec (hc w₁) hr).1,(Classical.choose_spec (hc w₁) hr).2.1⟩) fun w₁ hr=>(Classical.choose_spec (hc w₁) hr).2.2
end
structure YS (c:Nat) (R0 R1:World→World→Prop) (D0 D1:World→World→Array Event→Prop) (SL ML:World→Touch→Prop) (FS:World→Prop):Prop where
 t0:∀a b c,R0 a b→R0 b c→R0 a c
 t1:∀a b c,R1 a b→R1 b c→R1 a c
 at0:∀w d,R0 w (w.at d)
 at1:∀w d,R1 w (w.at d)
 ch0:∀w cl s r tm,R0 w (w.setChan c 0 #[] cl s r tm)
 ch1:∀w cl s r tm,R1 w (w.setChan c 0 #[] cl s r tm)
 d01:∀w w' es,D0 w w' es→R1 w w'
 d10:∀w w' es,D1 w w' es→R0 w w'
 c0:∀w w' es,D0 w w' es→w'.heap[c]?=w.heap[c]?
 c1:∀w w' es,D1 w w' es→w'.heap[c]?=w.heap[c]?
 e0:∀w w' es,D0 w w' es→∀e∈es,EvOk e∧∀x,(MemAct.ofEvent e).touch?=some x→x.loc.isMemory=true→ML w' x
 e1:∀w w' es,D1 w w' es→∀e∈es,EvOk e∧∀x,(MemAct.ofEvent e).touch?=some x→x.loc.isMemory=true→SL w' x
 s0:∀w w' a,R0 w w'→SL w a→SL w' a
 s1:∀w w' a,R1 w w'→SL w a→SL w' a
 m0:∀w w' a,R0 w w'→ML w a→ML w' a
 m1:∀w w' a,R1 w w'→ML w a→ML w' a
 ap:∀w,Apart (SL w) (ML w)
 sc:∀w,SL w ⟨.obj c,false,.atomic⟩
 f1:∀w w',R1 w w'→FS w→FS w'
section
variable (P:Program) (c:Nat) (z:Value) (R0 R1:World→World→Prop) (D0 D1:World→World→Array Event→Prop) (SL ML:World→Touch→Prop) (FS:World→Prop) (Fin:Goroutine→World→Prop)
def Y2J (Next:Goroutine→World→Prop) (g:Goroutine) (w:World):Prop:=
 ∃es,stepG P true g w=.comm (core g) #[rcase c z] true (.recv true) w es∧(∀e∈es,EvOk e∧∀x,(MemAct.ofEvent e).touch?=some x→x.loc.isMemory=true→ML w x)∧∀w₂,R0 w w₂→Next (core g) w₂
def StopA:List Value→Goroutine→World→Prop
 | []=>Y2J P c z R0 ML fun g w=>Fin (Go.Conc.served g (.tuple #[z,.bool false])) w
 |v::vs=>Y2J P c z R0 ML fun g w=>Y1 P true R0 D0 (StopA vs) (Go.Conc.served g (.tuple #[v,.bool true])) w
def Y5R (v:Value) (Next:Goroutine→World→Prop) (g:Goroutine) (w:World):Prop:=
 ∃g₂ z' es,stepG P false g w=.comm g₂ #[scase c v z'] true .send w es∧(∀e∈es,EvOk e∧∀x,(MemAct.ofEvent e).touch?=some x→x.loc.isMemory=true→SL w x)∧∀w₂,R1 w w₂→Next (Go.Conc.served g₂ undef) w₂
def Y0C (g:Goroutine) (w:World):Prop:=
 mayWake P g=true∧FS w∧∃g₂ n,QuitsD P n 0 g₂∧∀s r tm,w.heap[c]?=some (.chan 0 #[] false s r tm)→stepG P false g w=.go g₂ (w.setChan c 0 #[] true s r tm) (closeEvents c)
def StopB:List Value→Goroutine→World→Prop
 | []=>Y0C P c FS
 |v::vs=>Y5R P c R1 SL v fun g w=>Y1 P false R1 D1 (StopB vs) g w
end
section
variable {P:Program} {c k:Nat} {z:Value} {R0 R1:World→World→Prop} {D0 D1:World→World→Array Event→Prop} {SL ML:World→Touch→Prop} {FS:World→Prop} {Fin:Goroutine→World→Prop}
structure Ctx (P:Program) (c k:Nat) (SL ML:World→Touch→Prop) (gs:Array Goroutine) (w:World) (t:Trace) (q:Nat→Nat):Prop where
 k0:k≠0
 chan:∃s r tm,w.heap[c]?=some (.chan 0 #[] false s r tm)
 rest:∀i g,i≠0→i≠k→gs[i]?=some g→QuitsD P (q i) (Deaf t i) g
 above:∀j,gs.size≤j→Deaf t j=0
 past:X9 k (SL w) (ML w) t
def Res (P:Program) (Fin:Goroutine→World→Prop) (FS:World→Prop) (gs:Array Goroutine) (w:World) (sl:Option (Nat×Nat)) (t:Trace):Prop:=
 ∃N gs' a' w' sl' t' q',runNT P N (crowd gs w sl) t=(.next (crowd gs' w' sl'),t')∧gs'.size=gs.size∧gs'[0]?=some a'∧Fin a' w'∧FS w'∧Leavers P t' gs' q'∧YL t'
theorem Res.step {gs gs':Array Goroutine} {w w':World} {sl sl':Option (Nat×Nat)} {t ops:Trace} (h:stepT P (crowd gs w sl)=(.next (crowd gs' w' sl'),ops)) (hs:gs'.size=gs.size) (hr:Res P Fin FS gs' w' sl' (t++ops)):Res P Fin FS gs w sl t:=by
 obtain ⟨N,gs2,a2,w2,sl2,t2,q2,h1,h2,h3⟩:=hr;exact ⟨N+1,gs2,a2,w2,sl2,t2,q2,by simp only [runNT,h];exact h1,h2.trans hs,h3⟩
def Firm (P:Program) (c:Nat) (a:Goroutine):Prop:=∀g g' w' s r tm,w'.heap[c]?=some (.chan 0 #[] false s r tm)→woken P g g' w' a=a
theorem Xl {a:Goroutine} (h:a.status=.running):Firm P c a:=fun _ _ _ _ _ _ _=>woken_running h
theorem Y1y (g:Goroutine) (z:Value) (sh:CommShape):Firm P c (parked g #[rcase c z] sh):=fun _ _ _ _ _ _ h=>woken_recv_open _ _ h
theorem Y1B (g:Goroutine) (v z:Value) (sh:CommShape):Firm P c (parked g #[scase c v z] sh):=fun _ _ _ _ _ _ h=>woken_send_open _ _ h
theorem ofEvents_g {g:Nat} {fn:FuncId} {pos:String} {es:Array Event}:∀op∈MemOp.ofEvents g fn pos es,op.g=g:=fun op hop=>by obtain ⟨e,_,rfl⟩:=Go.Conc.mem_ofEvents hop;rfl
theorem Ctx.slip (U:YS c R0 R1 D0 D1 SL ML FS) {gs:Array Goroutine} {w:World} {t:Trace} {q:Nat→Nat} {a b g:Goroutine} {i d:Nat} {sl:Option (Nat×Nat)} (h:Ctx P c k SL ML gs w t q) (ha:gs[0]?=some a) (hb:gs[k]?=some b) (fa:Firm P c a) (fb:Firm P c b)
  (hi:gs[i]?=some g) (hg:g.status=.running) (hi0:i≠0) (hik:i≠k):
  ∃gs' ops q',runT P (crowd gs (w.at d) sl) i=(.next (crowd gs' (w.at d) sl),ops)∧gs'.size=gs.size∧gs'[0]?=some a∧gs'[k]?=some b∧Ctx P c k SL ML gs' (w.at d) (t++ops) q'∧sumTo gs'.size q'<sumTo gs.size q:=by
 obtain ⟨s,r,tm,hc⟩:=h.chan;have hq:=h.rest i g hi0 hik hi;have hlt:i<gs.size:=(Array.getElem?_eq_some_iff.1 hi).1;have hi0':(i==0)=false:=by simp;omega
 cases hqi:q i with
 |zero=>rw [hqi] at hq;rw [hq.1] at hg;cases hg
 |succ m=>
  rw [hqi] at hq;rcases hq with ⟨hf,_⟩|⟨_,g',es,hm,hstp,hq'⟩
  ·rw [hf] at hg;cases hg
  have hrunT:=runT_crowd_go (P:=P) (sl:=sl) (i:=i) hi (by rw [hi0'];exact hstp (w.at d));have hsz:((gs.map (woken P g g' (w.at d))).setIfInBounds i g').size=gs.size:=by simp
  have hsum:sumTo gs.size (upd q i m)+(m+1)=sumTo gs.size q+m:=by
   have:=sumTo_upd q m id hlt;simpa [hqi] using this
  have hc':(w.at d).heap[c]?=some (.chan 0 #[] false s r tm):=hc;have mutes:∀op∈MemOp.ofEvents i g.frame.fn g.frame.place es,op.act.touch?=none:=fun op hop=>by obtain ⟨e,he,rfl⟩:=Go.Conc.mem_ofEvents hop;exact touch_mute (hm e he)
  refine ⟨_,_,upd q i m,hrunT,hsz,?_,?_,⟨h.k0,⟨s,r,tm,hc'⟩,fun j x hj0 hjk hx=>?_,fun j hj=>?_,?_⟩,by rw [hsz];omega⟩
  ·rw [Array.getElem?_setIfInBounds_ne hi0,Array.getElem?_map,ha];simp [fa _ _ _ _ _ _ hc']
  ·rw [Array.getElem?_setIfInBounds_ne hik,Array.getElem?_map,hb];simp [fb _ _ _ _ _ _ hc']
  ·by_cases hji:i=j
   ·subst hji;rw [Array.getElem?_setIfInBounds_self_of_lt (by simpa using hlt)] at hx;obtain rfl:=Option.some.inj hx;rw [upd_same,Deaf_own];exact hq'
   ·rw [Array.getElem?_setIfInBounds_ne hji,Array.getElem?_map] at hx;obtain ⟨y,hy,rfl⟩:=Option.map_eq_some_iff.1 hx;have hqj:=h.rest j y hj0 hjk hy;rw [woken_quitsD hqj,upd_ne q m (Ne.symm hji),Deaf_other t hji _ ofEvents_g];exact hqj
  ·rw [Deaf_other t (g':=i) (by simp at hj;omega) _ ofEvents_g];exact h.above j (by simpa using hj)
  ·exact (h.past.mutes mutes (Deaf_other t hi0 _ ofEvents_g) (Deaf_other t hik _ ofEvents_g)).mono (fun x=>U.s0 _ _ x (U.at0 w d)) (fun x=>U.m0 _ _ x (U.at0 w d))
theorem Ctx.own0 (U:YS c R0 R1 D0 D1 SL ML FS) {gs:Array Goroutine} {w w':World} {t:Trace} {q:Nat→Nat} {a a' b:Goroutine} {d:Nat} {sl:Option (Nat×Nat)} {es:Array Event} (h:Ctx P c k SL ML gs w t q) (ha:gs[0]?=some a) (hb:gs[k]?=some b) (fb:Firm P c b)
  (hgo:stepG P true a (w.at d)=.go a' w' es) (hD:D0 (w.at d) w' es):
  ∃gs' ops,runT P (crowd gs (w.at d) sl) 0=(.next (crowd gs' w' sl),ops)∧gs'.size=gs.size∧gs'[0]?=some a'∧gs'[k]?=some b∧Ctx P c k SL ML gs' w' (t++ops) q:=by
 obtain ⟨s,r,tm,hc⟩:=h.chan;have hc':w'.heap[c]?=some (.chan 0 #[] false s r tm):=(U.c0 _ _ _ hD).trans hc;have hlt:0<gs.size:=(Array.getElem?_eq_some_iff.1 ha).1;have hrunT:=runT_crowd_go (P:=P) (sl:=sl) (i:=0) ha (show stepG P (0==0) a (w.at d)=_ from hgo);have hr:R1 w w':=U.t1 _ _ _ (U.at1 w d) (U.d01 _ _ _ hD);refine ⟨_,_,hrunT,by simp,by simp [hlt],?_,⟨h.k0,⟨s,r,tm,hc'⟩,fun j x hj0 hjk hx=>?_,fun j hj=>?_,?_⟩⟩
 ·rw [Array.getElem?_setIfInBounds_ne (Ne.symm h.k0),Array.getElem?_map,hb];simp [fb _ _ _ _ _ _ hc']
 ·rw [Array.getElem?_setIfInBounds_ne (Ne.symm hj0),Array.getElem?_map] at hx;obtain ⟨y,hy,rfl⟩:=Option.map_eq_some_iff.1 hx;have hqj:=h.rest j y hj0 hjk hy;rw [woken_quitsD hqj,Deaf_other t (Ne.symm hj0) _ ofEvents_g];exact hqj
 ·rw [Deaf_other t (g':=0) (by simp at hj;omega) _ ofEvents_g];exact h.above j (by simpa using hj)
 ·exact (h.past.mono (fun x=>U.s1 _ _ x hr) (fun x=>U.m1 _ _ x hr)).own0 h.k0 (U.ap w') (fun e he=>(U.e0 _ _ _ hD e he).1) (fun e he=>(U.e0 _ _ _ hD e he).2)
theorem Ctx.own1 (U:YS c R0 R1 D0 D1 SL ML FS) {gs:Array Goroutine} {w w':World} {t:Trace} {q:Nat→Nat} {a b b':Goroutine} {d:Nat} {sl:Option (Nat×Nat)} {es:Array Event} (h:Ctx P c k SL ML gs w t q) (ha:gs[0]?=some a) (hb:gs[k]?=some b) (fa:Firm P c a)
  (hgo:stepG P false b (w.at d)=.go b' w' es) (hD:D1 (w.at d) w' es):
  ∃gs' ops,runT P (crowd gs (w.at d) sl) k=(.next (crowd gs' w' sl),ops)∧gs'.size=gs.size∧gs'[0]?=some a∧gs'[k]?=some b'∧Ctx P c k SL ML gs' w' (t++ops) q:=by
 obtain ⟨s,r,tm,hc⟩:=h.chan;have hc':w'.heap[c]?=some (.chan 0 #[] false s r tm):=(U.c1 _ _ _ hD).trans hc;have hlt:k<gs.size:=(Array.getElem?_eq_some_iff.1 hb).1;have hk0:(k==0)=false:=by have:=h.k0;simp;omega
 have hrunT:=runT_crowd_go (P:=P) (sl:=sl) (i:=k) hb (by rw [hk0];exact hgo);have hr:R0 w w':=U.t0 _ _ _ (U.at0 w d) (U.d10 _ _ _ hD);refine ⟨_,_,hrunT,by simp,?_,?_,⟨h.k0,⟨s,r,tm,hc'⟩,fun j x hj0 hjk hx=>?_,fun j hj=>?_,?_⟩⟩
 ·rw [Array.getElem?_setIfInBounds_ne h.k0,Array.getElem?_map,ha];simp [fa _ _ _ _ _ _ hc']
 ·rw [Array.getElem?_setIfInBounds_self_of_lt (by simpa using hlt)]
 ·rw [Array.getElem?_setIfInBounds_ne (Ne.symm hjk),Array.getElem?_map] at hx;obtain ⟨y,hy,rfl⟩:=Option.map_eq_some_iff.1 hx;have hqj:=h.rest j y hj0 hjk hy;rw [woken_quitsD hqj,Deaf_other t (Ne.symm hjk) _ ofEvents_g];exact hqj
 ·rw [Deaf_other t (g':=k) (by simp at hj;omega) _ ofEvents_g];exact h.above j (by simpa using hj)
 ·exact (h.past.mono (fun x=>U.s0 _ _ x hr) (fun x=>U.m0 _ _ x hr)).ownk h.k0 (U.ap w') (fun e he=>(U.e1 _ _ _ hD e he).1) (fun e he=>(U.e1 _ _ _ hD e he).2)
end
end Go.Proofs.YtdoghgnifkgfdaaGreat.Mute
